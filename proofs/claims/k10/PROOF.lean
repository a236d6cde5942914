import PyProof.Rows.All
import Wide.All
import OpenK.AllK
import Wide.FinOn
import Lean
import PyProof.EqAt
import PyProof.EqKinds
import PyProof.TupleCall
import KE.KSortTup
import KE.KSortKey
import PySem.Challenge.RW_votesway_k10_texts_read
import KE.KRevIter
import PyProof.StrLawsIn
import PyProof.Rows.CatFin
import PyProof.Rows.SetFrom
import PyProof.DictIter
import PyProof.CollectWalk
import PyProof.SetRoads
import KE.KTops
set_option Elab.async false
set_option linter.all false
set_option maxRecDepth 100000
namespace L2
open PySem PySem.Spec PyProof.Rows
abbrev Key:=Sum Int Str
def keyIs:Key→Value→Bool
  | .inl k,v=>Value.isInt k v
  | .inr x,v=>Value.isStrOf x v
def keyH (w:World):Key→Int
  | .inl k=>hashInt k
  | .inr x=>hashStr w x
theorem keyIs_shape:∀ {k:Key}{v:Value},keyIs k v=true→(∃i t,k=Sum.inl i∧v=Value.int i t)∨(∃x t,k=Sum.inr x∧v=Value.str x t)
  | .inl i,v,h=>by
    obtain ⟨t,e⟩:=Value.isInt_shape (k:=i) (v:=v) h
    exact .inl ⟨i,t,rfl,e⟩
  | .inr x,v,h=>by
    obtain ⟨t,e⟩:=Value.isStrOf_shape (x:=x) (v:=v) h
    exact .inr ⟨x,t,rfl,e⟩
theorem key_ll (a b:Int):decide ((Sum.inl a:Key)=Sum.inl b)=(a == b):=by
  by_cases e:a=b
  · subst e; simp
  · have h:¬ (Sum.inl a:Key)=Sum.inl b:=fun q=>e (Sum.inl.inj q)
    rw [decide_eq_false h]
    exact (beq_eq_false_iff_ne.mpr e).symm
theorem key_rr (a b:Str):decide ((Sum.inr a:Key)=Sum.inr b)=decide (a=b):=by
  by_cases e:a=b
  · subst e; simp
  · have h:¬ (Sum.inr a:Key)=Sum.inr b:=fun q=>e (Sum.inr.inj q)
    rw [decide_eq_false h,decide_eq_false e]
theorem key_lr (a:Int)(b:Str):decide ((Sum.inl a:Key)=Sum.inr b)=false:=decide_eq_false (fun q=>nomatch q)
theorem key_rl (a:Str)(b:Int):decide ((Sum.inr a:Key)=Sum.inl b)=false:=decide_eq_false (fun q=>nomatch q)
def mixKind (prog:Program)(w:World):PySem.KeyKind prog w Key where
  is:=keyIs
  hash:=keyH w
  inj:=fun v a b ha hb=>by
    rcases keyIs_shape ha with ⟨i,t,rfl,rfl⟩ | ⟨x,t,rfl,rfl⟩
    · rcases keyIs_shape hb with ⟨j,u,rfl,e⟩ | ⟨y,u,rfl,e⟩
      · injection e with e1 _; rw [e1]
      · exact nomatch e
    · rcases keyIs_shape hb with ⟨j,u,rfl,e⟩ | ⟨y,u,rfl,e⟩
      · exact nomatch e
      · injection e with e1 _; rw [e1]
  byValue:=fun k v h=>by
    rcases keyIs_shape h with ⟨i,t,rfl,rfl⟩ | ⟨x,t,rfl,rfl⟩ <;> rfl
  pyHash:=fun hv h=>by
    rcases keyIs_shape hv with ⟨i,t,rfl,rfl⟩ | ⟨x,t,rfl,rfl⟩
    · exact wpAny_pyHash_int h
    · exact wpAny_pyHash_str h
  eqBool:=fun hu hv h=>by
    rcases keyIs_shape hu with ⟨i,t,rfl,rfl⟩ | ⟨x,t,rfl,rfl⟩
    · rcases keyIs_shape hv with ⟨j,u,rfl,rfl⟩ | ⟨y,u,rfl,rfl⟩
      · rw [key_ll] at h; exact wpAny_eqBool_int h
      · rw [key_lr] at h; exact SeqAt.EqAt.int_str i t y u _ _ _ _ h
    · rcases keyIs_shape hv with ⟨j,u,rfl,rfl⟩ | ⟨y,u,rfl,rfl⟩
      · rw [key_rl] at h; exact SeqAt.EqAt.str_int x t j u _ _ _ _ h
      · rw [key_rr] at h; exact wpAny_eqBool_str h
  «strs»:=fun k x t v h=>by
    rcases keyIs_shape h with ⟨i,u,rfl,e⟩ | ⟨y,u,rfl,e⟩
    · exact nomatch e
    · injection e with e1 _
      subst e1
      cases v <;> rfl
end L2
namespace L2
open PySem PySem.Spec PyProof.Rows
inductive V where
  | non | bl (b:Bool) | int (i:Int) | str (x:Str) | byt (b:Array UInt8) | flt (b:UInt64) | ref (a:Addr) | ty (n:String)
  deriving DecidableEq
def RelV:V→Value→Prop
  | .non,u=>u=Value.none
  | .bl b,u=>u=Value.bool b
  | .int i,u=>∃t,u=Value.int i t
  | .str x,u=>∃t,u=Value.str x t
  | .byt b,u=>∃t,u=Value.bytes b t
  | .flt b,u=>∃t,u=Value.float b t
  | .ref a,u=>u=Value.ref a
  | .ty n,u=>u=Value.type n
abbrev Vals:List V→List Value→Prop:=Paired RelV
theorem Vals.length {xs:List V}{us:List Value}(r:Vals xs us):xs.length=us.length:=Paired.length r
theorem Vals.get:∀ {xs:List V}{us:List Value}{i:Nat}{x:V},Vals xs us→xs[i]? = some x→∃u,us[i]? = some u∧RelV x u
  | _,_,_,_,.nil,e=>by simp at e
  | _,_,0,_,.cons r _,e=>by simp at e; subst e; exact ⟨_,rfl,r⟩
  | _,_,i+1,x,.cons _ t,e=>by
    obtain ⟨u,h1,h2⟩:=Vals.get (i:=i) (x:=x) t (by simpa using e)
    exact ⟨u,by simpa using h1,h2⟩
theorem Vals.append:∀ {xs ys:List V}{us ws:List Value},Vals xs us→Vals ys ws→Vals (xs++ys) (us++ws)
  | _,_,_,_,.nil,s=>s
  | _,_,_,_,.cons r t,s=>.cons r (Vals.append t s)
theorem Vals.take:∀ {xs:List V}{us:List Value}(n:Nat),Vals xs us→Vals (xs.take n) (us.take n)
  | _,_,0,_=>.nil
  | _,_,_+1,.nil=>.nil
  | _,_,n+1,.cons r t=>.cons r (Vals.take n t)
theorem Vals.drop:∀ {xs:List V}{us:List Value}(n:Nat),Vals xs us→Vals (xs.drop n) (us.drop n)
  | _,_,0,r=>r
  | _,_,_+1,.nil=>.nil
  | _,_,n+1,.cons _ t=>Vals.drop n t
def RelO:Option V→Option Value→Prop
  | some v,some u=>RelV v u
  | none,none=>True
  | _,_=>False
def KV {κ:Type}:List (κ×V)→List (κ×Value)→Prop:=Paired fun (p:κ×V) (q:κ×Value)=>p.1=q.1∧RelV p.2 q.2
def kV:Key→V
  | .inl i=>.int i
  | .inr x=>.str x
inductive HO where
  | lst (xs:List V)
  | tup (xs:List V)
  | dK (kvs:List (Key×V)) | dT (kvs:List (List Key×V))
  | set (S:Int→Bool) (n:Nat)
  | ins (C dx:Addr) (fs:List (Str×V))
  | own (x:Addr)
  | xd (fs:List (Str×V))
  | met (f x:Addr)
  | rng (lo hi:Int)
  | frz (o:Obj) (u:HO)
  | tbl (ps:Array Value)
  | ext (φ:Heap→Prop)
abbrev Hp:=Addr→Option HO
def upd (H:Hp)(a:Addr)(o:HO):Hp:=fun b=>if b=a then some o else H b
theorem upd_same {H:Hp}{a:Addr}{o:HO}:upd H a o a=some o:=by unfold upd; rw [if_pos rfl]
theorem upd_ne {H:Hp}{a b:Addr}{o:HO}(h:b ≠ a):upd H a o b=H b:=by unfold upd; rw [if_neg h]
theorem ne_of_none {H:Hp}{a b:Addr}{o:HO}(h:H a=some o)(h':H b=none):a ≠ b:=by
  intro e; subst e; rw [h] at h'; cases h'
section
variable (P:Program)(w:World)
def ObjOk (H:Hp)(h:Heap)(a:Addr):HO→Prop
  | .lst xs=>xs.length≤sizeLine ∧ ∃ (its:List Value) (n:Nat),Vals xs its∧h.get? a=some { cls:=.type "list",data:=.seq its.toArray n }
  | .tup xs=>xs.length≤sizeLine ∧ ∃its:List Value,Vals xs its∧IsTup h a its.toArray
  | .dK kvs=>kvs.length≤sizeLine∧(a == sysModules)=false ∧ ∃vs,KV kvs vs∧h.DictOf (mixKind P w) a vs
  | .dT kvs=>kvs.length≤sizeLine∧(a == sysModules)=false ∧ ∃xs:List (List Key×Addr×Value),
      Paired (fun (p:List Key×V) (q:List Key×Addr×Value)=>p.1=q.1∧H q.2.1=some (.tup (p.1.map kV))∧RelV p.2 q.2.2) kvs xs ∧
      ∃o es ep,h.get? a=some o∧o.ExactDict∧o.data = .dict es ep∧es.toList=xs.map (entryOfKey (tupleKind (mixKind P w)))∧(xs.map (·.1)).Nodup
  | .set S n=>h.SetOf (intKind P w) a S n
  | .ins C dx fs=>H dx=some (.own a)∧fs.length≤1000∧dx ≠ a∧h.get? a=some (PySem.W.instObj C dx) ∧
      ∃mA,h.Ns1 dx mA∧(∀f,RelO (fs.lookup f) (mA f))∧PySem.Within mA (fs.map (·.1))
  | .own _=>∃o,h.get? a=some o
  | .xd fs=>∃mA,h.Ns1 a mA ∧ ∀f,RelO (fs.lookup f) (mA f)
  | .rng lo hi=>∃t u v,h.get? a=some { cls:=.type "range",data:=.fields #[.int lo t,.int hi u,.int 1 v] }
  | .frz o u=>h.get? a=some o∧ObjOk H h a u
  | .tbl ps=>h.get? a=some { cls:=.none,data:=.fields ps }
  | .met f x=>h.get? a=some (PySem.W.methodObj (.ref f) (.ref x))
  | .ext φ=>φ h∧(∃o,h.get? a=some o) ∧ ∀h1 h2:Heap,φ h1→(∀o,h1.get? a=some o→h2.get? a=some o)→φ h2
def HOk (H:Hp)(h:Heap):Prop:=∀a o,H a=some o→ObjOk P w H h a o
end
section
variable {P:Program}{w:World}{H H':Hp}{h h':Heap}{a:Addr}{o:HO}
theorem ObjOk.lt (x:ObjOk P w H h a o):a < h.objs.size:=by
  cases o with
  | lst xs=>obtain ⟨_,_,_,_,e⟩:=x; exact Heap.lt_size e
  | tup xs=>obtain ⟨_,_,_,p⟩:=x; exact p.lt
  | dK kvs=>obtain ⟨_,_,_,_,o,_,_,e,_⟩:=x; exact Heap.lt_size e
  | dT kvs=>obtain ⟨_,_,_,_,o,_,_,e,_⟩:=x; exact Heap.lt_size e
  | set S n=>obtain ⟨o,_,_,_,e,_⟩:=x; exact Heap.lt_size e
  | ins C dx fs=>obtain ⟨_,_,_,e,_⟩:=x; exact Heap.lt_size e
  | own y=>obtain ⟨_,e⟩:=x; exact Heap.lt_size e
  | xd fs=>obtain ⟨_,⟨_,_,_,e,_⟩,_⟩:=x; exact Heap.lt_size e
  | rng lo hi=>obtain ⟨_,_,_,e⟩:=x; exact Heap.lt_size e
  | frz ob u=>obtain ⟨e,_⟩:=x; exact Heap.lt_size e
  | tbl ps=>exact Heap.lt_size (show h.get? a=some _ from x)
  | met f y=>exact Heap.lt_size (show h.get? a=some _ from x)
  | ext φ=>obtain ⟨_,⟨_,e⟩,_⟩:=x; exact Heap.lt_size e
theorem Paired.mapP {α β:Type}{F G:α→β→Prop}:∀ {l₁:List α}{l₂:List β},Paired F l₁ l₂→(∀a b,F a b→G a b)→Paired G l₁ l₂
  | _,_,.nil,_=>.nil
  | _,_,.cons r t,f=>.cons (f _ _ r) (Paired.mapP t f)
theorem Paired.imp' {α β:Type}{F G:α→β→Prop}(f:∀a b,F a b→G a b){l₁:List α}{l₂:List β}(r:Paired F l₁ l₂):Paired G l₁ l₂:=Paired.mapP r f
theorem ObjOk.stay (x:ObjOk P w H h a o)(k:∀b u,(b=a∨H b=some (.own a))→h.get? b=some u→h'.get? b=some u)(ho:∀b,H b=some (.own a)→H' b=some (.own a))(ht:∀b xs,H b=some (.tup xs)→H' b=some (.tup xs)):ObjOk P w H' h' a o:=by
  induction o with
  | lst xs=>obtain ⟨z,its,n,r,e⟩:=x; exact ⟨z,its,n,r,k _ _ (.inl rfl) e⟩
  | tup xs=>obtain ⟨z,its,r,ob,e,c⟩:=x; exact ⟨z,its,r,ob,k _ _ (.inl rfl) e,c⟩
  | dK kvs=>obtain ⟨z,y,vs,r,ob,es,ep,e,c⟩:=x; exact ⟨z,y,vs,r,ob,es,ep,k _ _ (.inl rfl) e,c⟩
  | dT kvs =>
    obtain ⟨z,y,xs,r,ob,es,ep,e,c⟩:=x
    exact ⟨z,y,xs,Paired.mapP r fun p q z=>⟨z.1,ht _ _ z.2.1,z.2.2⟩,ob,es,ep,k _ _ (.inl rfl) e,c⟩
  | set S n=>obtain ⟨ob,es,ep,t,e,c⟩:=x; exact ⟨ob,es,ep,t,k _ _ (.inl rfl) e,c⟩
  | ins C dx fs =>
    obtain ⟨d,z,ne,e,mA,⟨od,es,ep,e2,c⟩,r⟩:=x
    exact ⟨ho _ d,z,ne,k _ _ (.inl rfl) e,mA,⟨od,es,ep,k _ _ (.inr d) e2,c⟩,r⟩
  | own y=>obtain ⟨ob,e⟩:=x; exact ⟨ob,k _ _ (.inl rfl) e⟩
  | xd fs=>obtain ⟨mA,⟨od,es,ep,e,c⟩,r⟩:=x; exact ⟨mA,⟨od,es,ep,k _ _ (.inl rfl) e,c⟩,r⟩
  | rng lo hi=>obtain ⟨t,u,v,e⟩:=x; exact ⟨t,u,v,k _ _ (.inl rfl) e⟩
  | frz ob u ih=>obtain ⟨e,q⟩:=x; exact ⟨k _ _ (.inl rfl) e,ih q⟩
  | tbl ps =>
    have e:h.get? a=some { cls:=.none,data:=.fields ps }:=x
    show h'.get? a=some { cls:=.none,data:=.fields ps }
    exact k a _ (.inl rfl) e
  | met f y =>
    have e:h.get? a=some (PySem.W.methodObj (.ref f) (.ref y)):=x
    show h'.get? a=some (PySem.W.methodObj (.ref f) (.ref y))
    exact k a _ (.inl rfl) e
  | ext φ=>obtain ⟨p,⟨o,e⟩,st⟩:=x; exact ⟨st _ _ p fun o q=>k _ _ (.inl rfl) q,⟨o,k _ _ (.inl rfl) e⟩,st⟩
theorem HOk.lt (x:HOk P w H h)(e:H a=some o):a < h.objs.size:=(x a o e).lt
theorem HOk.fresh (x:HOk P w H h)(e:h.objs.size≤a):H a=none:=by
  cases q:H a with
  | none=>rfl
  | some u=>exact absurd (Nat.lt_of_lt_of_le (x.lt q) e) (Nat.lt_irrefl _)
theorem HOk.kept (x:HOk P w H h)(k:∀b u,h.get? b=some u→h'.get? b=some u):HOk P w H h':=fun a o e =>
  (x a o e).stay (fun b u _ q=>k b u q) (fun _ q=>q) fun _ _ q=>q
theorem HOk.laid (x:HOk P w H h)(k:∀b u,h.get? b=some u→h'.get? b=some u)(hp:h.objs.size≤a)(new:ObjOk P w (upd H a o) h' a o):HOk P w (upd H a o) h':=fun b u e=>by
  have hn:=x.fresh hp
  by_cases hb:b=a
  · subst hb; rw [upd_same] at e; cases e; exact new
  · rw [upd_ne hb] at e
    exact (x b u e).stay (fun c v _ q=>k c v q) (fun c q=>by rw [upd_ne (ne_of_none q hn)]; exact q) fun c xs q=>by rw [upd_ne (ne_of_none q hn)]; exact q
end
def Rd (H:Hp)(a:Addr)(u:HO):Prop:=H a=some u ∨ ∃o,H a=some (.frz o u)
theorem Rd.ok {P:Program}{w:World}{H:Hp}{h:Heap}{a:Addr}{u:HO}(r:Rd H a u)(x:HOk P w H h):ObjOk P w H h a u:=by
  rcases r with r | ⟨o,r⟩
  · exact x a u r
  · obtain ⟨_,q⟩:=x a _ r
    exact q
def Mut:Option HO→Prop
  | some (.lst _)=>True
  | some (.dK _)=>True
  | some (.dT _)=>True
  | some (.set _ _)=>True
  | some (.ins _ _ _)=>True
  | some (.ext _)=>True
  | _=>False
section
variable {P:Program}{w:World}{H:Hp}{h h':Heap}{x e:Addr}{o':HO}
theorem HOk.write (ok:HOk P w H h)(mu:Mut (H x))(he:e=x∨H e=some (.own x))(k:∀b u,b ≠ e→h.get? b=some u→h'.get? b=some u)(heo:∃u,h'.get? e=some u)(new:ObjOk P w (upd H x o') h' x o'):HOk P w (upd H x o') h':=fun b u q=>by
  have nown:∀c y,H c=some (.own y)→c ≠ x:=fun c y r z=>by subst z; rw [r] at mu; exact mu
  have ntup:∀c xs,H c=some (.tup xs)→c ≠ x:=fun c xs r z=>by subst z; rw [r] at mu; exact mu
  by_cases hb:b=x
  · subst hb; rw [upd_same] at q; cases q; exact new
  · rw [upd_ne hb] at q
    by_cases hbe:b=e
    · have q':H b=some (.own x):=by
        rcases he with z | z
        · exact absurd (hbe.trans z) hb
        · rw [hbe]; exact z
      rw [q] at q'; cases q'
      obtain ⟨v,hv⟩:=heo
      exact ⟨v,by rw [hbe]; exact hv⟩
    · refine (ok b u q).stay (fun c v hc r=>k c v ?_ r) (fun c r=>by rw [upd_ne (nown c b r)]; exact r) fun c xs r=>by rw [upd_ne (ntup c xs r)]; exact r
      rcases hc with rfl | hc
      · exact hbe
      · rintro rfl
        rcases he with z | z
        · exact nown c b hc z
        · rw [hc] at z; cases z; exact hb rfl
end
structure Un (fs ex:List Addr)(H H':Hp)(h h':Heap):Prop where
  keep:∀b o,h.get? b=some o→H b=none→b ∉ fs→b ∉ ex→h'.get? b=some o
  slot:∀b o,h.get? b=some o→H b=none→b∈fs→b ∉ ex→∃sl,h'.get? b=some { o with slots:=sl }
  free:∀b o,h.get? b=some o→H b=none→b ∉ ex→H' b=none
  there:∀b o,h.get? b=some o→b ∉ ex→∃o',h'.get? b=some o'
  tups:∀b xs,H b=some (.tup xs)→H' b=some (.tup xs)
  frzs:∀b o u,H b=some (.frz o u)→H' b=some (.frz o u)
  tbls:∀b ps,H b=some (.tbl ps)→∃more,H' b=some (.tbl (ps++more))
section
variable {fs fs' ex ex':List Addr}{H H1 H2:Hp}{h h1 h2 h':Heap}{a x e:Addr}{o:HO}
theorem Un.any (u:Un fs ex H H1 h h1){b:Addr}{ob:Obj}(q:h.get? b=some ob)(n:H b=none)(hx:b ∉ ex):∃sl,h1.get? b=some { ob with slots:=sl }:=by
  by_cases hb:b∈fs
  · exact u.slot b ob q n hb hx
  · exact ⟨ob.slots,u.keep b ob q n hb hx⟩
theorem Un.kept (k:∀b u,h.get? b=some u→h'.get? b=some u):Un fs ex H H h h':=
  ⟨fun b ob q _ _ _=>k b ob q,fun b ob q _ _ _=>⟨ob.slots,k b ob q⟩,fun _ _ _ n _=>n,fun b ob q _=>⟨ob,k b ob q⟩,fun _ _ q=>q,fun _ _ _ q=>q,fun _ ps q=>⟨#[],by rw [q]; simp⟩⟩
theorem Un.refl:Un fs ex H H h h:=Un.kept fun _ _ q=>q
theorem Un.laid (k:∀b u,h.get? b=some u→h'.get? b=some u)(hp:h.objs.size≤a)(hn:H a=none):Un fs ex H (upd H a o) h h' where
  keep:=fun b u q _ _ _=>k b u q
  slot:=fun b u q _ _ _=>⟨u.slots,k b u q⟩
  free:=fun b u q n _=>by rw [upd_ne (Nat.ne_of_lt (Nat.lt_of_lt_of_le (Heap.lt_size q) hp))]; exact n
  there:=fun b u q _=>⟨u,k b u q⟩
  tups:=fun b xs q=>by rw [upd_ne (ne_of_none q hn)]; exact q
  frzs:=fun b u xs q=>by rw [upd_ne (ne_of_none q hn)]; exact q
  tbls:=fun b ps q=>⟨#[],by rw [upd_ne (ne_of_none q hn),q]; simp⟩
theorem Un.write (mu:Mut (H x))(he:e=x∨H e=some (.own x))(k:∀b u,b ≠ e→h.get? b=some u→h'.get? b=some u)(heo:∃u,h'.get? e=some u):Un fs ex H (upd H x o) h h':=by
  have hx:∀b,H b=none→b ≠ x:=fun b n z=>by subst z; rw [n] at mu; exact mu
  have hb:∀b,H b=none→b ≠ e:=fun b n z=>by
    subst z
    rcases he with r | r
    · exact hx b n r
    · rw [n] at r; cases r
  have hm:∀b u,H b=some u→¬ Mut (some u)→b ≠ x:=fun b u q nm z=>by subst z; rw [q] at mu; exact nm mu
  refine ⟨fun b u q n _ _=>k b u (hb b n) q,fun b u q n _ _=>⟨u.slots,k b u (hb b n) q⟩,fun b u q n _=>by rw [upd_ne (hx b n)]; exact n,fun b u q _=>?_,
    fun b xs q=>by rw [upd_ne (hm b _ q fun z=>z)]; exact q,fun b u xs q=>by rw [upd_ne (hm b _ q fun z=>z)]; exact q,fun b ps q=>⟨#[],by rw [upd_ne (hm b _ q fun z=>z),q]; simp⟩⟩
  by_cases hbe:b=e
  · subst hbe; exact heo
  · exact ⟨u,k b u hbe q⟩
end
def trk (h:Heap)(H:Hp):List Addr:=(List.range h.objs.size).filter fun a=>(H a).isSome
def hidT (h:Heap)(H:Hp):Heap:=PySem.W.hideAll h (trk h H)
theorem hidT_size (h:Heap)(H:Hp):(hidT h H).objs.size=h.objs.size:=PySem.W.hideAll_size _ _
theorem hidT_get {h:Heap}{H:Hp}{b:Addr}{o:Obj}(e:h.get? b=some o)(n:H b=none):(hidT h H).get? b=some o:=
  PySem.W.hideAll_get _ e fun hm=>by
    have q:(H b).isSome=true:=(List.mem_filter.mp hm).2
    rw [n] at q; simp at q
theorem of_hidT {h:Heap}{H:Hp}{b:Addr}{o:Obj}(e:(hidT h H).get? b=some o):h.get? b=some o∧H b=none:=by
  have e':h.get? b=some o:=PySem.W.of_hideAll (trk h H) e
  refine ⟨e',?_⟩
  cases q:H b with
  | none=>rfl
  | some x =>
    have hm:b∈trk h H:=List.mem_filter.mpr ⟨List.mem_range.mpr (Heap.lt_size e'),by simp [q]⟩
    have z:(hidT h H).get? b=none:=PySem.W.hideAll_none (trk h H) hm
    rw [z] at e; cases e
end L2
namespace L2
open PySem PySem.Spec PyProof.Rows
structure Mod (K:PySem.W.Frag)(mg:Str→Option Value)(base:Heap):Prop where
  kin:K.In base
  glob:base.Ns mainGlobals mg
  blt:∃mb,base.Ns builtinsNs mb ∧ ∀x:Str,x ≠ "__name__" → mb x=bootBuiltins x
  nolimit:base.NoLimit
structure Cx where
  prog:Program
  w:World
  K:PySem.W.Frag
  mg:Str→Option Value
  base:Heap
  A:Around
  N:List Str
  s₀:Shared
  H₀:Hp
  env:Env
  outer:List Env
  stack:List Env
  ex:List Addr
  fn:Str→Bool
  calm:Bool
  pn:List (Addr×Obj)
  xe:Value→Shared→Prop
def frs (l:List Env):List Addr:=l.filterMap (·.frame)
abbrev Cx.fs (X:Cx):List Addr:=frs X.outer
def Vis (sc:Scope)(x:Str):Prop:=sc.names.lookup x=some .local∨sc.names.lookup x=some .cell∨sc.names.lookup x=some .free
def Loc (sc:Scope)(x:Str):Prop:=sc.names.lookup x=some .local∨sc.names.lookup x=some .cell
def Look (env:Env)(h:Heap)(m:Str→Option Value)(x:Str)(u:Value):Prop:=
  (env.kindOf x=some .local∧m x=some u)∨((env.kindOf x=some .cell∨env.kindOf x=some .free) ∧ ∃c,env.cells.lookup x=some c∧h.IsCell c (some u))
structure Cx.Ok (X:Cx):Prop where
  mod:Mod X.K X.mg X.base
  kind:X.env.scope.kind = .function
  glob:X.env.globals=mainGlobals
  blt:X.env.builtins=builtinsNs
  above:X.s₀.heap.objs.size≤X.env.locals
  inj:∀x y c,X.env.cells.lookup x=some c→X.env.cells.lookup y=some c→x=y
  has:∀x,(X.env.kindOf x=some .cell∨X.env.kindOf x=some .free)→∃c,X.env.cells.lookup x=some c
  cab:∀x c,X.fn x=true→X.env.cells.lookup x=some c→X.s₀.heap.objs.size≤c
  hd:X.calm=true→X.A.handled=none
  frames:X.A.frames=some X.stack
  stk:X.stack=X.outer∨(X.stack=X.env::X.outer∧X.env.frame=some X.env.locals)
  exf:∀b∈X.ex,b ≠ X.env.locals ∧ ∀x c,X.env.cells.lookup x=some c→c ≠ b
  bs:∀b o,X.base.get? b=some o→X.s₀.heap.get? b=some o∧X.H₀ b=none
  bsz:X.base.objs.size≤X.s₀.heap.objs.size
  noex:∀b o,X.base.get? b=some o→b ∉ X.ex
  exfs:∀b∈X.ex,b ∉ X.fs
  funs:X.s₀.heap.FunFrames X.base X.outer
  frf:∀b∈X.fs,X.H₀ b=none
structure Inv (X:Cx)(pins:List (Addr×Obj))(σ:List (Option V))(H:Hp)(s:Shared):Prop where
  ok:X.Ok
  os:s.os=X.s₀.os
  bare:AllBare s.gens
  base:Un X.fs X.ex X.H₀ H X.s₀.heap s.heap
  loc:∃m,s.heap.Ns X.env.locals m ∧ ∀ (i:Nat) (x:Str) (v:V),X.N[i]? = some x→σ[i]? = some (some v)→Vis X.env.scope x→∃u,RelV v u∧Look X.env s.heap m x u
  cell:∀x c,X.env.cells.lookup x=some c→∃v,s.heap.IsCell c v
  free:H X.env.locals=none
  freeC:∀x c,X.env.cells.lookup x=some c→H c=none
  pin:∀p∈X.pn++pins,s.heap.get? p.1=some p.2∧H p.1=none∧p.1 ≠ X.env.locals∧p.1 ∉ X.fs ∧ ∀v,p.2.data ≠ .cell v
  hok:HOk X.prog X.w H s.heap
  len:σ.length=X.N.length
section
variable {X:Cx}{pins:List (Addr×Obj)}{σ:List (Option V)}{H H':Hp}{s:Shared}{h':Heap}
theorem Cx.Ok.nofr (ok:X.Ok){b:Addr}{o:Obj}(e:X.base.get? b=some o):b ∉ X.fs:=fun hb=>by
  have:=(ok.funs.mem hb).1
  rw [e] at this; cases this
theorem Inv.bs (I:Inv X pins σ H s):∀b o,X.base.get? b=some o→s.heap.get? b=some o∧H b=none:=fun b o e =>
  ⟨I.base.keep b o (I.ok.bs b o e).1 (I.ok.bs b o e).2 (I.ok.nofr e) (I.ok.noex b o e),I.base.free b o (I.ok.bs b o e).1 (I.ok.bs b o e).2 (I.ok.noex b o e)⟩
theorem Inv.bk (I:Inv X pins σ H s):∀b o,X.base.get? b=some o→s.heap.get? b=some o:=fun b o e=>(I.bs b o e).1
theorem Inv.mod (I:Inv X pins σ H s):Mod X.K X.mg X.base:=I.ok.mod
theorem Inv.kIn (I:Inv X pins σ H s):X.K.In s.heap:=I.ok.mod.kin.keeps I.bk
theorem Inv.fr (I:Inv X pins σ H s):∃m,Fr X.base X.env.locals s.heap m:=
  let ⟨m,hn,_⟩:=I.loc
  ⟨m,hn,I.bk,Nat.le_trans I.ok.bsz I.ok.above⟩
theorem Inv.lt (I:Inv X pins σ H s):X.env.locals < s.heap.objs.size:=let ⟨_,hn,_⟩:=I.loc; hn.lt
theorem Inv.sz (I:Inv X pins σ H s):X.s₀.heap.objs.size≤s.heap.objs.size:=Nat.le_trans I.ok.above (Nat.le_of_lt I.lt)
theorem Inv.nofs (I:Inv X pins σ H s){a:Addr}(h:s.heap.objs.size≤a):a ∉ X.fs:=fun hb=>by
  obtain ⟨_,o,ho,_⟩:=I.ok.funs.mem hb
  exact absurd (Nat.lt_of_lt_of_le (Heap.lt_size ho) (Nat.le_trans I.sz h)) (Nat.lt_irrefl _)
theorem Inv.cne (I:Inv X pins σ H s):∀x c,X.env.cells.lookup x=some c→c ≠ X.env.locals:=fun x c e z=>by
  obtain ⟨v,o,ho,hd⟩:=I.cell x c e
  obtain ⟨m,⟨o',es,ep,ho',hd',_⟩,_⟩:=I.loc
  rw [z,ho'] at ho; cases ho; rw [hd'] at hd; cases hd
theorem Inv.funs (I:Inv X pins σ H s):s.heap.FunFrames X.base X.outer:=by
  have all:∀ (l:List Env),(∀b∈frs l,b∈X.fs)→X.s₀.heap.FunFrames X.base l→s.heap.FunFrames X.base l:=by
    intro l
    induction l with
    | nil=>intro _ _; trivial
    | cons env r ih =>
      intro hs hl
      obtain ⟨hk,⟨L,o,hf,hn,ho,hd⟩,hr⟩:=hl
      have hL:L∈X.fs:=hs L (by unfold frs; rw [List.filterMap_cons,hf]; exact List.mem_cons_self)
      obtain ⟨sl,e⟩:=I.base.slot L o ho (I.ok.frf L hL) hL fun z=>I.ok.exfs L z hL
      exact ⟨hk,⟨L,_,hf,hn,e,hd⟩,ih (fun b hb=>hs b (by unfold frs; rw [List.filterMap_cons,hf]; exact List.mem_cons_of_mem _ hb)) hr⟩
  exact all X.outer (fun _ hb=>hb) I.ok.funs
theorem Inv.stack (I:Inv X pins σ H s):s.heap.FunFrames X.base X.stack:=by
  rcases I.ok.stk with e | ⟨e,hf⟩
  · rw [e]; exact I.funs
  · rw [e]
    obtain ⟨m,hn,_⟩:=I.loc
    refine .cons (by rw [I.ok.kind]; decide) hf hn ?_ I.funs
    exact Heap.get?_none_of_le (Nat.le_trans I.ok.bsz I.ok.above)
theorem Inv.stkSub (I:Inv X pins σ H s):∀b∈frs X.stack,b∈X.env.locals::X.fs:=fun b hb=>by
  rcases I.ok.stk with e | ⟨e,hf⟩
  · rw [e] at hb; exact List.mem_cons_of_mem _ hb
  · rw [e] at hb
    unfold frs at hb
    rw [List.filterMap_cons,hf] at hb
    exact hb
theorem Inv.stkFree (I:Inv X pins σ H s):∀b∈frs X.stack,H b=none:=fun b hb=>by
  rcases List.mem_cons.mp (I.stkSub b hb) with e | hb
  · rw [e]; exact I.free
  · obtain ⟨_,o,ho,_⟩:=I.ok.funs.mem hb
    exact I.base.free b o ho (I.ok.frf b hb) fun z=>I.ok.exfs b z hb
theorem Inv.step {g':Array GenState}{t':Nat}{d':Drawn}{ch:List Addr}(I:Inv X pins σ H s)(hch:∀b∈ch,(b∈X.ex∨X.s₀.heap.objs.size≤b)∧b ≠ X.env.locals∧(∀x c,X.env.cells.lookup x=some c→c ≠ b) ∧ ∀p∈X.pn++pins,p.1 ≠ b)(keep:∀b o,b ≠ X.env.locals→b ∉ X.fs→b ∉ ch→s.heap.get? b=some o→H b=none→h'.get? b=some o)(slot:∀b o,b ≠ X.env.locals→b∈X.fs→b ∉ ch→s.heap.get? b=some o→H b=none→∃sl,h'.get? b=some { o with slots:=sl })(free:∀b o,b ∉ ch→s.heap.get? b=some o→H b=none→H' b=none)(there:∀b o,b ∉ ch→s.heap.get? b=some o→∃o',h'.get? b=some o')(tups:∀b xs,H b=some (.tup xs)→H' b=some (.tup xs))(frzs:∀b o u,H b=some (.frz o u)→H' b=some (.frz o u))(tbls:∀b ps,H b=some (.tbl ps)→∃more,H' b=some (.tbl (ps++more)))(ns:∀m,s.heap.Ns X.env.locals m→h'.Ns X.env.locals m)(hok:HOk X.prog X.w H' h')(hg:AllBare g') :
    Inv X pins σ H' { s with heap:=h',gens:=g',drawn:=d',toks:=t' }:=by
  have neL:∀b o,X.s₀.heap.get? b=some o→b ≠ X.env.locals:=fun b o e=>Nat.ne_of_lt (Nat.lt_of_lt_of_le (Heap.lt_size e) I.ok.above)
  have neC:∀b o,X.s₀.heap.get? b=some o→b ∉ X.ex→b ∉ ch:=fun b o e hx hb=>by
    rcases (hch b hb).1 with z | z
    · exact hx z
    · exact absurd (Nat.lt_of_lt_of_le (Heap.lt_size e) z) (Nat.lt_irrefl _)
  have cellK:∀x c,X.env.cells.lookup x=some c→∀v,s.heap.IsCell c v→h'.IsCell c v:=fun x c e v ⟨o,ho,hd⟩=>by
    have nch:c ∉ ch:=fun z=>(hch c z).2.2.1 x c e rfl
    by_cases hc:c∈X.fs
    · obtain ⟨sl,q⟩:=slot c o (I.cne x c e) hc nch ho (I.freeC x c e)
      exact ⟨_,q,hd⟩
    · exact ⟨o,keep c o (I.cne x c e) hc nch ho (I.freeC x c e),hd⟩
  refine ⟨I.ok,I.os,hg,⟨fun b o e n hb hx=>?_,fun b o e n hb hx=>?_,fun b o e n hx=>?_,fun b o e hx=>?_,fun b xs e=>tups b xs (I.base.tups b xs e),fun b o xs e=>frzs b o xs (I.base.frzs b o xs e),fun b ps e=>?_⟩,?_,fun x c e=>?_,?_,fun x c e=>?_,fun p hp=>?_,hok,I.len⟩
  · exact keep b o (neL b o e) hb (neC b o e hx) (I.base.keep b o e n hb hx) (I.base.free b o e n hx)
  · obtain ⟨sl,e1⟩:=I.base.slot b o e n hb hx
    obtain ⟨sl',e2⟩:=slot b _ (neL b o e) hb (neC b o e hx) e1 (I.base.free b o e n hx)
    exact ⟨sl',e2⟩
  · obtain ⟨o',e1⟩:=I.base.there b o e hx
    exact free b o' (neC b o e hx) e1 (I.base.free b o e n hx)
  · obtain ⟨o',e1⟩:=I.base.there b o e hx
    exact there b o' (neC b o e hx) e1
  · obtain ⟨m1,e1⟩:=I.base.tbls b ps e
    obtain ⟨m2,e2⟩:=tbls b _ e1
    exact ⟨m1++m2,by rw [e2,Array.append_assoc]⟩
  · obtain ⟨m,hn,hl⟩:=I.loc
    refine ⟨m,ns m hn,fun i x v e1 e2 e3=>?_⟩
    obtain ⟨u,r,l⟩:=hl i x v e1 e2 e3
    refine ⟨u,r,?_⟩
    rcases l with l | ⟨k,c,e,z⟩
    · exact .inl l
    · exact .inr ⟨k,c,e,cellK x c e _ z⟩
  · obtain ⟨v,z⟩:=I.cell x c e
    exact ⟨v,cellK x c e v z⟩
  · obtain ⟨m,⟨o,_,_,ho,_⟩,_⟩:=I.loc
    exact free _ o (fun z=>(hch _ z).2.1 rfl) ho I.free
  · obtain ⟨v,o,ho,hd⟩:=I.cell x c e
    exact free c o (fun z=>(hch c z).2.2.1 x c e rfl) ho (I.freeC x c e)
  · obtain ⟨e,n,ne,nf,d⟩:=I.pin p hp
    have nch:p.1 ∉ ch:=fun z=>(hch p.1 z).2.2.2 p hp rfl
    exact ⟨keep p.1 p.2 ne nf nch e n,free p.1 p.2 nch e n,ne,nf,d⟩
theorem Inv.un {t':Nat}(I:Inv X pins σ H s)(u:Un X.fs [] H H' s.heap h')(hok:HOk X.prog X.w H' h'):Inv X pins σ H' { s with heap:=h',toks:=t' }:=by
  obtain ⟨m,⟨o,es,ep,ho,r⟩,_⟩:=id I.loc
  obtain ⟨sl,hL⟩:=u.any ho I.free (by simp)
  exact I.step (g':=s.gens) (d':=s.drawn) (ch:=[]) (fun _ z=>nomatch z) (fun b o _ hb _ e n=>u.keep b o e n hb (by simp)) (fun b o _ hb _ e n=>u.slot b o e n hb (by simp)) (fun b o _ e n=>u.free b o e n (by simp)) (fun b o _ e=>u.there b o e (by simp)) u.tups u.frzs u.tbls (fun m' hm=>by
    obtain ⟨o',es',ep',ho',r'⟩:=hm
    rw [ho] at ho'; cases ho'
    exact ⟨_,es',ep',hL,r'⟩) hok I.bare
theorem Inv.call {g':Array GenState}{t':Nat}{d':Drawn}{ch:List Addr}(I:Inv X pins σ H s)(u:Un (frs X.stack) ch H H' s.heap h')(hok:HOk X.prog X.w H' h')(hg:AllBare g')(hch:∀b∈ch,(b∈X.ex∨X.s₀.heap.objs.size≤b)∧b ≠ X.env.locals∧(∀x c,X.env.cells.lookup x=some c→c ≠ b) ∧ ∀p∈X.pn++pins,p.1 ≠ b) :
    Inv X pins σ H' { s with heap:=h',gens:=g',drawn:=d',toks:=t' }:=by
  obtain ⟨m,⟨o,es,ep,ho,r⟩,_⟩:=id I.loc
  obtain ⟨sl,hL⟩:=u.any ho I.free fun z=>(hch _ z).2.1 rfl
  exact I.step (ch:=ch) hch (fun b o hL hb hc e n=>u.keep b o e n (fun z=>(List.mem_cons.mp (I.stkSub b z)).elim hL hb) hc) (fun b o _ _ hc e n=>u.any e n hc) (fun b o hc e n=>u.free b o e n hc) (fun b o hc e=>u.there b o e hc) u.tups u.frzs u.tbls (fun m' hm=>by
    obtain ⟨o',es',ep',ho',r'⟩:=hm
    rw [ho] at ho'; cases ho'
    exact ⟨_,es',ep',hL,r'⟩) hok hg
theorem Inv.turned {t':Nat}{it:Addr}(I:Inv X pins σ H s)(k:∀b o,b ≠ it→s.heap.get? b=some o→h'.get? b=some o)(hn:H it=none)(hL:it ≠ X.env.locals)(h1:it∈X.ex∨X.s₀.heap.objs.size≤it)(h2:∀x c,X.env.cells.lookup x=some c→c ≠ it)(h3:∀p∈X.pn++pins,p.1 ≠ it):Inv X pins σ H { s with heap:=h',toks:=t' }:=by
  have nit:∀b u,H b=some u→b ≠ it:=fun b u e z=>by rw [z,hn] at e; cases e
  refine I.step (g':=s.gens) (d':=s.drawn) (ch:=[it]) (fun b hb=>?_) (fun b o _ _ hc e _=>k b o (fun z=>hc (by simp [z])) e) (fun b o _ _ hc e _=>⟨o.slots,k b o (fun z=>hc (by simp [z])) e⟩) (fun _ _ _ _ n=>n)
    (fun b o hc e=>⟨o,k b o (fun z=>hc (by simp [z])) e⟩) (fun _ _ e=>e) (fun _ _ _ e=>e) (fun b ps e=>⟨#[],by rw [e]; simp⟩) (fun m hm=>?_) (fun b u e=>?_) I.bare
  · have e:b=it:=by simpa using hb
    subst e
    exact ⟨h1,hL,h2,h3⟩
  · obtain ⟨o,es,ep,ho,r⟩:=hm
    exact ⟨o,es,ep,k _ o (Ne.symm hL) ho,r⟩
  · refine (I.hok b u e).stay (fun c v hc q=>k c v ?_ q) (fun _ q=>q) fun _ _ q=>q
    rcases hc with z | z
    · rw [z]; exact nit b u e
    · exact nit c _ z
theorem Inv.tok (I:Inv X pins σ H s)(t:Nat):Inv X pins σ H { s with toks:=t }:=I.un (h':=s.heap) (t':=t) Un.refl I.hok
theorem Inv.kept {t':Nat}(I:Inv X pins σ H s)(k:∀b u,s.heap.get? b=some u→h'.get? b=some u):Inv X pins σ H { s with heap:=h',toks:=t' }:=I.un (Un.kept k) (I.hok.kept k)
theorem Inv.laid {a:Addr}{o:HO}{t':Nat}(I:Inv X pins σ H s)(k:∀b u,s.heap.get? b=some u→h'.get? b=some u)(hp:s.heap.objs.size≤a)(new:ObjOk X.prog X.w (upd H a o) h' a o) :
    Inv X pins σ (upd H a o) { s with heap:=h',toks:=t' }:=I.un (Un.laid k hp (I.hok.fresh hp)) (I.hok.laid k hp new)
theorem Inv.write {x e:Addr}{o:HO}{t':Nat}(I:Inv X pins σ H s)(mu:Mut (H x))(he:e=x∨H e=some (.own x))(k:∀b u,b ≠ e→s.heap.get? b=some u→h'.get? b=some u)(heo:∃u,h'.get? e=some u)(new:ObjOk X.prog X.w (upd H x o) h' x o):Inv X pins σ (upd H x o) { s with heap:=h',toks:=t' }:=I.un (Un.write mu he k heo) (I.hok.write mu he k heo new)
theorem Inv.pins_of {pins':List (Addr×Obj)}(I:Inv X pins σ H s)(h:∀p∈pins',s.heap.get? p.1=some p.2∧H p.1=none∧p.1 ≠ X.env.locals∧p.1 ∉ X.fs ∧ ∀v,p.2.data ≠ .cell v):Inv X pins' σ H s:=
  ⟨I.ok,I.os,I.bare,I.base,I.loc,I.cell,I.free,I.freeC,fun p hp=>(List.mem_append.mp hp).elim (fun z=>I.pin p (List.mem_append_left _ z)) (h p),I.hok,I.len⟩
theorem nodup_ix {N:List Str}(hN:N.Nodup){i j:Nat}{x:Str}(a:N[i]? = some x)(b:N[j]? = some x):i=j:=by
  obtain ⟨h1,e1⟩:=List.getElem?_eq_some_iff.mp a
  obtain ⟨h2,e2⟩:=List.getElem?_eq_some_iff.mp b
  exact (List.getElem_inj hN).mp (e1.trans e2.symm)
theorem store_ok2 {M:Model}{A:Around}{E:Value→Shared→Prop}{i:Nat}{x:Str}{v:V}{u:Value}{Q:Unit→Shared→Prop}(I:Inv X pins σ H s)(hN:X.N.Nodup)(hi:X.N[i]? = some x)(hx:Loc X.env.scope x)(r:RelV v u)(h:∀s',Inv X pins (σ.set i (some v)) H s'→(∃a,Heap.SameBut a s.heap s'.heap∧(a=X.env.locals∨X.env.cells.lookup x=some a))→Q () s')(hf:X.fn x=true∨X.env.scope.names.lookup x=some .local:=by first | exact .inl rfl | exact .inr rfl | assumption):wpAny M A (storeName X.env x u) Q E s:=by
  obtain ⟨m,hn,hl⟩:=id I.loc
  have hcls:(X.env.scope.kind == .class || (X.env.scope.kind == .module && X.env.locals != X.env.globals))=false:=by rw [I.ok.kind]; rfl
  have hiσ:i < σ.length:=by rw [I.len]; exact (List.getElem?_eq_some_iff.mp hi).1
  have cne:=I.cne
  have tracked:∀ {a:Addr}{h':Heap},(∃o,s.heap.get? a=some o∧H a=none)→Heap.SameBut a s.heap h'→HOk X.prog X.w H h':=fun {a h'} ha hs b ob e=>by
    obtain ⟨_,_,hfree⟩:=ha
    refine (I.hok b ob e).stay (fun c w' hc q=>(hs.2 c ?_).trans q) (fun _ q=>q) fun _ _ q=>q
    rintro rfl
    rcases hc with rfl | hc
    · rw [hfree] at e; cases e
    · rw [hfree] at hc; cases hc
  rcases hx with hk | hk
  · refine wpAny_storeName_local hk hn (fun h' hn' hs=>?_) hcls
    obtain ⟨oL,_,_,hoL,_⟩:=id hn
    refine h _ ⟨I.ok,I.os,I.bare,⟨fun b o e n hb hx=>?_,fun b o e n hb hx=>?_,I.base.free,fun b o e hx=>?_,I.base.tups,I.base.frzs,I.base.tbls⟩,⟨_,hn',fun j y v' e1 e2 e3=>?_⟩,fun y c e=>?_,I.free,I.freeC,fun p hp=>?_,tracked ⟨oL,hoL,I.free⟩ hs,by simpa using I.len⟩ ⟨_,hs,.inl rfl⟩
    · exact (hs.2 b (Nat.ne_of_lt (Nat.lt_of_lt_of_le (Heap.lt_size e) I.ok.above))).trans (I.base.keep b o e n hb hx)
    · obtain ⟨sl,e1⟩:=I.base.slot b o e n hb hx
      exact ⟨sl,(hs.2 b (Nat.ne_of_lt (Nat.lt_of_lt_of_le (Heap.lt_size e) I.ok.above))).trans e1⟩
    · obtain ⟨o',e1⟩:=I.base.there b o e hx
      exact ⟨o',(hs.2 b (Nat.ne_of_lt (Nat.lt_of_lt_of_le (Heap.lt_size e) I.ok.above))).trans e1⟩
    · by_cases hj:j=i
      · subst hj
        rw [hi] at e1; cases e1
        rw [List.getElem?_set_self hiσ] at e2
        cases e2
        exact ⟨u,r,.inl ⟨hk,by simp⟩⟩
      · rw [List.getElem?_set_ne (Ne.symm hj)] at e2
        obtain ⟨u',r',q⟩:=hl j y v' e1 e2 e3
        refine ⟨u',r',?_⟩
        rcases q with ⟨k,e⟩ | ⟨k,c,e,z⟩
        · refine .inl ⟨k,?_⟩
          have:y ≠ x:=fun e=>hj (nodup_ix hN e1 (e ▸ hi))
          simp [this,e]
        · exact .inr ⟨k,c,e,z.sameBut hs (cne y c e)⟩
    · obtain ⟨w',z⟩:=I.cell y c e
      exact ⟨w',z.sameBut hs (cne y c e)⟩
    · obtain ⟨e,n,ne,nf,d⟩:=I.pin p hp
      exact ⟨(hs.2 p.1 ne).trans e,n,ne,nf,d⟩
  · have hfn:X.fn x=true:=by
      rcases hf with z | z
      · exact z
      · rw [z] at hk; cases hk
    obtain ⟨c,hc⟩:=I.ok.has x (.inl hk)
    obtain ⟨w',z⟩:=I.cell x c hc
    refine wpAny_storeName_cell I.ok.kind hk hc z (fun h' hc' hs=>?_)
    obtain ⟨oc,hoc,hocd⟩:=id z
    refine h { s with heap:=h' } ⟨I.ok,I.os,I.bare,⟨fun b o e n hb hx=>?_,fun b o e n hb hx=>?_,I.base.free,fun b o e hx=>?_,I.base.tups,I.base.frzs,I.base.tbls⟩,⟨m,hn.sameBut hs (Ne.symm (cne x c hc)),fun j y v' e1 e2 e3=>?_⟩,fun y c' e=>?_,I.free,I.freeC,fun p hp=>?_,tracked ⟨oc,hoc,I.freeC x c hc⟩ hs,by simpa using I.len⟩ ⟨c,hs,.inr hc⟩
    · exact (hs.2 b (Nat.ne_of_lt (Nat.lt_of_lt_of_le (Heap.lt_size e) (I.ok.cab x c hfn hc)))).trans (I.base.keep b o e n hb hx)
    · obtain ⟨sl,e1⟩:=I.base.slot b o e n hb hx
      exact ⟨sl,(hs.2 b (Nat.ne_of_lt (Nat.lt_of_lt_of_le (Heap.lt_size e) (I.ok.cab x c hfn hc)))).trans e1⟩
    · obtain ⟨o',e1⟩:=I.base.there b o e hx
      exact ⟨o',(hs.2 b (Nat.ne_of_lt (Nat.lt_of_lt_of_le (Heap.lt_size e) (I.ok.cab x c hfn hc)))).trans e1⟩
    · by_cases hj:j=i
      · subst hj
        rw [hi] at e1; cases e1
        rw [List.getElem?_set_self hiσ] at e2
        cases e2
        exact ⟨u,r,.inr ⟨.inl hk,c,hc,hc'⟩⟩
      · rw [List.getElem?_set_ne (Ne.symm hj)] at e2
        obtain ⟨u',r',q⟩:=hl j y v' e1 e2 e3
        refine ⟨u',r',?_⟩
        rcases q with q | ⟨k,c',e,z'⟩
        · exact .inl q
        · refine .inr ⟨k,c',e,z'.sameBut hs ?_⟩
          rintro rfl
          exact hj (nodup_ix hN e1 (I.ok.inj _ _ _ e hc ▸ hi))
    · by_cases hcc:c'=c
      · subst hcc; exact ⟨_,hc'⟩
      · obtain ⟨w2,z2⟩:=I.cell y c' e
        exact ⟨w2,z2.sameBut hs hcc⟩
    · obtain ⟨e,n,ne,nf,d⟩:=I.pin p hp
      refine ⟨(hs.2 p.1 ?_).trans e,n,ne,nf,d⟩
      intro q
      rw [q,hoc] at e
      have q':oc=p.2:=Option.some.inj e
      exact d w' (by rw [← q']; exact hocd)
theorem store_ok {M:Model}{A:Around}{E:Value→Shared→Prop}{i:Nat}{x:Str}{v:V}{u:Value}{Q:Unit→Shared→Prop}(I:Inv X pins σ H s)(hN:X.N.Nodup)(hi:X.N[i]? = some x)(hx:Loc X.env.scope x)(r:RelV v u)(h:∀s',Inv X pins (σ.set i (some v)) H s'→Q () s')(hf:X.fn x=true∨X.env.scope.names.lookup x=some .local:=by first | exact .inl rfl | exact .inr rfl | assumption):wpAny M A (storeName X.env x u) Q E s:=
  store_ok2 I hN hi hx r (fun s' I' _=>h s' I') hf
theorem Inv.call' {s':Shared}{ch:List Addr}(I:Inv X pins σ H s)(ho:s'.os=s.os)(u:Un (frs X.stack) ch H H' s.heap s'.heap)(hok:HOk X.prog X.w H' s'.heap)(hg:AllBare s'.gens)(hch:∀b∈ch,(b∈X.ex∨X.s₀.heap.objs.size≤b)∧b ≠ X.env.locals∧(∀x c,X.env.cells.lookup x=some c→c ≠ b) ∧ ∀p∈X.pn++pins,p.1 ≠ b):Inv X pins σ H' s':=by
  obtain ⟨h',g',d',t',o'⟩:=s'
  have e:o'=s.os:=ho
  subst e
  exact I.call (g':=g') (t':=t') (d':=d') u hok hg hch
end
abbrev XK:=Value→Option Addr→Hp→Prop
abbrev St:=List (Option V)
abbrev VK:=V→Hp→Prop
abbrev TE:=St→Hp→VK→Prop
abbrev TT:=St→Hp→(Bool→Hp→Prop)→Prop
abbrev TA:=St→Hp→(List V→Hp→Prop)→Prop
structure Ends where
  nx:St→Hp→Prop
  rt:VK
  bk:St→Hp→Prop:=fun _ _=>False
  ct:St→Hp→Prop:=fun _ _=>False
abbrev TS:=Ends→St→Hp→Prop
def EP (X:Cx)(pins:List (Addr×Obj))(σ:St)(Q:VK)(u:Value)(s':Shared):Prop:=∃v H',Inv X pins σ H' s'∧RelV v u∧Q v H'
def TP (X:Cx)(pins:List (Addr×Obj))(σ:St)(Q:Bool→Hp→Prop)(b:Bool)(s':Shared):Prop:=∃H',Inv X pins σ H' s'∧Q b H'
def AP (X:Cx)(pins:List (Addr×Obj))(σ:St)(Q:List V→Hp→Prop)(us:List Value)(s':Shared):Prop:=∃vs H',Inv X pins σ H' s'∧Vals vs us∧Q vs H'
def SP (X:Cx)(pins:List (Addr×Obj))(D:Ends)(f:Flow)(s':Shared):Prop:=
  match f with
  | .next=>∃σ' H',Inv X pins σ' H' s'∧D.nx σ' H'
  | .brk=>∃σ' H',Inv X pins σ' H' s'∧D.bk σ' H'
  | .cont=>∃σ' H',Inv X pins σ' H' s'∧D.ct σ' H'
  | .ret u=>∃v σ' H',Inv X pins σ' H' s'∧RelV v u∧D.rt v H'
def PE (X:Cx)(e:Expr)(t:TE):Prop:=
  ∀ (pins:List (Addr×Obj)) (s:Shared) (σ:St) (H:Hp) (Q:VK),Inv X pins σ H s→t σ H Q→wpAny (model X.prog X.w) X.A (eval e X.env) (EP X pins σ Q) X.xe s
def PT (X:Cx)(e:Expr)(t:TT):Prop:=
  ∀ (pins:List (Addr×Obj)) (s:Shared) (σ:St) (H:Hp) (Q:Bool→Hp→Prop),Inv X pins σ H s→t σ H Q→wpAny (model X.prog X.w) X.A (isTrue e X.env (eval e X.env)) (TP X pins σ Q) X.xe s
def PW (X:Cx)(e:Expr)(t:TT):Prop:=
  ∀ (whole:Sem Value) (pins:List (Addr×Obj)) (s:Shared) (σ:St) (H:Hp) (Q:Bool→Hp→Prop),Inv X pins σ H s→t σ H Q→wpAny (model X.prog X.w) X.A (isTrue e X.env whole) (TP X pins σ Q) X.xe s
def PA (X:Cx)(es:List Expr)(t:TA):Prop:=
  ∀ (pos:Pos) (pins:List (Addr×Obj)) (s:Shared) (σ:St) (H:Hp) (Q:List V→Hp→Prop),Inv X pins σ H s→t σ H Q→wpAny (model X.prog X.w) X.A (spliced (backTo pos (starEach es X.env))) (AP X pins σ Q) X.xe s
def PS (X:Cx)(st:Stmt)(t:TS):Prop:=
  ∀ (pins:List (Addr×Obj)) (s:Shared) (σ:St) (H:Hp) (D:Ends),Inv X pins σ H s→t D σ H→wpAny (model X.prog X.w) X.A (exec st X.env) (SP X pins D) X.xe s
def PSs (X:Cx)(st:List Stmt)(t:TS):Prop:=
  ∀ (pins:List (Addr×Obj)) (s:Shared) (σ:St) (H:Hp) (D:Ends),Inv X pins σ H s→t D σ H→wpAny (model X.prog X.w) X.A (execs st X.env) (SP X pins D) X.xe s
theorem thn {α:Type}{t:Sem α}{Q Q':α→Shared→Prop}{M:Model}{A:Around}{E:Value→Shared→Prop}{s:Shared}(h:wpAny M A t Q E s)(hQ:∀a s,Q a s→Q' a s):wpAny M A t Q' E s:=wpAny_mono h hQ fun _ _ x=>x
end L2
namespace L2
open PySem PySem.Spec PyProof.Rows
section
variable {X:Cx}
def tVar (i:Nat):TE:=fun σ H Q=>∃v,σ[i]? = some (some v)∧Q v H
def tC (v:V):TE:=fun _ H Q=>Q v H
theorem pe_var {i:Nat}{x:Str}{pos:Pos}(hN:X.N[i]? = some x)(hv:Vis X.env.scope x)(hd:(x == ("__debug__" : Str))=false:=by decide)(hcd:(x == ("__classdict__" : Str))=false:=by decide):PE X (.Name x pos) (tVar i):=by
  intro pins s σ H Q I h
  obtain ⟨v,e,h⟩:=h
  obtain ⟨m,hn,hl⟩:=I.loc
  obtain ⟨u,r,l⟩:=hl i x v hN e hv
  have fin:EP X pins σ Q u s:=⟨v,H,I,r,h⟩
  rcases l with ⟨hk,hm⟩ | ⟨hk,c,hc,hcell⟩
  · exact wpAny_Name (wpAny_loadName_local I.ok.kind hk hn hm fin) hd
  · rcases hk with hk | hk
    · exact wpAny_Name (wpAny_loadName_cell I.ok.kind hk hc hcell fin) hd
    · exact wpAny_Name (wpAny_loadName_free I.ok.kind hk hc hcell fin hcd) hd
theorem pe_int {i j pos}:PE X (.Constant (.int i) j pos) (tC (.int i)):=fun _ _ _ H _ I h=>wpAny_Constant_int ⟨.int i,H,I.tok _,⟨_,rfl⟩,h⟩
theorem pe_bl {b j pos}:PE X (.Constant (.bool b) j pos) (tC (.bl b)):=fun _ _ _ H _ I h=>Constant_bool ⟨.bl b,H,I,rfl,h⟩
theorem pe_non {j pos}:PE X (.Constant .none j pos) (tC .non):=fun _ _ _ H _ I h=>Constant_none ⟨.non,H,I,rfl,h⟩
theorem pe_str {x j pos}:PE X (.Constant (.str x) j pos) (tC (.str x)):=fun _ _ _ H _ I h=>Calls.Constant_str ⟨.str x,H,I.tok _,⟨_,rfl⟩,h⟩
def Gl (X:Cx)(x:Str):Prop:=X.env.kindOf x=some .globalImplicit
theorem ld_glob {E:Value→Shared→Prop}{pins:List (Addr×Obj)}{s:Shared}{σ:St}{H:Hp}{x:Str}{u:Value}{pos:Pos}{Q:Value→Shared→Prop}(I:Inv X pins σ H s)(hg:Gl X x)(hm:X.mg x=some u)(h:Q u s)(hd:(x == ("__debug__" : Str))=false:=by decide):wpAny (model X.prog X.w) X.A (eval (.Name x pos) X.env) Q E s:=
  Calls.Name_function_global I.ok.kind hg (Calls.loadGlobal_global (by rw [I.ok.glob]; exact I.mod.glob.keeps I.bk) hm h) hd
theorem ld_blt {E:Value→Shared→Prop}{pins:List (Addr×Obj)}{s:Shared}{σ:St}{H:Hp}{x:Str}{u:Value}{pos:Pos}{Q:Value→Shared→Prop}(I:Inv X pins σ H s)(hg:Gl X x)(hm:X.mg x=none)(hv:bootBuiltins x=some u)(h:Q u s)(hn:x ≠ "__name__" := by decide)(hd:(x == ("__debug__" : Str))=false:=by decide):wpAny (model X.prog X.w) X.A (eval (.Name x pos) X.env) Q E s:=by
  obtain ⟨mb,h1,h2⟩:=I.mod.blt
  exact Calls.Name_function_global I.ok.kind hg (Calls.loadGlobal_builtin (by rw [I.ok.glob]; exact I.mod.glob.keeps I.bk) hm (by rw [I.ok.blt]; exact h1.keeps I.bk) ((h2 x hn).trans hv) h) hd
theorem pe_glob {x:Str}{v:V}{u:Value}{pos:Pos}(hg:Gl X x)(hm:X.mg x=some u)(r:RelV v u)(hd:(x == ("__debug__" : Str))=false:=by decide):PE X (.Name x pos) (tC v):=
  fun _ _ _ H _ I h=>ld_glob I hg hm ⟨v,H,I,r,h⟩ hd
theorem pe_bltn {x:Str}{v:V}{u:Value}{pos:Pos}(hg:Gl X x)(hm:X.mg x=none)(hv:bootBuiltins x=some u)(r:RelV v u)(hn:x ≠ "__name__" := by decide)(hd:(x == ("__debug__" : Str))=false:=by decide):PE X (.Name x pos) (tC v):=
  fun _ _ _ H _ I h=>ld_blt I hg hm hv ⟨v,H,I,r,h⟩ hn hd
variable {a b:Expr}{ta tb:TE}{pos:Pos}
def tB (t:TE):TT:=fun σ H Q=>t σ H fun x H1=>∃c,x = .bl c∧Q c H1
theorem pt_val {e:Expr}{t:TE}(h:PE X e t)(he:∀whole,isTrue e X.env whole=(do let v ← whole; standAt e.pos; holding [v] (truthy v)):=by intro _; rfl):PT X e (tB t):=by
  intro pins s σ H Q I hw
  refine isTrue_plain (thn (h pins s σ H _ I hw) fun v s1 ⟨x,H1,I1,r1,q1⟩=>?_) (he _)
  obtain ⟨d,rfl,q⟩:=q1
  cases r1
  exact wpAny_truthy_bool ⟨H1,I1,q⟩
variable {tA tB':TT}{rest:List Expr}
def tAnd (t u:TT):TT:=fun σ H Q=>t σ H fun c H1=>if c=true then u σ H1 Q else Q false H1
def tOr (t u:TT):TT:=fun σ H Q=>t σ H fun c H1=>if c=true then Q true H1 else u σ H1 Q
def tNot (t:TT):TT:=fun σ H Q=>t σ H fun c H1=>Q (!c) H1
theorem pw_and1 (ha:PT X a tA):PW X (.BoolOp .And [a] pos) tA:=by
  intro wh pins s σ H Q I h
  refine isTrue_and (thn (ha pins s σ H Q I h) fun c s1 e=>?_)
  cases c with
  | true=>exact isTrue_and_nil e
  | false=>exact e
theorem pw_or1 (ha:PT X a tA):PW X (.BoolOp .Or [a] pos) tA:=by
  intro wh pins s σ H Q I h
  refine isTrue_or (thn (ha pins s σ H Q I h) fun c s1 e=>?_)
  cases c with
  | false=>exact isTrue_or_nil e
  | true=>exact e
theorem pw_and (ha:PT X a tA)(hb:PW X (.BoolOp .And (b::rest) pos) tB'):PW X (.BoolOp .And (a::b::rest) pos) (tAnd tA tB'):=by
  intro wh pins s σ H Q I h
  refine isTrue_and (thn (ha pins s σ H _ I h) fun c s1 ⟨H1,I1,q1⟩=>?_)
  cases c with
  | true=>exact hb wh pins s1 σ H1 Q I1 q1
  | false=>exact ⟨H1,I1,q1⟩
theorem pw_or (ha:PT X a tA)(hb:PW X (.BoolOp .Or (b::rest) pos) tB'):PW X (.BoolOp .Or (a::b::rest) pos) (tOr tA tB'):=by
  intro wh pins s σ H Q I h
  refine isTrue_or (thn (ha pins s σ H _ I h) fun c s1 ⟨H1,I1,q1⟩=>?_)
  cases c with
  | true=>exact ⟨H1,I1,q1⟩
  | false=>exact hb wh pins s1 σ H1 Q I1 q1
theorem pt_not (ha:PT X a tA):PT X (.UnaryOp .Not a pos) (tNot tA):=by
  intro pins s σ H Q I h
  exact isTrue_not (ha pins s σ H (fun c H1=>Q (!c) H1) I h)
def tAndV (ta tb:TE):TE:=fun σ H Q=>ta σ H fun x H1=>∃c,x = .bl c∧if c=true then tb σ H1 Q else Q (.bl false) H1
theorem pe_one {op}{t:TE}(h:PE X a t):PE X (.BoolOp op [a] pos) t:=fun pins s σ H Q I hw=>BoolOp_one (h pins s σ H Q I hw)
theorem pe_and (ha:PE X a ta)(hb:PE X (.BoolOp .And (b::rest) pos) tb):PE X (.BoolOp .And (a::b::rest) pos) (tAndV ta tb):=by
  intro pins s σ H Q I h
  refine BoolOp_and (thn (ha pins s σ H _ I h) fun v s1 ⟨x,H1,I1,r1,q1⟩=>?_)
  obtain ⟨c,rfl,q1⟩:=q1
  cases r1
  refine wpAny_truthy_bool ?_
  cases c with
  | true=>exact hb pins s1 σ H1 Q I1 q1
  | false=>exact ⟨.bl false,H1,I1,rfl,q1⟩
end
end L2
namespace L2
open PySem PySem.Spec PyProof.Rows
def SqL (K:PySem.W.Frag)(H:Hp)(a:Addr)(xs:List V):Prop:=
  Rd H a (.lst xs) ∨
    ∃ (o:Obj) (its:Array Value) (n:Nat),K.lookup a=some o∧o.cls = .type "list" ∧ o.dict=none∧o.data = .seq its n∧its.size≤sizeLine∧Vals xs its.toList
def SqT (K:PySem.W.Frag)(H:Hp)(a:Addr)(xs:List V):Prop:=
  Rd H a (.tup xs) ∨
    ∃ (o:Obj) (its:Array Value) (n:Nat),K.lookup a=some o∧o.cls = .type "tuple" ∧ o.data = .seq its n∧its.size≤sizeLine∧Vals xs its.toList
def absV:Value→Option V
  | .none=>some .non
  | .bool b=>some (.bl b)
  | .int i _=>some (.int i)
  | .str x _=>some (.str x)
  | .bytes b _=>some (.byt b)
  | .float b _=>some (.flt b)
  | .ref a=>some (.ref a)
  | .type n=>some (.ty n)
  | _=>none
theorem RelV.abs {x:V}{u:Value}(r:RelV x u):absV u=some x:=by
  cases x with
  | non=>cases r; rfl
  | bl _=>cases r; rfl
  | int _=>obtain ⟨t,rfl⟩:=r; rfl
  | str _=>obtain ⟨t,rfl⟩:=r; rfl
  | byt _=>obtain ⟨t,rfl⟩:=r; rfl
  | flt _=>obtain ⟨t,rfl⟩:=r; rfl
  | ref _=>cases r; rfl
  | ty _=>cases r; rfl
theorem RelV.inj {x y:V}{u:Value}(r:RelV x u)(q:RelV y u):x=y:=Option.some.inj (r.abs.symm.trans q.abs)
theorem Vals.inj:∀ {xs ys:List V}{us:List Value},Vals xs us→Vals ys us→xs=ys
  | _,_,_,.nil,.nil=>rfl
  | _,_,_,.cons r t,.cons r' t'=>by rw [r.inj r',Vals.inj t t']
section
variable {X:Cx}{pins:List (Addr×Obj)}{σ:St}{H:Hp}{s:Shared}{a:Addr}{xs ys:List V}
theorem SqL.of {K:PySem.W.Frag}(h:H a=some (.lst xs)):SqL K H a xs:=.inl (.inl h)
theorem Inv.list (I:Inv X pins σ H s)(h:SqL X.K H a xs):∃its:List Value,Vals xs its∧PlainL s.heap a its.toArray∧xs.length≤sizeLine:=by
  rcases h with h | ⟨o,its,n,hk,hc,hd,hs,hz,r⟩
  · obtain ⟨z,its,n,r,e⟩:=h.ok I.hok
    exact ⟨its,r,⟨_,n,e,rfl,rfl,rfl⟩,z⟩
  · refine ⟨its.toList,r,⟨o,n,I.kIn a o hk,hc,hd,by simpa using hs⟩,?_⟩
    have e:=r.length
    simp only [Array.length_toList] at e
    omega
theorem Inv.tuple (I:Inv X pins σ H s)(h:SqT X.K H a xs):∃its:List Value,Vals xs its∧IsTup s.heap a its.toArray∧xs.length≤sizeLine:=by
  rcases h with h | ⟨o,its,n,hk,hc,hs,hz,r⟩
  · obtain ⟨z,its,r,p⟩:=h.ok I.hok
    exact ⟨its,r,p,z⟩
  · refine ⟨its.toList,r,⟨o,I.kIn a o hk,hc,n,by simpa using hs⟩,?_⟩
    have e:=r.length
    simp only [Array.length_toList] at e
    omega
theorem Inv.list_inj (I:Inv X pins σ H s)(h:SqL X.K H a xs)(h':SqL X.K H a ys):xs=ys:=by
  obtain ⟨its,r,⟨o,n,e,_,_,d⟩,_⟩:=I.list h
  obtain ⟨its',r',⟨o',n',e',_,_,d'⟩,_⟩:=I.list h'
  rw [e] at e'; cases e'
  rw [d] at d'
  injection d' with d1 _
  have:its=its':=by simpa using congrArg Array.toList d1
  subst this
  exact r.inj r'
theorem Inv.tuple_inj (I:Inv X pins σ H s)(h:SqT X.K H a xs)(h':SqT X.K H a ys):xs=ys:=by
  obtain ⟨its,r,⟨o,e,_,n,d⟩,_⟩:=I.tuple h
  obtain ⟨its',r',⟨o',e',_,n',d'⟩,_⟩:=I.tuple h'
  rw [e] at e'; cases e'
  rw [d] at d'
  injection d' with d1 _
  have:its=its':=by simpa using congrArg Array.toList d1
  subst this
  exact r.inj r'
end
abbrev Cx.wish (X:Cx)(E:Value→Shared→Prop):Cx:={ X with xe:=E }
abbrev Cx.nox (X:Cx):Cx:=X.wish fun _ _=>False
theorem Cx.Ok.wish {X:Cx}(ok:X.Ok)(E:Value→Shared→Prop):(X.wish E).Ok:=
  ⟨ok.mod,ok.kind,ok.glob,ok.blt,ok.above,ok.inj,ok.has,ok.cab,ok.hd,ok.frames,ok.stk,ok.exf,ok.bs,ok.bsz,ok.noex,ok.exfs,ok.funs,ok.frf⟩
theorem Cx.Ok.unwish {X:Cx}{E:Value→Shared→Prop}(ok:(X.wish E).Ok):X.Ok:=
  ⟨ok.mod,ok.kind,ok.glob,ok.blt,ok.above,ok.inj,ok.has,ok.cab,ok.hd,ok.frames,ok.stk,ok.exf,ok.bs,ok.bsz,ok.noex,ok.exfs,ok.funs,ok.frf⟩
section
variable {X:Cx}{pins:List (Addr×Obj)}{σ:St}{H:Hp}{s:Shared}{E:Value→Shared→Prop}
theorem Inv.wish (I:Inv X pins σ H s)(E:Value→Shared→Prop):Inv (X.wish E) pins σ H s:=⟨I.ok.wish E,I.os,I.bare,I.base,I.loc,I.cell,I.free,I.freeC,I.pin,I.hok,I.len⟩
theorem Inv.unwish (I:Inv (X.wish E) pins σ H s):Inv X pins σ H s:=⟨I.ok.unwish,I.os,I.bare,I.base,I.loc,I.cell,I.free,I.freeC,I.pin,I.hok,I.len⟩
theorem SP.unwish {D:Ends}{f:Flow}{s':Shared}(h:SP (X.wish E) pins D f s'):SP X pins D f s':=by
  cases f with
  | next=>obtain ⟨σ',H',I,q⟩:=h; exact ⟨σ',H',I.unwish,q⟩
  | brk=>obtain ⟨σ',H',I,q⟩:=h; exact ⟨σ',H',I.unwish,q⟩
  | cont=>obtain ⟨σ',H',I,q⟩:=h; exact ⟨σ',H',I.unwish,q⟩
  | ret u=>obtain ⟨v,σ',H',I,r,q⟩:=h; exact ⟨v,σ',H',I.unwish,r,q⟩
theorem PSs.nox {st:List Stmt}{t:TS}(h:PSs X.nox st t):PSs X st t:=fun pins s σ H D I hw =>
  wpAny_mono (h pins s σ H D (I.wish _) hw) (fun _ _ q=>q.unwish) fun _ _ z=>False.elim z
end
section
variable {X:Cx}{st:Stmt}{rest:List Stmt}{t u:TS}{e:Expr}{te:TE}{pos:Pos}
def tNext:TS:=fun D σ H=>D.nx σ H
def tSeq (t u:TS):TS:=fun D σ H=>t { D with nx:=u D } σ H
theorem pss_nil:PSs X [] tNext:=fun _ _ σ H _ I h=>wpAny_execs_nil ⟨σ,H,I,h⟩
theorem pss_cons (h1:PS X st t)(h2:PSs X rest u):PSs X (st::rest) (tSeq t u):=by
  intro pins s σ H D I h
  refine wpAny_execs_cons (thn (h1 pins s σ H { D with nx:=u D } I h) fun f s1 q=>?_)
  cases f with
  | next =>
    obtain ⟨σ',H',I',q⟩:=q
    exact h2 pins s1 σ' H' D I' q
  | ret v=>exact q
  | brk=>exact q
  | cont=>exact q
theorem pss_one (h1:PS X st t):PSs X [st] t:=by
  intro pins s σ H D I h
  refine wpAny_execs_cons (thn (h1 pins s σ H D I h) fun f s1 q=>?_)
  cases f with
  | next=>exact wpAny_execs_nil q
  | ret v=>exact q
  | brk=>exact q
  | cont=>exact q
theorem Inv.quiet {pins:List (Addr×Obj)}{σ:St}{H:Hp}{s:Shared}(I:Inv X pins σ H s):interactive X.env=false:=by simp [interactive,I.ok.kind]
def tDrop (te:TE):TS:=fun D σ H=>te σ H fun _ H1=>D.nx σ H1
theorem ps_expr (he:PE X e te)(hs:swapsWith e none pos.line X.env=pure false:=by rfl):PS X (.Expr e pos) (tDrop te):=by
  intro pins s σ H D I h
  exact wpAny_Expr_any (thn (he pins s σ H _ I h) fun v s1 ⟨x,H1,I1,r1,q1⟩=>⟨σ,H1,I1,q1⟩) I.quiet hs
def tRet (te:TE):TS:=fun D σ H=>te σ H D.rt
theorem ps_ret (he:PE X e te):PS X (.Return (some e) pos) (tRet te):=by
  intro pins s σ H D I h
  exact wpAny_Return_some (thn (he pins s σ H _ I h) fun v s1 ⟨x,H1,I1,r1,q1⟩=>⟨x,σ,H1,I1,r1,q1⟩)
def tIfS (c:TT)(t u:TS):TS:=fun D σ H=>c σ H fun b H1=>if b=true then t D σ H1 else u D σ H1
theorem ps_if {c:Expr}{a b:List Stmt}{tc:TT}(hc:PT X c tc)(ha:PSs X a t)(hb:PSs X b u):PS X (.If c a b pos) (tIfS tc t u):=by
  intro pins s σ H D I h
  refine wpAny_If (thn (hc pins s σ H _ I h) fun d s1 ⟨H1,I1,q1⟩=>?_)
  cases d with
  | true=>exact ha pins s1 σ H1 D I1 q1
  | false=>exact hb pins s1 σ H1 D I1 q1
end
abbrev TG:=V→St→Hp→(St→Hp→Prop)→Prop
def PG (X:Cx)(target:Expr)(t:TG):Prop:=
  ∀ (pins:List (Addr×Obj)) (s:Shared) (σ:St) (H:Hp) (v:V) (u:Value) (Q:St→Hp→Prop),Inv X pins σ H s→RelV v u→t v σ H Q →
    wpAny (model X.prog X.w) X.A (assign target X.env u) (fun _ s'=>∃σ' H',Inv X pins σ' H' s'∧Q σ' H') X.xe s
section
variable {X:Cx}{pos:Pos}
def gName (i:Nat):TG:=fun v σ H Q=>Q (σ.set i (some v)) H
theorem pg_name {i:Nat}{x:Str}(hN:X.N.Nodup)(hi:X.N[i]? = some x)(hx:Loc X.env.scope x)(hf:X.fn x=true∨X.env.scope.names.lookup x=some .local:=by first | exact .inl rfl | exact .inr rfl | assumption):PG X (.Name x pos) (gName i):=by
  intro pins s σ H v u Q I r h
  exact wpAny_assign_Name (store_ok I hN hi hx r (fun s' I'=>⟨_,H,I',h⟩) hf)
def tAsg (te:TE)(g:TG):TS:=fun D σ H=>te σ H fun x H1=>g x σ H1 D.nx
theorem ps_set {i:Nat}{x:Str}{e:Expr}{te:TE}{pos':Pos}(hN:X.N.Nodup)(hi:X.N[i]? = some x)(hx:Loc X.env.scope x)(he:PE X e te)(hs:swapsWith e (some (.Name x pos')) pos.line X.env=pure false:=by rfl)(hf:X.fn x=true∨X.env.scope.names.lookup x=some .local:=by first | exact .inl rfl | exact .inr rfl | assumption) :
    PS X (.Assign [.Name x pos'] e pos) (tAsg te (gName i)):=by
  intro pins s σ H D I h
  refine wpAny_Assign_Name (thn (he pins s σ H _ I h) fun v s1 ⟨y,H1,I1,r1,q1⟩=>?_) hs
  exact store_ok I1 hN hi hx r1 (fun s2 I2=>⟨_,H1,I2,q1⟩) hf
end
structure It where
  go:Nat→Hp→Prop
  yld:Nat→Hp→V→Hp→Prop
  stop:Nat→Hp→Prop
def FpOk (X:Cx)(pins:List (Addr×Obj))(H:Hp)(b:Addr):Prop:=
  H b=none∧b ≠ X.env.locals∧b ∉ X.fs∧(b∈X.ex∨X.s₀.heap.objs.size≤b)∧(∀x c,X.env.cells.lookup x=some c→c ≠ b) ∧ ∀p∈X.pn++pins,p.1 ≠ b
theorem Inv.fpOk {X:Cx}{pins:List (Addr×Obj)}{σ:St}{H H':Hp}{s:Shared}{b:Addr}(I:Inv X pins σ H s)(hb:s.heap.objs.size≤b)(hn:H' b=none):FpOk X pins H' b:=by
  refine ⟨hn,Nat.ne_of_gt (Nat.lt_of_lt_of_le I.lt hb),I.nofs hb,.inr (Nat.le_trans I.sz hb),fun x c e z=>?_,fun p hp z=>?_⟩
  · obtain ⟨v,q⟩:=I.cell x c e
    exact absurd (Nat.lt_of_lt_of_le q.lt (by rw [z]; exact hb)) (Nat.lt_irrefl _)
  · exact absurd (Nat.lt_of_lt_of_le (Heap.lt_size (I.pin p hp).1) (by rw [z]; exact hb)) (Nat.lt_irrefl _)
structure Turn (P:Program)(w:World)(K:PySem.W.Frag)(tg:Expr)(J:It)(fp:List Addr)(it:Addr)(tn:Nat→Heap→Prop):Prop where
  mem:it∈fp
  obj:∀i h,tn i h→∀b∈fp,∃o,h.get? b=some o ∧ ∀v,o.data ≠ .cell v
  keep:∀i h h',tn i h→(∀b∈fp,∀o,h.get? b=some o→h'.get? b=some o)→tn i h'
  item:∀ (X:Cx),X.prog=P→X.w=w→X.K=K→X.calm=true→∀ (i:Nat) (pins:List (Addr×Obj)) (s:Shared) (σ:St) (H:Hp) (E:Value→Shared→Prop),Inv X pins σ H s→(∀b∈fp,FpOk X pins H b)→tn i s.heap→J.go i H →
    wpAny (model P w) X.A (pyNext (.ref it)) (fun r s1=>∃u,r=some u ∧
      wpAny (model P w) X.A (letOwnedTupleGo tg (.ref it) u) (fun _ s2=>∃x H',Inv X pins σ H' s2∧RelV x u∧J.yld i H x H'∧tn (i+1) s2.heap ∧ ∀b∈fp,H' b=none) E s1) E s
  done:∀ (X:Cx),X.prog=P→X.w=w→X.K=K→X.calm=true→∀ (i:Nat) (pins:List (Addr×Obj)) (s:Shared) (σ:St) (H:Hp) (E:Value→Shared→Prop),Inv X pins σ H s→(∀b∈fp,FpOk X pins H b)→tn i s.heap→J.stop i H →
    wpAny (model P w) X.A (pyNext (.ref it)) (fun r s1=>r=none∧Inv X pins σ H s1) E s
  self:∀ (A:Around) (i:Nat) (s:Shared) (Q:Value→Shared→Prop) (E:Value→Shared→Prop),tn i s.heap→Q (.ref it) s→wpAny (model P w) A (pyIter (.ref it)) Q E s
abbrev TI:=St→Hp→(It→Hp→Prop)→Prop
def PIE (X:Cx)(pins:List (Addr×Obj))(σ:St)(tg:Expr)(R:It→Hp→Prop)(itv:Value)(s2:Shared):Prop:=
  ∃ (it:Addr) (fp:List Addr) (tn:Nat→Heap→Prop) (J:It) (H':Hp),itv = .ref it∧Inv X pins σ H' s2∧Turn X.prog X.w X.K tg J fp it tn∧tn 0 s2.heap∧(∀b∈fp,FpOk X pins H' b)∧R J H'
def PI (X:Cx)(tg iter:Expr)(wi:TI):Prop:=
  ∀ (pins:List (Addr×Obj)) (s:Shared) (σ:St) (H:Hp) (R:It→Hp→Prop),Inv X pins σ H s→wi σ H R →
    wpAny (model X.prog X.w) X.A (eval iter X.env) (fun v s1=>wpAny (model X.prog X.w) X.A (pyIter v) (PIE X pins σ tg R) X.xe s1) X.xe s
theorem go_of {M:Model}{A:Around}{E:Value→Shared→Prop}{s:Shared}{tg:Expr}{it:Addr}{u:Value}{o:Obj}{n:String}{vs:Array Value}{Q:Unit→Shared→Prop}(ho:s.heap.get? it=some o)(hc:o.cls = .type n)(hd:o.data = .fields vs)(hn:["enumerate", "zip", "dict_itemiterator", "dict_reverseitemiterator", "odict_iterator", "itertools.zip_longest", "itertools.pairwise"].contains n=false)(hQ:Q () s):wpAny M A (letOwnedTupleGo tg (.ref it) u) Q E s:=by
  unfold letOwnedTupleGo
  cases tg <;> first
    | exact wpAny_pure hQ
    | (cases u <;> first
        | exact wpAny_pure hQ
        | (refine wpAny_bind (wpAny_load ho ?_)
           rw [hc,hd]
           show wpAny M A (if (["enumerate", "zip", "dict_itemiterator", "dict_reverseitemiterator", "odict_iterator", "itertools.zip_longest", "itertools.pairwise"].contains n && vs[0]? == some (rawInt _))=true then _ else _) Q E s
           rw [if_neg (by intro h; rw [hn,Bool.false_and] at h; cases h)]
           exact wpAny_pure hQ))
def Itl (K:PySem.W.Frag)(a:Addr):It:=
  ⟨fun i H=>∃xs x,SqL K H a xs∧xs[i]? = some x,fun i H x H'=>H'=H ∧ ∀xs,SqL K H a xs→xs[i]? = some x,fun i H=>∃xs,SqL K H a xs∧xs.length≤i⟩
def Itt (K:PySem.W.Frag)(a:Addr):It:=
  ⟨fun i H=>∃xs x,SqT K H a xs∧xs[i]? = some x,fun i H x H'=>H'=H ∧ ∀xs,SqT K H a xs→xs[i]? = some x,fun i H=>∃xs,SqT K H a xs∧xs.length≤i⟩
def Itr (lo:Int)(n:Nat):It:=⟨fun i _=>i < n,fun i H x H'=>H'=H∧x = .int (lo+i),fun i _=>n≤i⟩
theorem turn_list {P:Program}{w:World}{K:PySem.W.Frag}{tg:Expr}(a it:Addr):Turn P w K tg (Itl K a) [it] it (fun i h=>h.IsListIter it a i) where
  mem:=by simp
  obj:=fun i h st b hb=>by
    have e:b=it:=by simpa using hb
    subst e
    obtain ⟨o,e,c,d⟩:=st
    exact ⟨o,e,fun v z=>by rw [d] at z; cases z⟩
  keep:=fun i h h' st k=>st.at fun o e=>k it (by simp) o e
  item:=by
    intro X hP hw hK hc i pins s σ H E I hf st hg
    subst hP hw hK
    obtain ⟨xs,x,hq,hx⟩:=hg
    obtain ⟨its,rv,p,hz⟩:=I.list hq
    obtain ⟨u,hu,ru⟩:=rv.get hx
    obtain ⟨f0,f1,f2,f3,f4,f5⟩:=hf it (by simp)
    refine wpAny_pyNext_list_item st p.isList (x:=u) (by simpa using hu) fun h' st' sb=>?_
    have I1:Inv X pins σ H { s with heap:=h' }:=I.turned (t':=s.toks) (fun b o hb e=>(sb.2 b hb).trans e) f0 f1 f3 f4 f5
    obtain ⟨o,e,c,d⟩:=id st'
    exact ⟨u,rfl,go_of (s:={ s with heap:=h' }) e c d (by decide) ⟨x,H,I1,ru,⟨rfl,fun ys hy=>by rw [I.list_inj hy hq]; exact hx⟩,st',fun b hb=>(hf b hb).1⟩⟩
  done:=by
    intro X hP hw hK hc i pins s σ H E I hf st hg
    subst hP hw hK
    obtain ⟨xs,hq,hx⟩:=hg
    obtain ⟨its,rv,p,hz⟩:=I.list hq
    obtain ⟨f0,f1,f2,f3,f4,f5⟩:=hf it (by simp)
    have hl:=rv.length
    exact wpAny_pyNext_list_end (I.ok.hd hc) st p.isList (by simp; omega) fun h' eb=>⟨rfl,I.turned (t':=s.toks) (fun b o hb e=>eb b o hb e) f0 f1 f3 f4 f5⟩
  self:=fun _ _ _ _ _ st h=>wpAny_pyIter_listiter st h
theorem turn_tuple {P:Program}{w:World}{K:PySem.W.Frag}{tg:Expr}(a it:Addr):Turn P w K tg (Itt K a) [it] it (fun i h=>h.IsTupleIter it a i) where
  mem:=by simp
  obj:=fun i h st b hb=>by
    have e:b=it:=by simpa using hb
    subst e
    obtain ⟨o,e,c,d⟩:=st
    exact ⟨o,e,fun v z=>by rw [d] at z; cases z⟩
  keep:=fun i h h' st k=>st.at fun o e=>k it (by simp) o e
  item:=by
    intro X hP hw hK hc i pins s σ H E I hf st hg
    subst hP hw hK
    obtain ⟨xs,x,hq,hx⟩:=hg
    obtain ⟨its,rv,p,hz⟩:=I.tuple hq
    obtain ⟨u,hu,ru⟩:=rv.get hx
    obtain ⟨f0,f1,f2,f3,f4,f5⟩:=hf it (by simp)
    refine wpAny_pyNext_tuple_item st (show s.heap.IsTuple a its.toArray from p) (x:=u) (by simpa using hu) fun h' st' sb=>?_
    have I1:Inv X pins σ H { s with heap:=h' }:=I.turned (t':=s.toks) (fun b o hb e=>(sb.2 b hb).trans e) f0 f1 f3 f4 f5
    obtain ⟨o,e,c,d⟩:=id st'
    exact ⟨u,rfl,go_of (s:={ s with heap:=h' }) e c d (by decide) ⟨x,H,I1,ru,⟨rfl,fun ys hy=>by rw [I.tuple_inj hy hq]; exact hx⟩,st',fun b hb=>(hf b hb).1⟩⟩
  done:=by
    intro X hP hw hK hc i pins s σ H E I hf st hg
    subst hP hw hK
    obtain ⟨xs,hq,hx⟩:=hg
    obtain ⟨its,rv,p,hz⟩:=I.tuple hq
    obtain ⟨f0,f1,f2,f3,f4,f5⟩:=hf it (by simp)
    have hl:=rv.length
    exact wpAny_pyNext_tuple_end (I.ok.hd hc) st (show s.heap.IsTuple a its.toArray from p) (by simp; omega) fun h' eb=>⟨rfl,I.turned (t':=s.toks) (fun b o hb e=>eb b o hb e) f0 f1 f3 f4 f5⟩
  self:=fun _ _ _ _ _ st h=>wpAny_pyIter_tupleiter st h
theorem turn_range {P:Program}{w:World}{K:PySem.W.Frag}{tg:Expr}(it:Addr)(lo:Int)(n:Nat):Turn P w K tg (Itr lo n) [it] it (fun i h=>IsRangeIter h it (lo+(i:Nat) * 1) ((n:Int) - (i:Nat)) 1) where
  mem:=by simp
  obj:=fun i h st b hb=>by
    have e:b=it:=by simpa using hb
    subst e
    exact ⟨_,st,fun v z=>by
      have z':Data.fields _=Data.cell v:=z
      cases z'⟩
  keep:=fun i h h' st k=>k it (by simp) _ st
  item:=by
    intro X hP hw hK hc i pins s σ H E I hf st hg
    subst hP hw hK
    obtain ⟨f0,f1,f2,f3,f4,f5⟩:=hf it (by simp)
    have W:=Walks.range (prog:=X.prog) (w:=X.w) (I.ok.hd hc) it lo 1 n
    refine W.item i s _ _ hg st fun v h' tk hv st' kk=>?_
    obtain ⟨t,rfl⟩:=hv
    have I1:Inv X pins σ H { s with heap:=h',toks:=tk }:=I.turned (fun b o hb e=>kk b o (by simpa using hb) e) f0 f1 f3 f4 f5
    refine ⟨_,rfl,go_of (s:={ s with heap:=h',toks:=tk }) (n := "range_iterator") st' rfl rfl (by decide) ⟨.int (lo+i),H,I1,⟨t,?_⟩,⟨rfl,rfl⟩,st',fun b hb=>(hf b hb).1⟩⟩
    rw [Int.mul_one]
  done:=by
    intro X hP hw hK hc i pins s σ H E I hf st hg
    subst hP hw hK
    obtain ⟨f0,f1,f2,f3,f4,f5⟩:=hf it (by simp)
    exact wpAny_pyNext_range_end (I.ok.hd hc) st (by have:n≤i:=hg; omega) fun h' eb=>⟨rfl,I.turned (t':=s.toks) (fun b o hb e=>eb b o hb e) f0 f1 f3 f4 f5⟩
  self:=fun _ _ _ _ _ st h=>wpAny_pyIter_rangeiter st h
end L2
namespace L2
open PySem PySem.Spec PyProof.Rows
section
variable {X:Cx}{tg:Expr}
def iList (K:PySem.W.Frag)(tl:TE):TI:=fun σ H R=>tl σ H fun x H1=>∃a,x = .ref a∧(∃xs,SqL K H1 a xs)∧R (Itl K a) H1
def iTup (K:PySem.W.Frag)(tl:TE):TI:=fun σ H R=>tl σ H fun x H1=>∃a,x = .ref a∧(∃xs,SqT K H1 a xs)∧R (Itt K a) H1
theorem pi_list {l:Expr}{tl:TE}(hl:PE X l tl):PI X tg l (iList X.K tl):=by
  intro pins s σ H R I h
  refine thn (hl pins s σ H _ I h) fun v s1 ⟨x,H1,I1,r1,q1⟩=>?_
  obtain ⟨a,e,⟨xs,hq⟩,q⟩:=q1
  subst e
  cases r1
  obtain ⟨its,rv,p,hz⟩:=I1.list hq
  refine wpAny_pyIter_list p.isList ?_
  refine ⟨s1.heap.objs.size,[s1.heap.objs.size],_,_,H1,rfl,I1.kept (t':=s1.toks) fun b o e=>Heap.get?_push_of_some _ e,turn_list a _,⟨_,Heap.get?_push_size _ rfl,rfl,rfl⟩,fun b hb=>?_,q⟩
  have e:b=s1.heap.objs.size:=by simpa using hb
  subst e
  exact I1.fpOk (Nat.le_refl _) (I1.hok.fresh (Nat.le_refl _))
theorem pi_tup {l:Expr}{tl:TE}(hl:PE X l tl):PI X tg l (iTup X.K tl):=by
  intro pins s σ H R I h
  refine thn (hl pins s σ H _ I h) fun v s1 ⟨x,H1,I1,r1,q1⟩=>?_
  obtain ⟨a,e,⟨xs,hq⟩,q⟩:=q1
  subst e
  cases r1
  obtain ⟨its,rv,p,hz⟩:=I1.tuple hq
  refine wpAny_pyIter_tuple (show s1.heap.IsTuple a its.toArray from p) ?_
  refine ⟨s1.heap.objs.size,[s1.heap.objs.size],_,_,H1,rfl,I1.kept (t':=s1.toks) fun b o e=>Heap.get?_push_of_some _ e,turn_tuple a _,⟨_,Heap.get?_push_size _ rfl,rfl,rfl⟩,fun b hb=>?_,q⟩
  have e:b=s1.heap.objs.size:=by simpa using hb
  subst e
  exact I1.fpOk (Nat.le_refl _) (I1.hok.fresh (Nat.le_refl _))
theorem range_it {pins:List (Addr×Obj)}{σ:St}{H:Hp}{s:Shared}{R:It→Hp→Prop}{E:Value→Shared→Prop}{lo hi:Int}{t u v:Tok}{tk:Nat}(I:Inv X pins σ H s)(h1:-(2 ^ 62)≤lo)(h2:lo < 2 ^ 62)(h3:-(2 ^ 62)≤hi)(h4:hi < 2 ^ 62)(q:R (Itr lo (hi - lo).toNat) H):wpAny (model X.prog X.w) X.A (pyIter (.ref s.heap.objs.size)) (PIE X pins σ tg R) E { s with heap:=s.heap.push { cls:=.type "range",data:=.fields #[.int lo t,.int hi u,.int 1 v] },toks:=tk }:=by
  refine wpAny_pyIter_range (IsRange.new ..) (small_one h1 h2 h3 h4) ?_
  have I1:Inv X pins σ H { s with heap:=s.heap.push { cls:=.type "range",data:=.fields #[.int lo t,.int hi u,.int 1 v] },toks:=tk }:=I.kept fun b o e=>Heap.get?_push_of_some _ e
  refine ⟨(s.heap.push { cls:=.type "range",data:=.fields #[.int lo t,.int hi u,.int 1 v] }).objs.size,[(s.heap.push { cls:=.type "range",data:=.fields #[.int lo t,.int hi u,.int 1 v] }).objs.size],_,_,H,rfl,
    I1.kept (t':=tk) fun b o e=>Heap.get?_push_of_some _ e,turn_range _ lo (hi - lo).toNat,?_,fun b hb=>?_,q⟩
  · have e1:lo+((0:Nat):Int) * 1=lo:=by simp
    have e2:(((hi - lo).toNat:Nat):Int) - ((0:Nat):Int)=Builtin.Range.rangeSize lo hi 1:=by rw [rangeSize_one]; split <;> omega
    show IsRangeIter _ _ (lo+((0:Nat):Int) * 1) ((((hi - lo).toNat:Nat):Int) - ((0:Nat):Int)) 1
    rw [e1,e2]
    exact Heap.get?_push_size _ rfl
  · have e:b=(s.heap.push { cls:=.type "range",data:=.fields #[.int lo t,.int hi u,.int 1 v] }).objs.size:=by simpa using hb
    subst e
    exact I1.fpOk (Nat.le_refl _) (I1.hok.fresh (Nat.le_refl _))
def iRng1 (ta:TA):TI:=fun σ H R=>ta σ H fun vs H1=>∃j:Int,vs = [.int j] ∧ -(2 ^ 62)≤j∧j < 2 ^ 62∧R (Itr 0 j.toNat) H1
theorem pi_range1 {a:Expr}{ta:TA}{p pos:Pos}(hg:Gl X "range")(hm:X.mg "range" = none)(ha:PA X [a] ta)(hs:starEach [a] X.env = [(false,eval a X.env)]:=by rfl):PI X tg (.Call (.Name "range" p) [a] [] pos) (iRng1 ta):=by
  intro pins s σ H R I h
  refine Call_ (ld_blt I hg hm boot_range (PyProof.Rows.callWith_type1 (thn (ha pos pins s σ H _ I h) fun us s1 ⟨vs,H1,I1,r1,q1⟩=>?_) hs rfl))
  obtain ⟨j,e,q1,q2,q⟩:=q1
  subst e
  cases r1 with
  | cons r rr =>
    cases rr
    obtain ⟨t,rfl⟩:=r
    exact call_range_1 (range_it I1 (by omega) (by omega) q1 q2 (by simpa using q))
def tFor (wi:TI)(g:TG)(tb:TS):TS:=fun D σ H=>wi σ H fun J H1=>∃W:Nat→Nat→St→Hp→Prop,(∃m,W 0 m σ H1) ∧ ∀i m σ H,W i m σ H →
  (J.stop i H∧D.nx σ H)∨(J.go i H ∧ ∃N:St→Hp→Prop,(∀σ' H',N σ' H'→∃m',m' < m∧W (i+1) m' σ' H') ∧ ∀x H',J.yld i H x H'→g x σ H' fun σ2 H2=>tb { D with nx:=N,ct:=N,bk:=D.nx } σ2 H2)
def pinsAt (fp:List Addr)(h:Heap):List (Addr×Obj):=fp.filterMap fun b=>(h.get? b).map fun o=>(b,o)
theorem mem_pinsAt {fp:List Addr}{h:Heap}{b:Addr}{o:Obj}(hb:b∈fp)(e:h.get? b=some o):(b,o)∈pinsAt fp h:=List.mem_filterMap.mpr ⟨b,hb,by rw [e]; rfl⟩
theorem of_pinsAt {fp:List Addr}{h:Heap}{p:Addr×Obj}(hp:p∈pinsAt fp h):p.1∈fp∧h.get? p.1=some p.2:=by
  obtain ⟨b,hb,e⟩:=List.mem_filterMap.mp hp
  cases q:h.get? b with
  | none=>rw [q] at e; cases e
  | some o =>
    rw [q] at e
    have e':(b,o)=p:=Option.some.inj e
    subst e'
    exact ⟨hb,q⟩
theorem Inv.pinned {pins:List (Addr×Obj)}{σ:St}{H:Hp}{s:Shared}{fp:List Addr}(I:Inv X pins σ H s)(hf:∀b∈fp,FpOk X pins H b)(ho:∀b∈fp,∃o,s.heap.get? b=some o ∧ ∀v,o.data ≠ .cell v):Inv X (pins++pinsAt fp s.heap) σ H s:=
  I.pins_of fun p hp=>(List.mem_append.mp hp).elim (fun z=>I.pin p (List.mem_append_right _ z)) fun z=>by
    obtain ⟨hb,e⟩:=of_pinsAt z
    obtain ⟨f0,f1,f2,_⟩:=hf p.1 hb
    obtain ⟨o,e',d⟩:=ho p.1 hb
    rw [e] at e'; cases e'
    exact ⟨e,f0,f1,f2,d⟩
theorem Inv.unpinned {pins pl:List (Addr×Obj)}{σ:St}{H:Hp}{s:Shared}(I:Inv X (pins++pl) σ H s):Inv X pins σ H s:=I.pins_of fun p hp=>I.pin p (List.mem_append_right _ (List.mem_append_left _ hp))
theorem ps_for {iter:Expr}{body:List Stmt}{wi:TI}{g:TG}{tb:TS}{pos:Pos}(hp:PassesOwn (model X.prog X.w) X.A X.env X.xe)(hc:X.calm=true)(hi:PI X tg iter wi)(hg:PG X tg g)(hb:PSs X body tb)(hs:∀x,foldedSetIterable iter X.env x=pure x:=by intro _; rfl):PS X (.For tg iter body [] pos) (tFor wi g tb):=by
  intro pins s σ H D I h
  refine wpAny_For (thn (hi pins s σ H _ I h) fun v s1 h1=>thn h1 fun itv s2 h2=>?_) hs
  obtain ⟨it,fp,tn,J,H2,e,I2,T,st2,f2,W,⟨m0,w0⟩,turn⟩:=h2
  subst e
  have stat:∀ {H':Hp},(∀b∈fp,H' b=none)→∀b∈fp,FpOk X pins H' b:=fun hn b hb=>⟨hn b hb,(f2 b hb).2⟩
  refine codeAny_forLoop_any (fun n s'=>∃i σ' H',Inv X pins σ' H' s'∧tn i s'.heap∧(∀b∈fp,H' b=none)∧W i n σ' H') ?_ m0 ⟨0,σ,H2,I2,st2,fun b hb=>(f2 b hb).1,w0⟩
  rintro n s3 ⟨i,σ3,H3,I3,st3,fr3,w3⟩
  rcases turn i n σ3 H3 w3 with ⟨stop,qn⟩ | ⟨go,N,hN,step⟩
  · refine wpAny_passesOwn hp (thn (T.done X rfl rfl rfl hc i pins s3 σ3 H3 X.xe I3 (stat fr3) st3 stop) fun r s4 ⟨hr,I4⟩=>?_)
    subst hr
    exact wpAny_execs_nil ⟨σ3,H3,I4,qn⟩
  · refine wpAny_passesOwn hp (thn (T.item X rfl rfl rfl hc i pins s3 σ3 H3 X.xe I3 (stat fr3) st3 go) fun r s4 ⟨u,hr,h4⟩=>?_)
    subst hr
    refine wpAny_passesOwn hp (thn h4 fun _ s5 ⟨x,H5,I5,r5,y5,st5,fr5⟩=>?_)
    have I5':=I5.pinned (stat fr5) (T.obj _ _ st5)
    refine wpAny_passesOwn hp (thn (hg _ s5 σ3 H5 x u _ I5' r5 (step x H5 y5)) fun _ s6 ⟨σ6,H6,I6,q6⟩=>?_)
    refine wpAny_passesOwn hp (thn (hb _ s6 σ6 H6 _ I6 q6) fun f s7 q7=>?_)
    have again:∀ {σ7:St}{H7:Hp},Inv X (pins++pinsAt fp s5.heap) σ7 H7 s7→N σ7 H7→∃m,m < n ∧ ∃i σ' H',Inv X pins σ' H' s7∧tn i s7.heap∧(∀b∈fp,H' b=none)∧W i m σ' H':=fun {σ7 H7} I7 n7=>by
      obtain ⟨m',hm,w7⟩:=hN σ7 H7 n7
      refine ⟨m',hm,i+1,σ7,H7,I7.unpinned,T.keep _ _ _ st5 fun b hb o e=>(I7.pin (b,o) (List.mem_append_right _ (List.mem_append_right _ (mem_pinsAt hb e)))).1,fun b hb=>?_,w7⟩
      obtain ⟨o,e,d⟩:=T.obj _ _ st5 b hb
      exact (I7.pin (b,o) (List.mem_append_right _ (List.mem_append_right _ (mem_pinsAt hb e)))).2.1
    cases f with
    | next=>obtain ⟨σ7,H7,I7,n7⟩:=q7; exact again I7 n7
    | cont=>obtain ⟨σ7,H7,I7,n7⟩:=q7; exact again I7 n7
    | brk=>obtain ⟨σ7,H7,I7,q7⟩:=q7; exact ⟨σ7,H7,I7.unpinned,q7⟩
    | ret v=>obtain ⟨x7,σ7,H7,I7,r7,q7⟩:=q7; exact ⟨x7,σ7,H7,I7.unpinned,r7,q7⟩
end
end L2
namespace L2
open PySem PySem.Spec PyProof.Rows
abbrev R2:=V→V→Hp→VK→Prop
def OpR (X:Cx)(f:Value→Value→Sem Value)(r:R2):Prop:=
  ∀ (pins:List (Addr×Obj)) (s:Shared) (σ:St) (H:Hp) (x y:V) (v u:Value) (Q:VK),Inv X pins σ H s→RelV x v→RelV y u→r x y H Q →
    wpAny (model X.prog X.w) X.A (f v u) (EP X pins σ Q) X.xe s
def UnR (X:Cx)(f:Value→Sem Value)(r:V→Hp→VK→Prop):Prop:=
  ∀ (pins:List (Addr×Obj)) (s:Shared) (σ:St) (H:Hp) (x:V) (v:Value) (Q:VK),Inv X pins σ H s→RelV x v→r x H Q →
    wpAny (model X.prog X.w) X.A (f v) (EP X pins σ Q) X.xe s
def CallR (X:Cx)(f:Value)(r:List V→Hp→VK→Prop):Prop:=
  ∀ (pins:List (Addr×Obj)) (s:Shared) (σ:St) (H:Hp) (xs:List V) (us:List Value) (Q:VK),Inv X pins σ H s→Vals xs us→r xs H Q →
    wpAny (model X.prog X.w) X.A (call f us) (EP X pins σ Q) X.xe s
def tOp (r:R2)(ta tb:TE):TE:=fun σ H Q=>ta σ H fun x H1=>tb σ H1 fun y H2=>r x y H2 Q
def tUn (r:V→Hp→VK→Prop)(ta:TE):TE:=fun σ H Q=>ta σ H fun x H1=>r x H1 Q
def rI (C:Int→Int→Prop)(g:Int→Int→V):R2:=fun x y H Q=>∃i j,x = .int i∧y = .int j∧C i j∧Q (g i j) H
def rI0 (g:Int→Int→V):R2:=fun x y H Q=>∃i j,x = .int i∧y = .int j∧Q (g i j) H
def rU (g:Int→V):V→Hp→VK→Prop:=fun x H Q=>∃i,x = .int i∧Q (g i) H
section
variable {X:Cx}{a b c:Expr}{ta tb tc:TE}{pos:Pos}
theorem binT (ha:PE X a ta)(hb:PE X b tb){pins:List (Addr×Obj)}{s:Shared}{σ:St}{H:Hp}{R:V→V→Hp→Prop}(I:Inv X pins σ H s)(h:ta σ H fun x H1=>tb σ H1 fun y H2=>R x y H2){Q:Value→Shared→Prop}{f:Value→Value→Sem Value}(hf:∀v u s2 x y H2,Inv X pins σ H2 s2→RelV x v→RelV y u→R x y H2→wpAny (model X.prog X.w) X.A (f v u) Q X.xe s2) :
    wpAny (model X.prog X.w) X.A (eval a X.env) (fun v s₁=>wpAny (model X.prog X.w) X.A (eval b X.env) (fun u s₂=>wpAny (model X.prog X.w) X.A (f v u) Q X.xe s₂) X.xe s₁) X.xe s:=by
  refine thn (ha pins s σ H _ I h) fun v s1 ⟨x,H1,I1,r1,q1⟩=>?_
  refine thn (hb pins s1 σ H1 _ I1 q1) fun u s2 ⟨y,H2,I2,r2,q2⟩=>?_
  exact hf v u s2 x y H2 I2 r1 r2 q2
theorem pe_op {op:Operator}{r:R2}(ho:OpR X (binaryOp op) r)(ha:PE X a ta)(hb:PE X b tb):PE X (.BinOp a op b pos) (tOp r ta tb):=by
  intro pins s σ H Q I h
  exact wpAny_BinOp (binT ha hb I h fun v u s2 x y H2 I2 rx ry q=>ho pins s2 σ H2 x y v u Q I2 rx ry q)
theorem pe_un {op:UnaryOp}{r:V→Hp→VK→Prop}(ho:UnR X (unaryOp op) r)(ha:PE X a ta):PE X (.UnaryOp op a pos) (tUn r ta):=by
  intro pins s σ H Q I h
  exact UnaryOp_ (thn (ha pins s σ H _ I h) fun v s1 ⟨x,H1,I1,r1,q1⟩=>ho pins s1 σ H1 x v Q I1 r1 q1)
theorem opI {f:Value→Value→Sem Value}{C:Int→Int→Prop}{g:Int→Int→Int}(rule:∀ (i j:Int) (t u:Tok) (s:Shared) (Q:Value→Shared→Prop) (E:Value→Shared→Prop),C i j→Q (.int (g i j) s.toks) { s with toks:=s.toks+1 }→wpAny (model X.prog X.w) X.A (f (.int i t) (.int j u)) Q E s) :
    OpR X f (rI C fun i j=>.int (g i j)):=by
  intro pins s σ H x y v u Q I rx ry h
  obtain ⟨i,j,rfl,rfl,hc,q⟩:=h
  obtain ⟨t,rfl⟩:=rx
  obtain ⟨t',rfl⟩:=ry
  exact rule i j t t' s _ _ hc ⟨.int (g i j),H,I.tok _,⟨_,rfl⟩,q⟩
theorem opI0 {f:Value→Value→Sem Value}{g:Int→Int→Int}(rule:∀ (i j:Int) (t u:Tok) (s:Shared) (Q:Value→Shared→Prop) (E:Value→Shared→Prop),Q (.int (g i j) s.toks) { s with toks:=s.toks+1 }→wpAny (model X.prog X.w) X.A (f (.int i t) (.int j u)) Q E s) :
    OpR X f (rI0 fun i j=>.int (g i j)):=by
  intro pins s σ H x y v u Q I rx ry h
  obtain ⟨i,j,rfl,rfl,q⟩:=h
  obtain ⟨t,rfl⟩:=rx
  obtain ⟨t',rfl⟩:=ry
  exact rule i j t t' s _ _ ⟨.int (g i j),H,I.tok _,⟨_,rfl⟩,q⟩
theorem opB0 {f:Value→Value→Sem Value}{g:Int→Int→Bool}(rule:∀ (i j:Int) (t u:Tok) (s:Shared) (Q:Value→Shared→Prop) (E:Value→Shared→Prop),Q (.bool (g i j)) s→wpAny (model X.prog X.w) X.A (f (.int i t) (.int j u)) Q E s) :
    OpR X f (rI0 fun i j=>.bl (g i j)):=by
  intro pins s σ H x y v u Q I rx ry h
  obtain ⟨i,j,rfl,rfl,q⟩:=h
  obtain ⟨t,rfl⟩:=rx
  obtain ⟨t',rfl⟩:=ry
  exact rule i j t t' s _ _ ⟨.bl (g i j),H,I,rfl,q⟩
def CDiv (i j:Int):Prop:=0 < j∧j < 1073741824
def CMul (i j:Int):Prop:=(-(2 ^ 64) < i∧i < 2 ^ 64)∨(-(2 ^ 64) < j∧j < 2 ^ 64)
theorem CMul.ok {i j:Int}(h:CMul i j):IntMulOk i j:=by
  rcases h with ⟨h1,h2⟩ | ⟨h1,h2⟩
  · exact .of_left (intBits_le_64 h1 h2)
  · exact .of_right (intBits_le_64 h1 h2)
theorem two_pow_nn (k:Nat):(0:Int)≤2 ^ k:=by
  rw [two_pow_cast]
  exact Int.natCast_nonneg _
theorem op_add:OpR X (binaryOp .Add) (rI0 fun i j=>.int (i+j)):=opI0 fun _ _ _ _ _ _ _ q=>add_int q
theorem op_mul:OpR X (binaryOp .Mult) (rI CMul fun i j=>.int (i * j)):=opI fun _ _ _ _ _ _ _ hc q=>mul_int q hc.ok
theorem op_fdiv:OpR X (binaryOp .FloorDiv) (rI CDiv fun i j=>.int (i / j)):=opI fun i j _ _ _ _ _ hc q=>by
  have h1:(0:Int) < j:=hc.1
  have h2:j < 1073741824:=hc.2
  exact floordiv_int (by omega) (by rw [Int.fdiv_eq_ediv_of_nonneg i (by omega)]; exact q) (.inl (PyProof.noPylong_small (by omega)))
theorem op_mod:OpR X (binaryOp .Mod) (rI (fun _ j=>0 < j) fun i j=>.int (i % j)):=opI fun i j _ _ _ _ _ hc q=>by
  have h1:(0:Int) < j:=hc
  exact mod_int' (by omega) (by rw [Int.fmod_eq_emod_of_nonneg i (by omega)]; exact q)
theorem unI {f:Value→Sem Value}{g:Int→Int}(rule:∀ (i:Int) (t:Tok) (s:Shared) (Q:Value→Shared→Prop) (E:Value→Shared→Prop),Q (.int (g i) s.toks) { s with toks:=s.toks+1 }→wpAny (model X.prog X.w) X.A (f (.int i t)) Q E s) :
    UnR X f (rU fun i=>.int (g i)):=by
  intro pins s σ H x v Q I rx h
  obtain ⟨i,rfl,q⟩:=h
  obtain ⟨t,rfl⟩:=rx
  exact rule i t s _ _ ⟨.int (g i),H,I.tok _,⟨_,rfl⟩,q⟩
theorem un_neg:UnR X (unaryOp .USub) (rU fun i=>.int (-i)):=unI fun _ _ _ _ _ q=>neg_int q
end
def scal:V→V→Bool
  | .non,.non=>true | .non,.int _=>true | .int _,.non=>true | .non,.bl _=>true | .bl _,.non=>true | .non,.str _=>true | .str _,.non=>true
  | .int _,.int _=>true | .bl _,.bl _=>true | .str _,.str _=>true | .byt _,.byt _=>true
  | .int _,.str _=>true | .str _,.int _=>true | .bl _,.str _=>true | .str _,.bl _=>true
  | _,_=>false
def rEq:R2:=fun x y H Q=>scal x y=true∧Q (.bl (decide (x=y))) H
def rNe:R2:=fun x y H Q=>scal x y=true∧Q (.bl (!decide (x=y))) H
theorem dec_int {i j:Int}:decide (V.int i=V.int j)=(i == j):=by
  rw [Bool.eq_iff_iff]
  simp
theorem dec_bl {i j:Bool}:decide (V.bl i=V.bl j)=(i == j):=by
  rw [Bool.eq_iff_iff]
  simp
theorem dec_str {i j:Str}:decide (V.str i=V.str j)=(i == j):=by
  rw [Bool.eq_iff_iff]
  simp
theorem dec_byt {i j:Array UInt8}:decide (V.byt i=V.byt j)=(i.toList == j.toList):=by
  rw [Bool.eq_iff_iff]
  cases i
  cases j
  simp
section
variable {X:Cx}{a b c:Expr}{ta tb tc:TE}{pos:Pos}
theorem fin_bl {pins:List (Addr×Obj)}{σ:St}{H:Hp}{s:Shared}{Q:VK}{k k':Bool}(I:Inv X pins σ H s)(q:Q (.bl k) H)(e:k=k'):EP X pins σ Q (.bool k') s:=by
  subst e
  exact ⟨.bl k,H,I,rfl,q⟩
theorem op_eq:OpR X (compareOp .Eq) rEq:=by
  intro pins s σ H x y v u Q I rx ry h
  obtain ⟨hs,q⟩:=h
  cases x with
  | non =>
    cases rx
    cases y with
    | non=>cases ry; exact PySem.EqNone.eq_none_none (fin_bl I q (by simp))
    | bl j=>cases ry; exact PySem.EqNone.eq_none_bool (fin_bl I q (by simp))
    | int j=>obtain ⟨t',rfl⟩:=ry; exact PySem.EqNone.eq_none_int (fin_bl I q (by simp))
    | str j=>obtain ⟨t',rfl⟩:=ry; exact PySem.EqNone.eq_none_str (fin_bl I q (by simp))
    | _=>exact absurd (show false=true from hs) Bool.false_ne_true
  | bl i =>
    cases rx
    cases y with
    | non=>cases ry; exact PySem.EqNone.eq_bool_none (fin_bl I q (by simp))
    | bl j=>cases ry; exact eq_bool (fin_bl I q dec_bl)
    | str j=>obtain ⟨t',rfl⟩:=ry; exact PySem.EqMixed.eq_bool_str (fin_bl I q (by simp))
    | _=>exact absurd (show false=true from hs) Bool.false_ne_true
  | int i =>
    obtain ⟨t,rfl⟩:=rx
    cases y with
    | non=>cases ry; exact PySem.EqNone.eq_int_none (fin_bl I q (by simp))
    | int j=>obtain ⟨t',rfl⟩:=ry; exact eq_int (fin_bl I q dec_int)
    | str j=>obtain ⟨t',rfl⟩:=ry; exact PySem.EqMixed.eq_int_str (fin_bl I q (by simp))
    | _=>exact absurd (show false=true from hs) Bool.false_ne_true
  | str i =>
    obtain ⟨t,rfl⟩:=rx
    cases y with
    | non=>cases ry; exact PySem.EqNone.eq_str_none (fin_bl I q (by simp))
    | bl j=>cases ry; exact PySem.EqMixed.eq_str_bool (fin_bl I q (by simp))
    | int j=>obtain ⟨t',rfl⟩:=ry; exact PySem.EqMixed.eq_str_int (fin_bl I q (by simp))
    | str j=>obtain ⟨t',rfl⟩:=ry; exact eq_str (fin_bl I q dec_str)
    | _=>exact absurd (show false=true from hs) Bool.false_ne_true
  | byt i =>
    obtain ⟨t,rfl⟩:=rx
    cases y with
    | byt j=>obtain ⟨t',rfl⟩:=ry; exact PySem.W.eq_bytes (fin_bl I q dec_byt)
    | _=>exact absurd (show false=true from hs) Bool.false_ne_true
  | _=>cases y <;> exact absurd (show false=true from hs) Bool.false_ne_true
theorem op_ne:OpR X (compareOp .NotEq) rNe:=by
  intro pins s σ H x y v u Q I rx ry h
  obtain ⟨hs,q⟩:=h
  cases x with
  | non =>
    cases rx
    cases y with
    | non=>cases ry; exact PySem.EqNone.ne_none_none (fin_bl I q (by simp))
    | bl j=>cases ry; exact PySem.EqNone.ne_none_bool (fin_bl I q (by simp))
    | int j=>obtain ⟨t',rfl⟩:=ry; exact PySem.EqNone.ne_none_int (fin_bl I q (by simp))
    | str j=>obtain ⟨t',rfl⟩:=ry; exact PySem.EqNone.ne_none_str (fin_bl I q (by simp))
    | _=>exact absurd (show false=true from hs) Bool.false_ne_true
  | bl i =>
    cases rx
    cases y with
    | non=>cases ry; exact PySem.EqNone.ne_bool_none (fin_bl I q (by simp))
    | bl j=>cases ry; exact ne_bool (fin_bl I q (congrArg not dec_bl))
    | str j=>obtain ⟨t',rfl⟩:=ry; exact PySem.EqMixed.ne_bool_str (fin_bl I q (by simp))
    | _=>exact absurd (show false=true from hs) Bool.false_ne_true
  | int i =>
    obtain ⟨t,rfl⟩:=rx
    cases y with
    | non=>cases ry; exact PySem.EqNone.ne_int_none (fin_bl I q (by simp))
    | int j=>obtain ⟨t',rfl⟩:=ry; exact ne_int (fin_bl I q (congrArg not dec_int))
    | str j=>obtain ⟨t',rfl⟩:=ry; exact PySem.EqMixed.ne_int_str (fin_bl I q (by simp))
    | _=>exact absurd (show false=true from hs) Bool.false_ne_true
  | str i =>
    obtain ⟨t,rfl⟩:=rx
    cases y with
    | non=>cases ry; exact PySem.EqNone.ne_str_none (fin_bl I q (by simp))
    | bl j=>cases ry; exact PySem.EqMixed.ne_str_bool (fin_bl I q (by simp))
    | int j=>obtain ⟨t',rfl⟩:=ry; exact PySem.EqMixed.ne_str_int (fin_bl I q (by simp))
    | str j=>obtain ⟨t',rfl⟩:=ry; exact ne_str (fin_bl I q (congrArg not dec_str))
    | _=>exact absurd (show false=true from hs) Bool.false_ne_true
  | byt i =>
    obtain ⟨t,rfl⟩:=rx
    cases y with
    | byt j=>obtain ⟨t',rfl⟩:=ry; exact PySem.W.ne_bytes (fin_bl I q (congrArg not dec_byt))
    | _=>exact absurd (show false=true from hs) Bool.false_ne_true
  | _=>cases y <;> exact absurd (show false=true from hs) Bool.false_ne_true
theorem op_lt:OpR X (compareOp .Lt) (rI0 fun i j=>.bl (decide (i < j))):=opB0 fun _ _ _ _ _ _ _ q=>lt_int q
theorem op_le:OpR X (compareOp .LtE) (rI0 fun i j=>.bl (decide (i≤j))):=opB0 fun _ _ _ _ _ _ _ q=>le_int q
theorem op_gt:OpR X (compareOp .Gt) (rI0 fun i j=>.bl (decide (j < i))):=opB0 fun _ _ _ _ _ _ _ q=>gt_int q
theorem op_ge:OpR X (compareOp .GtE) (rI0 fun i j=>.bl (decide (j≤i))):=opB0 fun _ _ _ _ _ _ _ q=>ge_int q
theorem op_isN:OpR X (compareOp .Is) (fun x y H Q=>y = .non∧Q (.bl (decide (x = .non))) H):=by
  intro pins s σ H x y v u Q I rx ry h
  obtain ⟨rfl,q⟩:=h
  cases ry
  refine is_none_gen (fin_bl I q ?_)
  cases x <;> first
    | (cases rx; rfl)
    | (obtain ⟨t,rfl⟩:=rx; rfl)
theorem nomark (b:Expr){op:CmpOp}(h:op ≠ .In:=by decide)(h2:op ≠ .NotIn:=by decide):behindInMarks op b=false:=by
  have e1:(op == CmpOp.In)=false:=by cases op <;> first | rfl | exact absurd rfl h
  have e2:(op == CmpOp.NotIn)=false:=by cases op <;> first | rfl | exact absurd rfl h2
  cases b <;> simp [behindInMarks,e1,e2]
theorem pe_cmpR {op:CmpOp}{r:R2}(ho:OpR X (compareOp op) r)(ha:PE X a ta)(hb:PE X b tb)(hm:behindInMarks op b=false):PE X (.Compare a [op] [b] pos) (tOp r ta tb):=by
  intro pins s σ H Q I h
  exact wpAny_Compare1 (binT ha hb I h fun v u s2 x y H2 I2 rx ry q=>ho pins s2 σ H2 x y v u Q I2 rx ry q) hm
def tTest (t:TE):TT:=fun σ H Q=>t σ H fun x H'=>∃k,x = .bl k∧Q k H'
theorem pt_cmpR {op:CmpOp}{r:R2}(ho:OpR X (compareOp op) r)(ha:PE X a ta)(hb:PE X b tb)(hm:behindInMarks op b=false):PT X (.Compare a [op] [b] pos) (tTest (tOp r ta tb)):=by
  intro pins s σ H Q I h
  refine wpAny_isTrue_Compare1 (thn (ha pins s σ H _ I h) fun v s1 ⟨x,H1,I1,r1,q1⟩=>thn (hb pins s1 σ H1 _ I1 q1) fun u s2 ⟨y,H2,I2,r2,q2⟩ =>
    thn (ho pins s2 σ H2 x y v u _ I2 r1 r2 q2) fun c s3 ⟨z,H3,I3,r3,k,e,q3⟩=>?_) hm
  subst e
  cases r3
  exact wpAny_truthy_bool ⟨H3,I3,q3⟩
theorem line63:(sizeLine:Nat) < 2 ^ 63:=by rw [sizeLine_eq]; decide
theorem op_add_str:OpR X (binaryOp .Add) (fun x y H Q=>∃i j,x = .str i∧y = .str j∧i.length+j.length≤sizeLine∧Q (.str (i++j)) H):=by
  intro pins s σ H x y v u Q I rx ry h
  obtain ⟨i,j,rfl,rfl,hz,q⟩:=h
  obtain ⟨t,rfl⟩:=rx
  obtain ⟨t',rfl⟩:=ry
  exact add_str (fun t' tk=>⟨.str (i++j),H,I.tok _,⟨_,rfl⟩,q⟩) hz
def PlainIxT (b:Expr):Prop:=∀o i,subscripted b false o i=operate [o,i] (getItem o i)
theorem pe_item_str (ha:PE X a ta)(hb:PE X b tb)(hs:PlainIxT b) :
    PE X (.Subscript a b pos) (tOp (fun x y H Q=>∃z i c,x = .str z∧y = .int i∧0≤i∧i < 2 ^ 63∧i < z.length∧z.cps[i.toNat]? = some c∧Q (.str ⟨#[c]⟩) H) ta tb):=by
  intro pins s σ H Q I h
  refine Subscript_ (binT ha hb I h fun v u s2 x y H2 I2 rx ry q=>?_)
  obtain ⟨z,i,c,rfl,rfl,h0,h63,h1,hc,q⟩:=q
  obtain ⟨t,rfl⟩:=rx
  obtain ⟨t',rfl⟩:=ry
  have e:seqIndex? i z.length=some i.toNat:=PySem.StrLaws.seqIndex_nonneg h0 h1
  exact tail_any (typeIs_str s2 z t) slot_str_getitem.lookup (getItem_str (c:=c) (by
    have e1:decide (i < -(2 ^ 63:Int))=false:=decide_eq_false (by omega)
    have e2:decide (i ≥ 2 ^ 63)=false:=decide_eq_false (by omega)
    rw [e1,e2] <;> rfl) (by rw [e]; exact hc) ⟨.str ⟨#[c]⟩,H2,I2.tok _,⟨_,rfl⟩,q⟩) (hs _ _)
theorem vals1 {x:V}{us:List Value}(r:Vals [x] us):∃u,us = [u]∧RelV x u:=by
  cases r with
  | cons r1 r2=>cases r2; exact ⟨_,rfl,r1⟩
theorem vals2 {x y:V}{us:List Value}(r:Vals [x,y] us):∃u w',us = [u,w']∧RelV x u∧RelV y w':=by
  cases r with
  | cons r1 r2 =>
    cases r2 with
    | cons r3 r4=>cases r4; exact ⟨_,_,rfl,r1,r3⟩
theorem call_max2 (hc:X.calm=true):CallR X (.builtin "max") (fun xs H Q=>∃i j,xs = [.int i,.int j]∧Q (.int (if j > i then j else i)) H):=by
  intro pins s σ H xs us Q I r h
  obtain ⟨i,j,rfl,q⟩:=h
  obtain ⟨u,w',rfl,⟨t,rfl⟩,⟨t',rfl⟩⟩:=vals2 r
  refine max_two_ints (I.ok.hd hc) fun h' tk k=>⟨_,H,I.kept k,?_,q⟩
  by_cases hj:j > i
  · rw [if_pos hj,if_pos hj]; exact ⟨_,rfl⟩
  · rw [if_neg hj,if_neg hj]; exact ⟨_,rfl⟩
theorem call_int1:CallR X (.type "int") (fun xs H Q=>(∃i,xs = [.int i]∧Q (.int i) H) ∨ ∃k,xs = [.bl k]∧Q (.int (if k then 1 else 0)) H):=by
  intro pins s σ H xs us Q I r h
  rcases h with ⟨i,rfl,q⟩ | ⟨k,rfl,q⟩
  · obtain ⟨u,rfl,t,rfl⟩:=vals1 r
    exact call_int_int ⟨.int i,H,I,⟨_,rfl⟩,q⟩
  · obtain ⟨u,rfl,r1⟩:=vals1 r
    cases r1
    exact call_int_bool ⟨.int (if k then 1 else 0),H,I.tok _,⟨_,rfl⟩,q⟩
theorem call_str_int:CallR X (.type "str") (fun xs H Q=>∃i,xs = [.int i]∧i.natAbs.log2 < 1920∧Q (.str (toString i)) H):=by
  intro pins s σ H xs us Q I r h
  obtain ⟨i,rfl,hz,q⟩:=h
  obtain ⟨u,rfl,t,rfl⟩:=vals1 r
  exact PySem.P.str_of_int hz ⟨.str _,H,I.tok _,⟨_,rfl⟩,q⟩
end
end L2
namespace L2
open PySem PySem.Spec PyProof.Rows
structure ObjM (h:Heap)(x dx C:Addr)(mA:Str→Option Value):Prop where
  obj:h.get? x=some (PySem.W.instObj C dx)
  ns:h.Ns1 dx mA
  ne:dx ≠ x
theorem lookIn_ns {h:Heap}{dx:Addr}{mA:Str→Option Value}(n:h.Ns1 dx mA):∃od,h.get? dx=some od ∧ ∀name,PySem.W.lookIn name od=some (mA name):=by
  obtain ⟨o,es,ep,ho,hd,hk,_,hm⟩:=n
  refine ⟨o,ho,fun name=>?_⟩
  have e:=hm name
  unfold nsFind findBy at e
  rw [← Array.find?_toList] at e
  unfold PySem.W.lookIn
  rw [hd]
  dsimp only
  split
  · rename_i y q
    rw [q] at e
    exact congrArg some e
  · rename_i q
    rw [q] at e
    have a:es.toList.any (·.refKey)=false:=by
      rw [List.any_eq_false]
      intro y hy
      obtain ⟨z,t,hkey⟩:=hk y (Array.mem_toList_iff.mp hy)
      simp [DictEntry.refKey,hkey]
    have a':¬ es.toList.any (·.refKey)=true:=by rw [a]; exact Bool.false_ne_true
    rw [if_neg a']
    exact congrArg some e
theorem ObjM.look {h:Heap}{x dx C:Addr}{mA:Str→Option Value}(I:ObjM h x dx C mA):∃od,PySem.W.InstAt h x (PySem.W.instObj C dx) C (some od) ∧ ∀name,PySem.W.lookIn name od=some (mA name):=
  let ⟨od,ho,hl⟩:=lookIn_ns I.ns
  ⟨od,⟨I.obj,rfl,rfl,ho⟩,hl⟩
section
variable {prog:Program}{w:World}{A:Around}{E:Value→Shared→Prop}{s:Shared}{K:PySem.W.Frag}{x dx C f:Addr}{mA:Str→Option Value}{name:Str}{v:Value}
theorem get_map {expr:Bool}{Q:Value→Shared→Prop}(X:K.In s.heap)(I:ObjM s.heap x dx C mA)(hg:PySem.W.plainGet K C name=true)(hh:PySem.W.hasDictIn K C=true)(ha:PySem.W.findIn K (.ref C) name=some none)(hv:mA name=some v)(hv':PySem.W.handedIn v=true)(h:Q v { s with toks:=s.toks+1 }) :
    wpAny (model prog w) A (getAttr (.ref x) name expr) Q E s:=by
  obtain ⟨od,J,hl⟩:=I.look
  exact PySem.W.get_value X J (PySem.W.plainGet_of hg).1 (PySem.W.findObj_own hh ha rfl (by rw [hl,hv])) hv' h
theorem get_meth {pl:Sem Bool}{Q:Value×List Value→Shared→Prop}(X:K.In s.heap)(I:ObjM s.heap x dx C mA)(hg:PySem.W.plainGet K C name=true)(hf:PySem.W.findIn K (.ref C) name=some (some (.ref f)))(ht:PySem.W.isFn K (.ref f)=true)(hv:mA name=none)(h:Q (.ref f,[.ref x]) s) :
    wpAny (model prog w) A (getMethod (.ref x) name pl) Q E s:=by
  obtain ⟨od,J,hl⟩:=I.look
  exact PySem.W.method_fn X J (PySem.W.plainGet_of hg).1 (PySem.W.plainGet_of hg).2 hf (beq_iff_eq.mp ht) (by show (PySem.W.lookIn name od).map (·.isSome)=some false; rw [hl,hv]; rfl) h
theorem set_map {ns:List Str}{Q:Unit→Shared→Prop}(X:K.In s.heap)(I:ObjM s.heap x dx C mA)(hs:PySem.W.findIn K (.ref C) "__setattr__" = some (some (.builtin "object.__setattr__")))(hp:PySem.W.plainOver K C=true)(ht:PySem.W.takerIn K C name=some none)(hh:PySem.W.hasDictIn K C=true)(hw:PySem.Within mA ns)(hsz:ns.length≤sizeLine)(h:∀h',ObjM h' x dx C (fun y=>if y=name then some v else mA y)→Heap.SameBut dx s.heap h'→Q () { s with heap:=h',toks:=s.toks+2 }) :
    wpAny (model prog w) A (setAttr (.ref x) name v) Q E s:=by
  obtain ⟨od,J,hl⟩:=I.look
  refine PySem.W.set_plain X J hs (PySem.W.osa_open (s:={ s with toks:=s.toks+1 }) (r:=none) X J hp ht fun b=>?_)
  obtain ⟨cd,hc,hd'⟩:=PySem.W.any_some hh
  have hx:s.heap.get? x=some ⟨.ref C,some dx,.plain,#[]⟩:=I.obj
  refine wpAny_bind (wpAny_pure (wpAny_bind (wpAny_bind (wpAny_loadPart hx (wpAny_bind (PySem.W.Looks.here (s:={ s with toks:=s.toks+1 }) (PySem.W.looks_clsIn X hc) ?_))))))
  rw [hd']
  refine wpAny_pure (a:=some dx) (wpAny_bind (wpAny_pure (wpAny_bind ?_)))
  refine wpAny_nsSet1 (s:={ s with toks:=s.toks+1 }) I.ns fun h' hn2 hs2=>?_
  obtain ⟨oD,esD,epD,hoD,hdD,hcD⟩:=hn2.count (PySem.Within.cons name v hw)
  refine wpAny_bind (wpAny_lookBehind hoD (by rw [hdD]; exact pastItsLine_dict (Nat.le_trans hcD (by rw [List.length_cons]; omega))) ?_)
  exact wpAny_pure (h _ ⟨(hs2.2 _ (Ne.symm I.ne)).trans I.obj,hn2,I.ne⟩ hs2)
theorem make_map {R:Result→Shared→Prop}{vs:List Value}{kw:List (Str×Value)}(X:K.In s.heap)(hm:PySem.W.makesIn K C=true)(hi:PySem.W.findIn K (.ref C) "__init__" = some (some (.ref f)))(hf:PySem.W.typeIn K (.ref f)=some (.type "function"))(h:codeAny (model prog w) (A.under (.builtin "type.__call__" ⟨.ref C::vs,kw⟩)) (.call (.ref f) ⟨.ref (s.heap.objs.size+1)::vs,kw⟩) (PySem.W.InitBack (s.heap.objs.size+1) R)
      { s with heap:=(s.heap.push PySem.W.emptyDict).push (PySem.W.instObj C s.heap.objs.size) }) :
    codeAny (model prog w) A (.call (.ref C) ⟨vs,kw⟩) R s:=by
  obtain ⟨hh,g,d,t,os⟩:=s
  exact PySem.W.make_core (PySem.W.makes_of X hm) (PySem.W.looks_findIn X hi) (fun self=>PySem.W.bind_fn X self hf) (.inl rfl) h
end
def putF (f:Str)(v:V):List (Str×V)→List (Str×V)
  | []=>[(f,v)]
  | (g,x)::r=>if g=f then (g,v)::r else (g,x)::putF f v r
theorem lookup_putF (f g:Str)(v:V):∀fs:List (Str×V),(putF f v fs).lookup g=if g=f then some v else fs.lookup g
  | []=>by
    show List.lookup g [(f,v)]=_
    by_cases h:g=f
    · have hb:(g == f)=true:=beq_iff_eq.mpr h
      simp only [List.lookup,hb,if_pos h]
    · have hb:(g == f)=false:=beq_eq_false_iff_ne.mpr h
      simp only [List.lookup,hb,if_neg h]
  | (k,x)::r=>by
    have ih:=lookup_putF f g v r
    rw [show putF f v ((k,x)::r)=(if k=f then (k,v)::r else (k,x)::putF f v r) from rfl]
    by_cases hk:k=f
    · rw [if_pos hk]
      by_cases h:g=k
      · have hb:(g == k)=true:=beq_iff_eq.mpr h
        simp only [List.lookup,hb,if_pos (h.trans hk)]
      · have hb:(g == k)=false:=beq_eq_false_iff_ne.mpr h
        simp only [List.lookup,hb,if_neg (fun e:g=f=>h (e.trans hk.symm))]
    · rw [if_neg hk]
      by_cases h:g=k
      · have hb:(g == k)=true:=beq_iff_eq.mpr h
        simp only [List.lookup,hb,if_neg (fun e:g=f=>hk (h.symm.trans e))]
      · have hb:(g == k)=false:=beq_eq_false_iff_ne.mpr h
        simp only [List.lookup,hb]
        exact ih
theorem keys_putF (f:Str)(v:V):∀fs:List (Str×V),f∈(putF f v fs).map (·.1) ∧ ∀g,g∈fs.map (·.1)→g∈(putF f v fs).map (·.1)
  | []=>⟨by simp [putF],fun g h=>by simp at h⟩
  | (k,x)::r=>by
    obtain ⟨i1,i2⟩:=keys_putF f v r
    rw [show putF f v ((k,x)::r)=(if k=f then (k,v)::r else (k,x)::putF f v r) from rfl]
    by_cases hk:k=f
    · rw [if_pos hk]
      subst hk
      exact ⟨by simp,fun g h=>by simpa using h⟩
    · rw [if_neg hk]
      refine ⟨?_,fun g h=>?_⟩
      · rw [List.map_cons]
        exact List.mem_cons_of_mem _ i1
      · rw [List.map_cons] at h ⊢
        rcases List.mem_cons.mp h with e | e
        · exact List.mem_cons.mpr (.inl e)
        · exact List.mem_cons_of_mem _ (i2 g e)
theorem length_putF (f:Str)(v:V):∀fs:List (Str×V),(putF f v fs).length≤fs.length+1
  | []=>by simp [putF]
  | (k,x)::r=>by
    have ih:=length_putF f v r
    rw [show putF f v ((k,x)::r)=(if k=f then (k,v)::r else (k,x)::putF f v r) from rfl]
    by_cases hk:k=f
    · rw [if_pos hk,List.length_cons,List.length_cons]; omega
    · rw [if_neg hk,List.length_cons,List.length_cons]; omega
theorem RelO.some_of {v:V}{o:Option Value}(r:RelO (some v) o):∃u,o=some u∧RelV v u:=by
  cases o with
  | none=>exact (show False from r).elim
  | some u=>exact ⟨u,rfl,r⟩
theorem RelO.none_of {o:Option Value}(r:RelO none o):o=none:=by
  cases o with
  | none=>rfl
  | some u=>exact (show False from r).elim
theorem handed_of {v:V}{u:Value}(r:RelV v u):PySem.W.handedIn u=true:=by
  cases v with
  | non=>cases (show u=Value.none from r); rfl
  | bl b=>cases (show u=Value.bool b from r); rfl
  | int i=>obtain ⟨t,e⟩:=(show ∃t,u=Value.int i t from r); cases e; rfl
  | str x=>obtain ⟨t,e⟩:=(show ∃t,u=Value.str x t from r); cases e; rfl
  | byt b=>obtain ⟨t,e⟩:=(show ∃t,u=Value.bytes b t from r); cases e; rfl
  | flt b=>obtain ⟨t,e⟩:=(show ∃t,u=Value.float b t from r); cases e; rfl
  | ref a=>cases (show u=Value.ref a from r); rfl
  | ty n=>cases (show u=Value.type n from r); rfl
section
variable {P:Program}{w:World}{H H':Hp}{h h':Heap}{a C dx:Addr}{fs fs':List (Str×V)}
theorem ins_get (hok:HOk P w H h)(e:H a=some (.ins C dx fs)):∃mA,ObjM h a dx C mA∧(∀f,RelO (fs.lookup f) (mA f))∧PySem.Within mA (fs.map (·.1))∧fs.length≤1000∧H dx=some (.own a):=by
  obtain ⟨d,z,ne,ob,mA,n,r,q⟩:=(show ObjOk P w H h a (.ins C dx fs) from hok a _ e)
  exact ⟨mA,⟨ob,n,ne⟩,r,q,z,d⟩
end
structure Cls (K:PySem.W.Frag)(C:Addr):Prop where
  pg:PySem.W.plainGet K C Str.empty=true
  hd:PySem.W.hasDictIn K C=true
  po:PySem.W.plainOver K C=true
  sa:PySem.W.findIn K (.ref C) "__setattr__" = some (some (.builtin "object.__setattr__"))
theorem Cls.get {K:PySem.W.Frag}{C:Addr}(c:Cls K C)(f:Str):PySem.W.plainGet K C f=true:=c.pg
def NoAttr (K:PySem.W.Frag)(C:Addr)(f:Str):Prop:=PySem.W.findIn K (.ref C) f=some none
theorem NoAttr.taker {K:PySem.W.Frag}{C:Addr}{f:Str}(n:NoAttr K C f):PySem.W.takerIn K C f=some none:=by
  unfold PySem.W.takerIn
  rw [show PySem.W.findIn K (.ref C) f=some none from n]
  rfl
structure Meth (K:PySem.W.Frag)(C:Addr)(m:Str)(f:Addr):Prop where
  at_:PySem.W.findIn K (.ref C) m=some (some (.ref f))
  fn:PySem.W.isFn K (.ref f)=true
  kp:PySem.W.keepIn K (.ref f)=true
section
variable {X:Cx}{pins:List (Addr×Obj)}{σ:St}{H:Hp}{s:Shared}{a C dx:Addr}{fs:List (Str×V)}{f:Str}{v:V}{A:Around}{E:Value→Shared→Prop}
theorem getattr_ok {b:Bool}{Q:Value→Shared→Prop}(I:Inv X pins σ H s)(e:H a=some (.ins C dx fs))(c:Cls X.K C)(n:NoAttr X.K C f)(l:fs.lookup f=some v)(h:∀u s',Inv X pins σ H s'→RelV v u→Q u s'):wpAny (model X.prog X.w) A (getAttr (.ref a) f b) Q E s:=by
  obtain ⟨mA,O,r,_,_,_⟩:=ins_get I.hok e
  obtain ⟨u,hu,ru⟩:=RelO.some_of (v:=v) (o:=mA f) (by rw [← l]; exact r f)
  exact get_map I.kIn O (c.get f) c.hd n hu (handed_of ru) (h u _ (I.tok _) ru)
theorem getmeth_ok {m:Str}{g:Addr}{pl:Sem Bool}{Q:Value×List Value→Shared→Prop}(I:Inv X pins σ H s)(e:H a=some (.ins C dx fs))(c:Cls X.K C)(k:Meth X.K C m g)(l:fs.lookup m=none)(h:Q (.ref g,[.ref a]) s):wpAny (model X.prog X.w) A (getMethod (.ref a) m pl) Q E s:=by
  obtain ⟨mA,O,r,_,_,_⟩:=ins_get I.hok e
  have hn:mA m=none:=RelO.none_of (by rw [← l]; exact r m)
  exact get_meth I.kIn O (c.get m) k.at_ k.fn hn h
theorem setattr_ok {y:V}{u:Value}{Q:Unit→Shared→Prop}(I:Inv X pins σ H s)(e:H a=some (.ins C dx fs))(c:Cls X.K C)(n:NoAttr X.K C f)(hl:fs.length < 1000)(ry:RelV y u)(h:∀s',Inv X pins σ (upd H a (.ins C dx (putF f y fs))) s'→Q () s'):wpAny (model X.prog X.w) A (setAttr (.ref a) f u) Q E s:=by
  obtain ⟨mA,O,r,wi,_,ho⟩:=ins_get I.hok e
  have hz:(fs.map (·.1)).length≤sizeLine:=by rw [List.length_map,sizeLine_eq]; omega
  refine set_map I.kIn O c.sa c.po n.taker c.hd wi hz fun h' O' sb=>h _ ?_
  have hd:∃o,h'.get? dx=some o:=let ⟨o,_,_,e',_⟩:=O'.ns; ⟨o,e'⟩
  refine I.write (x:=a) (e:=dx) (by rw [e]; exact True.intro) (.inr ho) (fun b q hb z=>(sb.2 b hb).trans z) hd ?_
  refine ⟨by rw [upd_ne O.ne]; exact ho,?_,O.ne,O'.obj,_,O'.ns,fun g=>?_,fun g hg=>?_⟩
  · have:=length_putF f y fs; omega
  · show RelO ((putF f y fs).lookup g) (if g=f then some u else mA g)
    rw [lookup_putF]
    by_cases q:g=f
    · rw [if_pos q,if_pos q]; exact ry
    · rw [if_neg q,if_neg q]; exact r g
  · by_cases q:g=f
    · rw [q]; exact (keys_putF f y fs).1
    · refine (keys_putF f y fs).2 g (wi g fun z=>hg ?_)
      show (if g=f then some u else mA g)=none
      rw [if_neg q]; exact z
theorem Inv.made (I:Inv X pins σ H s):Inv X pins σ (upd (upd H s.heap.objs.size (.own (s.heap.objs.size+1))) (s.heap.objs.size+1) (.ins C s.heap.objs.size []))
    { s with heap:=(s.heap.push PySem.W.emptyDict).push (PySem.W.instObj C s.heap.objs.size) }:=by
  have e1:(s.heap.push PySem.W.emptyDict).get? s.heap.objs.size=some PySem.W.emptyDict:=Heap.get?_push_size s.heap rfl
  have e2:((s.heap.push PySem.W.emptyDict).push (PySem.W.instObj C s.heap.objs.size)).get? (s.heap.objs.size+1)=some (PySem.W.instObj C s.heap.objs.size):=by
    have:=Heap.get?_push_size (s.heap.push PySem.W.emptyDict) (o:=PySem.W.instObj C s.heap.objs.size) rfl
    rwa [Heap.size_push] at this
  have e3:(s.heap.push PySem.W.emptyDict).Ns s.heap.objs.size (fun _=>none):=⟨PySem.W.emptyDict,#[],_,e1,rfl,(fun e he=>absurd he (by simp)),fun _=>rfl⟩
  have I1:=I.laid (a:=s.heap.objs.size) (o:=.own (s.heap.objs.size+1)) (h':=s.heap.push PySem.W.emptyDict) (t':=s.toks) (fun b u q=>Heap.get?_push_of_some _ q) (Nat.le_refl _) ⟨_,e1⟩
  refine I1.laid (a:=s.heap.objs.size+1) (o:=.ins C s.heap.objs.size []) (t':=s.toks) (fun b u q=>Heap.get?_push_of_some _ q) (Nat.le_of_eq (Heap.size_push _ _)) ?_
  have ne:s.heap.objs.size ≠ s.heap.objs.size+1:=Nat.ne_of_lt (Nat.lt_succ_self _)
  refine ⟨by rw [upd_ne ne,upd_same],Nat.zero_le _,ne,e2,fun _=>none,(Heap.Ns1.of_empty e3).at fun o q=>Heap.get?_push_of_some _ q,fun _=>True.intro,fun y hy=>absurd rfl hy⟩
theorem attr_of {prog:Program}{w:World}{env:Env}{e:Expr}{f:Str}{pos:Pos}{s:Shared}{Q:Value→Shared→Prop}(hb:attributeBase e f env (eval e env)=eval e env)(h:wpAny (model prog w) A (eval e env) (fun o s₁=>wpAny (model prog w) A (getAttr o f true) Q E s₁) E s):wpAny (model prog w) A (eval (.Attribute e f pos) env) Q E s:=
  Attribute_any_ h (by rw [arm_eval_Attribute,hb])
end
def tFld (K:PySem.W.Frag)(ta:TE)(f:Str):TE:=fun σ H Q=>ta σ H fun x H1=>∃a C dx fs v,x = .ref a∧H1 a=some (.ins C dx fs)∧Cls K C∧NoAttr K C f∧fs.lookup f=some v∧Q v H1
def sFld (K:PySem.W.Frag)(ta tv:TE)(f:Str):TS:=fun D σ H=>tv σ H fun y H1=>ta σ H1 fun x H2=>∃a C dx fs,x = .ref a∧H2 a=some (.ins C dx fs)∧Cls K C∧NoAttr K C f∧fs.length < 1000 ∧
  D.nx σ (upd H2 a (.ins C dx (putF f y fs)))
section
variable {X:Cx}{o e value:Expr}{f:Str}{pos pos' tpos:Pos}{ta tv:TE}
theorem pe_fld (he:PE X e ta)(hb:attributeBase e f X.env (eval e X.env)=eval e X.env):PE X (.Attribute e f pos) (tFld X.K ta f):=by
  intro pins s σ H Q I h
  refine attr_of hb (thn (he pins s σ H _ I h) fun u s1 ⟨x,H1,I1,rx,a,C,dx,fs,v,ex,ea,c,n,l,q⟩=>?_)
  subst ex
  obtain rfl:u=Value.ref a:=rx
  exact getattr_ok I1 ea c n l fun u' s2 I2 ru=>⟨v,H1,I2,ru,q⟩
theorem ps_fld (ha:PE X o ta)(hv:PE X value tv)(hs:swapsWith value (some (.Attribute o f pos')) pos.line X.env=pure false):PS X (.Assign [.Attribute o f pos'] value pos) (sFld X.K ta tv f):=by
  intro pins s σ H D I h
  refine plainObj_wpAny_Assign_Attribute (thn (hv pins s σ H _ I h) fun u s1 ⟨y,H1,I1,ry,q⟩=>thn (ha pins s1 σ H1 _ I1 q) fun ov s2 ⟨x,H2,I2,rx,a,C,dx,fs,ex,ea,c,n,l,q2⟩=>?_) hs
  subst ex
  obtain rfl:ov=Value.ref a:=rx
  exact setattr_ok I2 ea c n l ry fun s3 I3=>⟨σ,_,I3,q2⟩
end
section
variable {X:Cx}{pins:List (Addr×Obj)}{σ:St}{H:Hp}{s:Shared}{A:Around}{E:Value→Shared→Prop}{Q:Value→Shared→Prop}{c:Value}{b:Bool}
inductive TyOf (K:PySem.W.Frag)(H:Hp):V→Value→Prop where
  | non:TyOf K H .non (.type "NoneType")
  | bl (x:Bool):TyOf K H (.bl x) (.type "bool")
  | int (i:Int):TyOf K H (.int i) (.type "int")
  | str (x:Str):TyOf K H (.str x) (.type "str")
  | flt (x:UInt64):TyOf K H (.flt x) (.type "float")
  | lst {a:Addr}{xs:List V}(e:H a=some (.lst xs)):TyOf K H (.ref a) (.type "list")
  | frz {a:Addr}{o:Obj}{xs:List V}(e:H a=some (.frz o (.lst xs))):TyOf K H (.ref a) (.type "list")
  | tup {a:Addr}{xs:List V}(e:H a=some (.tup xs)):TyOf K H (.ref a) (.type "tuple")
  | dK {a:Addr}{kvs:List (Key×V)}(e:H a=some (.dK kvs)):TyOf K H (.ref a) (.type "dict")
  | dT {a:Addr}{kvs:List (List Key×V)}(e:H a=some (.dT kvs)):TyOf K H (.ref a) (.type "dict")
  | ins {a C dx:Addr}{fs:List (Str×V)}(e:H a=some (.ins C dx fs)) (cl:Cls K C) (ha:PySem.W.findIn K (.ref C) "__class__" = some (some (.builtin "object.__class__")))
      (hn:PySem.W.specialIn K (.builtin "object.__class__") "__get__" = some (some (.builtin "getset_descriptor.__get__"))) (htk:PySem.W.takesIn K (.builtin "object.__class__")=some true)
      (hm:PySem.W.mroIn K C (.type "object")=some true):TyOf K H (.ref a) (.ref C)
theorem isinst_ok {x:V}{u t:Value}(I:Inv X pins σ H s)(rx:RelV x u)(ty:TyOf X.K H x t)(e:PySem.W.kitOne X.K t c=some b)(h:∀tk,Q (.bool b) { s with toks:=tk }) :
    wpAny (model X.prog X.w) A (call (.builtin "isinstance") [u,c]) Q E s:=by
  cases ty with
  | non=>cases (show u=Value.none from rx); exact PySem.W.kia_one PySem.W.kitx_none I.kIn True.intro e (fun z=>nomatch z) h
  | bl y=>cases (show u=Value.bool y from rx); exact PySem.W.kia_one PySem.W.kitx_bool I.kIn True.intro e (fun z=>nomatch z) h
  | int i=>obtain ⟨t,q⟩:=(show ∃t,u=Value.int i t from rx); cases q; exact PySem.W.kia_one PySem.W.kitx_int I.kIn True.intro e (fun z=>nomatch z) h
  | str y=>obtain ⟨t,q⟩:=(show ∃t,u=Value.str y t from rx); cases q; exact PySem.W.kia_one PySem.W.kitx_str I.kIn True.intro e (fun z=>nomatch z) h
  | flt y=>obtain ⟨t,q⟩:=(show ∃t,u=Value.float y t from rx); cases q; exact PySem.W.kia_one PySem.W.kitx_float I.kIn True.intro e (fun z=>nomatch z) h
  | @lst a xs ea =>
    cases (show u=Value.ref a from rx)
    obtain ⟨_,_,n,_,h1⟩:=(show ObjOk X.prog X.w H s.heap a (.lst xs) from I.hok a _ ea)
    exact PySem.W.kia_one PySem.W.kitx_list I.kIn ⟨_,h1,rfl⟩ e (fun z=>nomatch z) h
  | @frz a ob xs ea =>
    cases (show u=Value.ref a from rx)
    obtain ⟨_,_,_,n,_,h1⟩:=(show ObjOk X.prog X.w H s.heap a (.frz ob (.lst xs)) from I.hok a _ ea)
    exact PySem.W.kia_one PySem.W.kitx_list I.kIn ⟨_,h1,rfl⟩ e (fun z=>nomatch z) h
  | @tup a xs ea =>
    cases (show u=Value.ref a from rx)
    obtain ⟨_,_,_,p⟩:=(show ObjOk X.prog X.w H s.heap a (.tup xs) from I.hok a _ ea)
    obtain ⟨o,h1,h2,_⟩:=p
    exact PySem.W.kia_one PySem.W.kitx_tuple I.kIn ⟨o,h1,h2⟩ e (fun z=>nomatch z) h
  | @dK a kvs ea =>
    cases (show u=Value.ref a from rx)
    obtain ⟨_,_,vs,_,p⟩:=(show ObjOk X.prog X.w H s.heap a (.dK kvs) from I.hok a _ ea)
    obtain ⟨o,es,ep,h1,h2,_⟩:=p
    exact PySem.W.kia_one PySem.W.kitx_dict I.kIn ⟨o,h1,h2.1⟩ e (fun z=>nomatch z) h
  | @dT a kvs ea =>
    cases (show u=Value.ref a from rx)
    obtain ⟨_,_,xs,_,o,es,ep,h1,h2,_⟩:=(show ObjOk X.prog X.w H s.heap a (.dT kvs) from I.hok a _ ea)
    exact PySem.W.kia_one PySem.W.kitx_dict I.kIn ⟨o,h1,h2.1⟩ e (fun z=>nomatch z) h
  | @ins a C dx fs ea cl ha hn htk hm =>
    cases (show u=Value.ref a from rx)
    obtain ⟨mA,O,_⟩:=ins_get I.hok ea
    obtain ⟨od,J,_⟩:=O.look
    exact PySem.W.kia_one (PySem.W.kitx_own (cl.get _) cl.hd ha hn htk hm) I.kIn J e (fun z=>nomatch z) h
end
end L2
namespace L2
open PySem PySem.Spec PyProof.Rows
structure Room (k:Nat)(A:Around):Prop where
  hd:A.handled=none
  dp:A.depth+3 * k+5 < recursionLimit
  un:A.units+16 * k+200 < cLine
theorem Room.mono {j k:Nat}{A:Around}(r:Room k A)(h:j≤k):Room j A:=⟨r.hd,by have:=r.dp; omega,by have:=r.un; omega⟩
theorem Room.deeper {k:Nat}{A:Around}(r:Room (k+1) A)(env:Env):Room k (A.deeper env):=
  ⟨r.hd,by have:=r.dp; show A.depth+1+3 * k+5 < _; omega,by have:=r.un; show A.units+3+16 * k+200 < _; omega⟩
theorem Room.in1 {k:Nat}{A:Around}(r:Room (k+1) A):Room k A.in1:=
  ⟨r.hd,by have:=r.dp; show A.depth+3 * k+5 < _; omega,by have:=r.un; show A.units+1+16 * k+200 < _; omega⟩
theorem make_depth {A:Around}{C:Addr}{us:List Value}{kw:List (Str×Value)}:(A.under (.builtin "type.__call__" ⟨.ref C::us,kw⟩)).depth=A.depth+1:=by
  first | rfl | simp [Around.under,Code.weight,Code.isCreation,Code.isGuard,Code.isCaller,Code.frames,Code.isFrame,guardIds]
theorem make_units {A:Around}{C:Addr}{us:List Value}{kw:List (Str×Value)}:(A.under (.builtin "type.__call__" ⟨.ref C::us,kw⟩)).units=A.units+1:=by
  first | rfl | simp [Around.under,Code.cUnits,Code.frames,Code.isFrame]
theorem Room.make {k:Nat}{A:Around}(r:Room (k+1) A)(C:Addr)(us:List Value)(kw:List (Str×Value)):Room k (A.under (.builtin "type.__call__" ⟨.ref C::us,kw⟩)):=
  ⟨r.hd,by have:=r.dp; rw [make_depth]; omega,by have:=r.un; rw [make_units]; omega⟩
theorem Room.depth {k:Nat}{A:Around}(r:Room k A):A.depth < recursionLimit:=by have:=r.dp; omega
def tNil:TA:=fun _ H Q=>Q [] H
def tCons (ta:TE)(tr:TA):TA:=fun σ H Q=>ta σ H fun x H1=>tr σ H1 fun xs H2=>Q (x::xs) H2
section
variable {X:Cx}{e:Expr}{es:List Expr}{te:TE}{t:TA}{pos:Pos}
theorem pa_nil:PA X [] tNil:=fun _ _ _ _ H Q I h=>Calls.spliced_nil ⟨[],H,I,.nil,h⟩
theorem pa_cons (ha:PE X e te)(hr:PA X es t)(hs:starEach (e::es) X.env=(false,eval e X.env)::starEach es X.env:=by rfl):PA X (e::es) (tCons te t):=by
  intro pos pins s σ H Q I h
  rw [hs]
  show wpAny _ _ (spliced ((false,eval e X.env)::backTo pos (starEach es X.env))) _ _ s
  refine Calls.spliced_cons (thn (ha pins s σ H _ I h) fun u s1 ⟨x,H1,I1,r1,q1⟩=>?_)
  exact thn (hr pos pins s1 σ H1 _ I1 q1) fun us s2 ⟨xs,H2,I2,r2,q2⟩=>⟨x::xs,H2,I2,.cons r1 r2,q2⟩
def tTup (t:TA):TE:=fun σ H Q=>t σ H fun xs H1=>xs.length≤sizeLine ∧ ∀p,H1 p=none→Q (.ref p) (upd H1 p (.tup xs))
def tLst (t:TA):TE:=fun σ H Q=>t σ H fun xs H1=>xs.length≤sizeLine ∧ ∀p,H1 p=none→Q (.ref p) (upd H1 p (.lst xs))
theorem pe_tup {x1}(h:PA X es t):PE X (.Tuple es x1 pos) (tTup t):=by
  intro pins s σ H Q I hq
  refine wpAny_Tuple_spliced (thn (h pos pins s σ H _ I hq) fun us s1 ⟨xs,H1,I1,r,z,q⟩=>⟨by rw [← r.length]; exact z,?_⟩)
  have hf:H1 s1.heap.objs.size=none:=I1.hok.fresh (Nat.le_refl _)
  refine ⟨.ref s1.heap.objs.size,upd H1 s1.heap.objs.size (.tup xs),I1.laid (t':=s1.toks) (fun b u e=>Heap.get?_push_of_some _ e) (Nat.le_refl _) ?_,rfl,q _ hf⟩
  exact ⟨z,us,r,⟨_,Heap.get?_push_size _ rfl,rfl,_,rfl⟩⟩
theorem pe_lst (h:PA X es t):PE X (.List es pos) (tLst t):=by
  intro pins s σ H Q I hq
  refine wpAny_List_spliced (thn (h pos pins s σ H _ I hq) fun us s1 ⟨xs,H1,I1,r,z,q⟩=>⟨by rw [← r.length]; exact z,?_⟩)
  have hf:H1 s1.heap.objs.size=none:=I1.hok.fresh (Nat.le_refl _)
  refine ⟨.ref s1.heap.objs.size,upd H1 s1.heap.objs.size (.lst xs),I1.laid (t':=s1.toks) (fun b u e=>Heap.get?_push_of_some _ e) (Nat.le_refl _) ?_,rfl,q _ hf⟩
  exact ⟨z,us,0,r,Heap.get?_push_size _ rfl⟩
end
abbrev Sp:=List V→Hp→VK→XK→Prop
abbrev CXT:=List Env→Hp→Shared→XK→Value→Shared→Prop
structure Env0 (P:Program)(w:World)(K:PySem.W.Frag)(mg:Str→Option Value)(base:Heap)(A:Around)(outer:List Env)(s:Shared)(H:Hp):Prop where
  frames:A.frames=some outer
  mod:Mod K mg base
  bs:∀b o,base.get? b=some o→s.heap.get? b=some o∧H b=none
  bsz:base.objs.size≤s.heap.objs.size
  funs:s.heap.FunFrames base outer
  frf:∀b∈frs outer,H b=none
  hok:HOk P w H s.heap
  bare:AllBare s.gens
def CE (outer:List Env)(P:Program)(w:World)(H:Hp)(s:Shared)(Q:VK)(u:Value)(s':Shared):Prop:=
  ∃v H',s'.os=s.os∧AllBare s'.gens∧Un (frs outer) [] H H' s.heap s'.heap∧HOk P w H' s'.heap∧RelV v u∧Q v H'
def CR (CX:CXT)(outer:List Env)(P:Program)(w:World)(H:Hp)(s:Shared)(Q:VK)(E:XK)(r:Result)(s':Shared):Prop:=
  match r with
  | .ok (.ret u)=>CE outer P w H s Q u s'
  | .ok _=>False
  | .error e=>CX outer H s E e s'
structure FnOk (P:Program)(w:World)(K:PySem.W.Frag)(mg:Str→Option Value)(base:Heap)(CX:CXT)(k:Nat)(f:Addr)(fd:FuncData)(ps:List Str)(sp:Sp):Prop where
  len:∀vs H Q E,sp vs H Q E→vs.length=ps.length
  run:∀ (A:Around) (outer:List Env) (s:Shared) (H:Hp) (args:Args) (us:List Value) (vs:List V) (Q:VK) (E:XK),Room k A→Env0 P w K mg base A outer s H→BindsTo s fd args (ps.zip us)→Vals vs us→sp vs H Q E →
    codeAny (model P w) A (.call (.ref f) args) (CR CX outer P w H s Q E) s
theorem Env0.make {P:Program}{w:World}{K:PySem.W.Frag}{mg:Str→Option Value}{base:Heap}{A:Around}{outer:List Env}{s:Shared}{H:Hp}(e:Env0 P w K mg base A outer s H)(C:Addr)(us:List Value)(kw:List (Str×Value)) :
    Env0 P w K mg base (A.under (.builtin "type.__call__" ⟨.ref C::us,kw⟩)) outer s H:=⟨by first | exact e.frames | (simpa [Around.under,Code.envs,Code.isFrame,pushEnvs] using e.frames),e.mod,e.bs,e.bsz,e.funs,e.frf,e.hok,e.bare⟩
theorem Env0.in1 {P:Program}{w:World}{K:PySem.W.Frag}{mg:Str→Option Value}{base:Heap}{A:Around}{outer:List Env}{s:Shared}{H:Hp}(e:Env0 P w K mg base A outer s H) :
    Env0 P w K mg base A.in1 outer s H:=⟨e.frames,e.mod,e.bs,e.bsz,e.funs,e.frf,e.hok,e.bare⟩
section
variable {X:Cx}{pins:List (Addr×Obj)}{σ:St}{H:Hp}{s s':Shared}
theorem Inv.env0 (I:Inv X pins σ H s):Env0 X.prog X.w X.K X.mg X.base X.A X.stack s H:=
  ⟨I.ok.frames,I.ok.mod,I.bs,Nat.le_trans I.ok.bsz I.sz,I.stack,I.stkFree,I.hok,I.bare⟩
theorem Inv.after {Q:VK}{u:Value}(I:Inv X pins σ H s)(h:CE X.stack X.prog X.w H s Q u s'):EP X pins σ Q u s':=by
  obtain ⟨v,H',os,bare,un,hok,r,q⟩:=h
  obtain ⟨hh,g,d,t,os'⟩:=s'
  obtain rfl:os'=s.os:=os
  exact ⟨v,H',I.call (h':=hh) (g':=g) (d':=d) (t':=t) (ch:=[]) un hok bare (fun b z=>absurd z (by simp)),r,q⟩
end
def tCall (sp:Sp)(dvs:List V)(E:XK)(t:TA):TE:=fun σ H Q=>t σ H fun vs H1=>sp (vs++dvs) H1 Q E
def tMeth (C:Addr)(m:Str)(sp:Sp)(dvs:List V)(E:XK)(ta:TE)(t:TA):TE:=fun σ H Q=>ta σ H fun x H1=>∃a dx fs,x = .ref a∧H1 a=some (.ins C dx fs)∧fs.lookup m=none ∧
  t σ H1 fun vs H2=>sp (x::(vs++dvs)) H2 Q E
def tMake (C:Addr)(sp:Sp)(dvs:List V)(E:XK)(t:TA):TE:=fun σ H Q=>t σ H fun vs H1=>∀x dx,H1 x=none→H1 dx=none→dx ≠ x →
  sp (.ref x::(vs++dvs)) (upd (upd H1 dx (.own x)) x (.ins C dx [])) (fun v H2=>v = .non∧Q (.ref x) H2) E
def Binds (K:PySem.W.Frag)(fd:FuncData)(ps:List Str)(ds:List Value):Prop:=
  ∀ (s:Shared) (us:List Value),K.In s.heap→(us++ds).length=ps.length→BindsTo s fd ⟨us,[]⟩ (ps.zip (us++ds))
theorem Binds.all {K:PySem.W.Frag}{fd:FuncData}{ps:List Str}(h:∀us:List Value,us.length=ps.length→bindArgs fd ⟨us,[]⟩=pure (ps.zip us)):Binds K fd ps []:=fun s us _ hl=>by
  rw [List.append_nil] at hl ⊢
  exact .of_eq (h us hl)
def Passes (CX:CXT)(X:Cx)(E:XK):Prop:=∀ (pins:List (Addr×Obj)) (σ:St) (H:Hp) (s:Shared) (e:Value) (s':Shared),Inv X pins σ H s→CX X.stack H s E e s'→X.xe e s'
section
variable {X:Cx}{CX:CXT}{k:Nat}{f C:Addr}{fd:FuncData}{ps:List Str}{sp:Sp}{dvs:List V}{ds:List Value}{E:XK}{x m:Str}{p pos apos:Pos}{e o:Expr}{es:List Expr}{ta:TE}{t:TA}
theorem run_fn {pins:List (Addr×Obj)}{σ:St}{H:Hp}{s:Shared}{Q:VK}{us:List Value}{vs:List V}(F:FnOk X.prog X.w X.K X.mg X.base CX k f fd ps sp)(hr:Room k X.A)(hb:Binds X.K fd ps ds)(hd:Vals dvs ds)(hx:Passes CX X E)(I:Inv X pins σ H s)(r:Vals vs us)(h:sp (vs++dvs) H Q E):wpAny (model X.prog X.w) X.A (call (.ref f) us) (EP X pins σ Q) X.xe s:=by
  have r2:Vals (vs++dvs) (us++ds):=r.append hd
  have hl:(us++ds).length=ps.length:=by rw [← r2.length]; exact F.len _ _ _ _ h
  refine wpAny_call (codeAny_mono (F.run X.A X.stack s H ⟨us,[]⟩ (us++ds) (vs++dvs) Q E hr I.env0 (hb s us I.kIn hl) r2 h) fun r s' hq=>?_)
  cases r with
  | error e=>exact hx pins σ H s e s' I hq
  | ok fl =>
    cases fl with
    | ret u=>exact I.after hq
    | next=>exact False.elim hq
    | brk=>exact False.elim hq
    | cont=>exact False.elim hq
theorem pe_call (F:FnOk X.prog X.w X.K X.mg X.base CX k f fd ps sp)(hr:Room k X.A)(hg:Gl X x)(hm:X.mg x=some (.ref f))(hk:PySem.W.keepIn X.K (.ref f)=true)(hb:Binds X.K fd ps ds)(hd:Vals dvs ds)(hx:Passes CX X E)(ha:PA X (e::es) t)(hdb:(x == ("__debug__" : Str))=false:=by decide)(he:starEach (e::es) X.env=(false,eval e X.env)::starEach es X.env:=by rfl)(hpl:(backTo pos (starEach es X.env)).any (·.1)=false:=by rfl) :
    PE X (.Call (.Name x p) (e::es) [] pos) (tCall sp dvs E t):=by
  intro pins s σ H Q I h
  refine wpAny_Call_Name_kw (ld_glob I hg hm ?_ hdb)
  refine PySem.W.callWith_K (h₀:=X.base) I.ok.mod.kin hk (thn (ha pos pins s σ H _ I h) fun us s1 ⟨vs,H1,I1,r,q⟩=>⟨I1.kIn,?_⟩) he hpl
  exact run_fn F hr hb hd hx I1 r q
theorem pe_meth0 {pl:Sem Bool}(he:PE X o ta)(c:Cls X.K C)(hm:Meth X.K C m f)(F:FnOk X.prog X.w X.K X.mg X.base CX k f fd ps sp)(hr:Room k X.A)(hb:Binds X.K fd ps ds)(hd:Vals dvs ds)(hx:Passes CX X E)(ht:eval (.Call (.Attribute o m apos) [] [] pos) X.env=(do
      let ov ← eval o X.env
      standAt apos.atName
      let (f,first) ← holding [ov] (getMethod ov m pl)
      callWith pos f first (backTo pos (starEach [] X.env)) (backToKw pos (keywordEach [] X.env))):=by rfl) :
    PE X (.Call (.Attribute o m apos) [] [] pos) (tMeth C m sp dvs E ta tNil):=by
  intro pins s σ H Q I h
  refine PySem.W.methodCall_KW (pl:=pl) (thn (he pins s σ H _ I h) fun u s1 ⟨x,H1,I1,rx,a,dx,fs,ex,ea,l,q⟩=>?_) ht
  subst ex
  obtain rfl:u=Value.ref a:=rx
  refine getmeth_ok I1 ea c hm l ?_
  exact PySem.W.callWith_K0 (first:=[.ref a]) I1.kIn hm.kp (run_fn (us:=[.ref a]) (vs:=[.ref a]) F hr hb hd hx I1 (.cons rfl .nil) q)
structure Mk (K:PySem.W.Frag)(C f:Addr):Prop where
  makes:PySem.W.makesIn K C=true
  init:PySem.W.findIn K (.ref C) "__init__" = some (some (.ref f))
  fn:PySem.W.isFn K (.ref f)=true
  kp:PySem.W.keepIn K (.ref C)=true
theorem run_make {pins:List (Addr×Obj)}{σ:St}{H:Hp}{s:Shared}{Q:VK}{us:List Value}{vs:List V}(M:Mk X.K C f)(F:FnOk X.prog X.w X.K X.mg X.base CX k f fd ps sp)(hr:Room (k+1) X.A)(hb:Binds X.K fd ps ds)(hd:Vals dvs ds)(hx:Passes CX X E)(I:Inv X pins σ H s)(r:Vals vs us)(h:∀x dx,H x=none→H dx=none→dx ≠ x→sp (.ref x::(vs++dvs)) (upd (upd H dx (.own x)) x (.ins C dx [])) (fun v H2=>v = .non∧Q (.ref x) H2) E) :
    wpAny (model X.prog X.w) X.A (call (.ref C) us) (EP X pins σ Q) X.xe s:=by
  have hq:=h (s.heap.objs.size+1) s.heap.objs.size (I.hok.fresh (Nat.le_succ _)) (I.hok.fresh (Nat.le_refl _)) (Nat.ne_of_lt (Nat.lt_succ_self _))
  have I2:=Inv.made (C:=C) I
  have r2:Vals (V.ref (s.heap.objs.size+1)::(vs++dvs)) (Value.ref (s.heap.objs.size+1)::(us++ds)):=.cons rfl (r.append hd)
  have hl:(Value.ref (s.heap.objs.size+1)::us++ds).length=ps.length:=by
    have e:=r2.length
    rw [F.len _ _ _ _ hq] at e
    exact e.symm
  refine wpAny_call (make_map (f:=f) I.kIn M.makes M.init (beq_iff_eq.mp M.fn) (codeAny_mono (F.run _ X.stack _ _ ⟨Value.ref (s.heap.objs.size+1)::us,[]⟩ (Value.ref (s.heap.objs.size+1)::(us++ds)) _ _ E (hr.make C us [])
    (I2.env0.make C us []) (hb _ (Value.ref (s.heap.objs.size+1)::us) I2.kIn hl) r2 hq) fun r s' hq'=>?_))
  cases r with
  | error e=>exact hx pins σ _ _ e s' I2 hq'
  | ok fl =>
    cases fl with
    | ret u =>
      obtain ⟨v,H',I3,rv,ev,q3⟩:=I2.after hq'
      subst ev
      exact ⟨rv,⟨V.ref (s.heap.objs.size+1),H',I3,rfl,q3⟩⟩
    | next=>exact False.elim hq'
    | brk=>exact False.elim hq'
    | cont=>exact False.elim hq'
theorem pe_make (M:Mk X.K C f)(F:FnOk X.prog X.w X.K X.mg X.base CX k f fd ps sp)(hr:Room (k+1) X.A)(hg:Gl X x)(hm:X.mg x=some (.ref C))(hb:Binds X.K fd ps ds)(hd:Vals dvs ds)(hx:Passes CX X E)(ha:PA X (e::es) t)(hdb:(x == ("__debug__" : Str))=false:=by decide)(he:starEach (e::es) X.env=(false,eval e X.env)::starEach es X.env:=by rfl)(hpl:(backTo pos (starEach es X.env)).any (·.1)=false:=by rfl) :
    PE X (.Call (.Name x p) (e::es) [] pos) (tMake C sp dvs E t):=by
  intro pins s σ H Q I h
  refine wpAny_Call_Name_kw (ld_glob I hg hm ?_ hdb)
  refine PySem.W.callWith_K (h₀:=X.base) I.ok.mod.kin M.kp (thn (ha pos pins s σ H _ I h) fun us s1 ⟨vs,H1,I1,r,q⟩=>⟨I1.kIn,?_⟩) he hpl
  exact run_make M F hr hb hd hx I1 r q
end
def PK (X:Cx)(kws:List Keyword)(t:TA):Prop:=
  ∀ (pos:Pos) (pins:List (Addr×Obj)) (s:Shared) (σ:St) (H:Hp) (Q:List V→Hp→Prop),Inv X pins σ H s→t σ H Q→wpAny (model X.prog X.w) X.A (evalAll ((backToKw pos (keywordEach kws X.env)).map (·.2))) (AP X pins σ Q) X.xe s
section
variable {X:Cx}{CX:CXT}{k:Nat}{f C:Addr}{fd:FuncData}{ps ks:List Str}{sp:Sp}{E:XK}{x m:Str}{p pos apos kpos:Pos}{e o:Expr}{es:List Expr}{kws:List Keyword}{te ta:TE}{t tk:TA}{nm:Option Str}
theorem pk_nil:PK X [] tNil:=fun _ _ _ _ H Q I h=>wpAny_evalAll_nil ⟨[],H,I,.nil,h⟩
theorem pk_cons (ha:PE X e te)(hr:PK X kws t):PK X (⟨nm,e,kpos⟩::kws) (tCons te t):=by
  intro pos pins s σ H Q I h
  show wpAny _ _ (evalAll ((do let v ← eval e X.env; standAt pos; pure v)::(backToKw pos (keywordEach kws X.env)).map (·.2))) _ _ s
  refine wpAny_evalAll_cons (wpAny_bind (thn (ha pins s σ H _ I h) fun u s1 ⟨x,H1,I1,r1,q1⟩=>wpAny_bind (wpAny_standAt (wpAny_pure ?_))))
  exact thn (hr pos pins s1 σ H1 _ I1 q1) fun us s2 ⟨xs,H2,I2,r2,q2⟩=>⟨x::xs,H2,I2,.cons r1 r2,q2⟩
variable {g:List Value→List Value→List Value}{gV:List V→List V→List V}
end
structure FnScope (N P:List Str)(sc:Scope):Prop where
  kind:sc.kind = .function
  co:sc.isCoroutine=false
  gen:sc.isGenerator=false
  nd:N.Nodup
  pre:N.take P.length=P
  par:∀x∈P,sc.names.lookup x=some .local∨sc.names.lookup x=some .cell
  nofree:∀y∈sc.names,y.2 ≠ .free
theorem bindL_out {kindOf:Str→Option NameKind}{x:Str}:∀ {binds:List (Str×Value)}{m:Str→Option Value},(∀v,(x,v) ∉ binds)→bindL kindOf binds m x=m x
  | [],_,_=>rfl
  | (n,v)::r,m,h=>by
    unfold bindL
    rw [bindL_out fun w hw=>h w (List.mem_cons_of_mem _ hw)]
    split
    · have:x ≠ n:=by rintro rfl; exact h v List.mem_cons_self
      simp [this]
    · rfl
theorem bindC_out {kindOf:Str→Option NameKind}{x:Str}:∀ {binds:List (Str×Value)}{m:Str→Option Value},(∀v,(x,v) ∉ binds)→bindC kindOf binds m x=m x
  | [],_,_=>rfl
  | (n,v)::r,m,h=>by
    unfold bindC
    rw [bindC_out fun w hw=>h w (List.mem_cons_of_mem _ hw)]
    split
    · rfl
    · have:x ≠ n:=by rintro rfl; exact h v List.mem_cons_self
      simp [this]
theorem bindL_get {kindOf:Str→Option NameKind}{x:Str}{v:Value}:∀ {P:List Str}{vs:List Value}{i:Nat}{m:Str→Option Value},P.Nodup→P[i]? = some x→vs[i]? = some v→kindOf x=some .local →
    bindL kindOf (P.zip vs) m x=some v
  | [],_,_,_,_,h,_,_=>by simp at h
  | _::_,[],_,_,_,_,h,_=>by simp at h
  | p::P,w::vs,0,m,nd,h1,h2,hk=>by
    simp at h1 h2; subst h1; subst h2
    show bindL kindOf ((p,w)::P.zip vs) m p=_
    unfold bindL
    rw [bindL_out fun v hv=>(List.nodup_cons.mp nd).1 (List.of_mem_zip hv).1,if_pos hk]
    simp
  | p::P,w::vs,i+1,m,nd,h1,h2,hk=>by
    show bindL kindOf ((p,w)::P.zip vs) m x=_
    unfold bindL
    exact bindL_get (i:=i) (List.nodup_cons.mp nd).2 (by simpa using h1) (by simpa using h2) hk
theorem bindC_get {kindOf:Str→Option NameKind}{x:Str}{v:Value}:∀ {P:List Str}{vs:List Value}{i:Nat}{m:Str→Option Value},P.Nodup→P[i]? = some x→vs[i]? = some v→kindOf x ≠ some .local →
    bindC kindOf (P.zip vs) m x=some v
  | [],_,_,_,_,h,_,_=>by simp at h
  | _::_,[],_,_,_,_,h,_=>by simp at h
  | p::P,w::vs,0,m,nd,h1,h2,hk=>by
    simp at h1 h2; subst h1; subst h2
    show bindC kindOf ((p,w)::P.zip vs) m p=_
    unfold bindC
    rw [bindC_out fun v hv=>(List.nodup_cons.mp nd).1 (List.of_mem_zip hv).1,if_neg hk]
    simp
  | p::P,w::vs,i+1,m,nd,h1,h2,hk=>by
    show bindC kindOf ((p,w)::P.zip vs) m x=_
    unfold bindC
    exact bindC_get (i:=i) (List.nodup_cons.mp nd).2 (by simpa using h1) (by simpa using h2) hk
def start (N:List Str)(vs:List V):St:=vs.map some++List.replicate (N.length - vs.length) none
def cxOf (CX:CXT)(P:Program)(w:World)(K:PySem.W.Frag)(mg:Str→Option Value)(base:Heap)(N:List Str)(qual:Str)(scope:Scope)(f:Addr)(cd:Value)(A:Around)(outer:List Env)(s:Shared)(H:Hp)(E:XK):Cx where
  prog:=P
  w:=w
  K:=K
  mg:=mg
  base:=base
  A:=A.deeper (envOfC qual scope s.heap.objs.size f cd)
  N:=N
  s₀:=s
  H₀:=H
  env:=envOfC qual scope s.heap.objs.size f cd
  outer:=outer
  stack:=envOfC qual scope s.heap.objs.size f cd::outer
  ex:=[]
  calm:=true
  fn:=fun _=>true
  pn:=[]
  xe:=fun e s'=>wpAny (model P w) (A.deeper (envOfC qual scope s.heap.objs.size f cd)) (leaving (envOfC qual scope s.heap.objs.size f cd) e) (fun _ s''=>CX outer H s E e s'') (fun e' s''=>CX outer H s E e' s'') s'
theorem cell_has {sc:Scope}{n:Nat}{x:Str}(h:sc.names.lookup x=some .cell):∃c,(cellsFrom n sc.names []).lookup x=some c:=by
  have q:=PySem.W.cellsFrom_some sc.names n [] (.inl h)
  exact Option.isSome_iff_exists.mp q
theorem inv_start {CX:CXT}{P:Program}{w:World}{K:PySem.W.Frag}{mg:Str→Option Value}{base:Heap}{N ps:List Str}{qual:Str}{scope:Scope}{f:Addr}{cd:Value}{A:Around}{outer:List Env}{s s1:Shared}{H:Hp}{E:XK}{us:List Value}{vs:List V}(S:FnScope N ps scope)(hd:A.handled=none)(e0:Env0 P w K mg base A outer s H)(hl:vs.length=ps.length)(r:Vals vs us)(x:InCallC s s.heap.objs.size (bindL (envOfC qual scope s.heap.objs.size f cd).kindOf (ps.zip us) fun _=>none) (cellsFrom (s.heap.objs.size+1) scope.names []) (bindC (envOfC qual scope s.heap.objs.size f cd).kindOf (ps.zip us) fun _=>none) s1) :
    Inv (cxOf CX P w K mg base N qual scope f cd A outer s H E) [] (start N vs) H s1:=by
  have hpl:ps.length≤N.length:=by have:=congrArg List.length S.pre; rw [List.length_take] at this; omega
  obtain ⟨h1,tk,rfl,hk⟩:=x.done
  have noA:∀b:Addr,b ∉ (cxOf CX P w K mg base N qual scope f cd A outer s H E).ex:=fun b z=>absurd (show b∈([]:List Addr) from z) (by simp)
  refine ⟨⟨e0.mod,S.kind,rfl,rfl,Nat.le_refl _,fun y z c h1 h2=>?_,fun y hy=>?_,fun y c _ h=>?_,fun _=>hd,Around.frames_deeper e0.frames,.inr ⟨rfl,rfl⟩,fun b z=>absurd z (noA b),e0.bs,e0.bsz,fun b _ _=>noA b,fun b z=>absurd z (noA b),e0.funs,e0.frf⟩,
    rfl,e0.bare,Un.kept hk,⟨_,x.toInCall.ns,fun i y v h1 h2 h3=>?_⟩,fun y c h=>⟨_,x.cell y c h⟩,e0.hok.fresh (Nat.le_refl _),fun y c h=>?_,fun p hp=>absurd (show p∈([]:List (Addr×Obj)) from hp) (by simp),e0.hok.kept hk,?_⟩
  · exact name_of_addr x.apart (PySem.mem_of_lookup h1) (PySem.mem_of_lookup h2)
  · have hy:scope.names.lookup y=some .cell∨scope.names.lookup y=some .free:=hy
    rcases hy with hy | hy
    · exact cell_has hy
    · exact absurd rfl (S.nofree _ (PySem.mem_of_lookup hy))
  · exact Nat.le_of_lt (x.above y c (PySem.mem_of_lookup h))
  · have hi:i < vs.length:=by
      unfold start at h2
      by_cases hi:i < vs.length
      · exact hi
      · rw [List.getElem?_append_right (by simpa using hi)] at h2
        rw [List.getElem?_replicate] at h2
        split at h2 <;> cases h2
    have ha:vs[i]? = some v:=by
      unfold start at h2
      rw [List.getElem?_append_left (by simpa using hi),List.getElem?_map] at h2
      cases e:vs[i]? with
      | none=>rw [e] at h2; cases h2
      | some a=>rw [e] at h2; cases h2; rfl
    obtain ⟨u,hu,rv⟩:=r.get ha
    have hp:ps[i]? = some y:=by
      rw [← S.pre,List.getElem?_take_of_lt (by omega)]; exact h1
    have ndP:ps.Nodup:=by rw [← S.pre]; exact S.nd.sublist (List.take_sublist _ _)
    refine ⟨u,rv,?_⟩
    rcases S.par y (List.mem_of_getElem? hp) with k | k
    · exact .inl ⟨k,bindL_get ndP hp hu k⟩
    · obtain ⟨c,e⟩:=cell_has (n:=s.heap.objs.size+1) k
      refine .inr ⟨.inl k,c,e,?_⟩
      have q:=x.cell y c e
      rw [bindC_get ndP hp hu (by show scope.names.lookup y ≠ _; rw [k]; decide)] at q
      exact q
  · exact e0.hok.fresh (Nat.le_of_lt (x.above y c (PySem.mem_of_lookup h)))
  · unfold start
    show _=N.length
    rw [List.length_append,List.length_map,List.length_replicate]
    omega
theorem fn_of {CX:CXT}{P:Program}{w:World}{K:PySem.W.Frag}{mg:Str→Option Value}{base:Heap}{k:Nat}{f:Addr}{name qual:Str}{params:Arguments}{body:List Stmt}{scope:Scope}{dV kV doc pm cdv ct oc:Value}{an od:Option Addr}{osl:Array (Option Value)}{N ps:List Str}{sp:Sp}(lk:K.lookup f=some ⟨oc,od,.func (PySem.W.fnOf name qual params body scope dV kV doc pm an cdv ct),osl⟩)(hcd:PySem.W.codeIn K cdv qual=true)(S:FnScope N ps scope)(len:∀vs H Q E,sp vs H Q E→vs.length=ps.length)(hbody:∀ (A:Around) (outer:List Env) (s:Shared) (H:Hp) (vs:List V) (Q:VK) (E:XK),Room k (A.deeper (envOfC qual scope s.heap.objs.size f cdv))→sp vs H Q E →
      ∃t,PSs (cxOf CX P w K mg base N qual scope f cdv A outer s H E) body t∧t { nx:=fun _ H'=>Q .non H',rt:=Q } (start N vs) H) :
    FnOk P w K mg base CX (k+1) f (PySem.W.fnOf name qual params body scope dV kV doc pm an cdv ct) ps sp:=by
  refine ⟨len,fun A outer s H args us vs Q E hr e0 hb r hsp=>?_⟩
  have hl:=len _ _ _ _ hsp
  have KX:K.In s.heap:=e0.mod.kin.keeps fun b o e=>(e0.bs b o e).1
  have lim:s.heap.NoLimit:=e0.mod.nolimit.keeps fun b o e=>(e0.bs b o e).1
  have hkind:∀y∈ps.zip us,scope.names.lookup y.1=some .local∨(scope.names.lookup y.1=some .cell∧((cellsFrom (s.heap.objs.size+1) scope.names []).lookup y.1).isSome=true):=fun ⟨n,v⟩ hy=>by
    rcases S.par n (List.of_mem_zip hy).1 with q | q
    · exact .inl q
    · exact .inr ⟨q,PySem.W.cellsFrom_some _ _ _ (.inl q)⟩
  refine codeAny_call_function hr.depth (KX _ _ lk) rfl S.co S.gen rfl (PySem.W.codeRec_of KX hcd) (hb _ _ _ _ ?_)
  refine wpAny_newFunctionEnv_cells S.kind hkind fun env he s1 x=>?_
  subst he
  refine ⟨lim.keeps x.toInCall.keep,codeAny_func ?_⟩
  obtain ⟨t,ht,hq⟩:=hbody A outer s H vs Q E (hr.deeper _) hsp
  have I:Inv (cxOf CX P w K mg base N qual scope f cdv A outer s H E) [] (start N vs) H s1:=inv_start S hr.hd e0 hl r x
  refine wpAny_mono (ht [] s1 (start N vs) H _ I hq) (fun fl s' hs=>?_) fun e s' hs=>hs
  have fin:∀ {σ':St}{H':Hp}{v:V}{u:Value},Inv (cxOf CX P w K mg base N qual scope f cdv A outer s H E) [] σ' H' s'→RelV v u→Q v H'→CE outer P w H s Q u s':=
    fun {σ' H' v u} J rv q=>⟨v,H',J.os,J.bare,J.base,J.hok,rv,q⟩
  cases fl with
  | ret u =>
    obtain ⟨v,σ',H',J,rv,q⟩:=hs
    exact fin J rv q
  | next =>
    obtain ⟨σ',H',J,q⟩:=hs
    exact fin (v:=V.non) (u:=Value.none) J rfl q
  | brk =>
    obtain ⟨_,_,_,q⟩:=hs
    exact False.elim q
  | cont =>
    obtain ⟨_,_,_,q⟩:=hs
    exact False.elim q
end L2
namespace L2
open PySem PySem.Spec PyProof.Rows
section
variable {X:Cx}{x:Str}{p pos:Pos}{e:Expr}{es:List Expr}{t:TA}{id T:String}{r:List V→Hp→VK→Prop}
def tCB (r:List V→Hp→VK→Prop)(t:TA):TE:=fun σ H Q=>t σ H fun vs H1=>r vs H1 Q
theorem pe_callB (hc:CallR X (.builtin id) r)(hg:Gl X x)(hm:X.mg x=none)(hv:bootBuiltins x=some (.builtin id))(ha:PA X (e::es) t)(hn:x ≠ "__name__" := by decide)(hdb:(x == ("__debug__" : Str))=false:=by decide)(he:starEach (e::es) X.env=(false,eval e X.env)::starEach es X.env:=by rfl)(hpl:(backTo pos (starEach es X.env)).any (·.1)=false:=by rfl):PE X (.Call (.Name x p) (e::es) [] pos) (tCB r t):=by
  intro pins s σ H Q I h
  refine wpAny_Call_Name_kw (ld_blt I hg hm hv ?_ hn hdb)
  exact PyProof.Rows.callWith_builtin1 (thn (ha pos pins s σ H _ I h) fun us s1 ⟨vs,H1,I1,r1,q1⟩=>hc pins s1 σ H1 vs us Q I1 r1 q1) he hpl
theorem pe_callTy (hc:CallR X (.type T) r)(hg:Gl X x)(hm:X.mg x=none)(hv:bootBuiltins x=some (.type T))(ha:PA X (e::es) t)(hn:x ≠ "__name__" := by decide)(hdb:(x == ("__debug__" : Str))=false:=by decide)(he:starEach (e::es) X.env=(false,eval e X.env)::starEach es X.env:=by rfl)(hpl:(backTo pos (starEach es X.env)).any (·.1)=false:=by rfl):PE X (.Call (.Name x p) (e::es) [] pos) (tCB r t):=by
  intro pins s σ H Q I h
  refine wpAny_Call_Name_kw (ld_blt I hg hm hv ?_ hn hdb)
  exact PyProof.Rows.callWith_type1 (thn (ha pos pins s σ H _ I h) fun us s1 ⟨vs,H1,I1,r1,q1⟩=>hc pins s1 σ H1 vs us Q I1 r1 q1) he hpl
end
end L2
namespace HT
open PySem PyProof.Rows
def lexLt:List Int→List Int→Bool
  | [],[]=>false
  | [],_::_=>true
  | _::_,[]=>false
  | x::xs,y::ys=>if x=y then lexLt xs ys else decide (x < y)
theorem lexLt_cons (x y:Int)(xs ys:List Int):lexLt (x::xs) (y::ys)=if x=y then lexLt xs ys else decide (x < y):=rfl
theorem lexLt_nil_nil:lexLt [] []=false:=rfl
theorem lexLt_nil_cons (y:Int)(ys:List Int):lexLt [] (y::ys)=true:=rfl
theorem lexLt_cons_nil (x:Int)(xs:List Int):lexLt (x::xs) []=false:=rfl
theorem eqAt_int (A:Around)(s:Shared)(a:Int)(t:Tok)(c:Int)(u:Tok):∃e,SeqAt.EqAt A s (.int a t) (.int c u) e∧(e=true↔a=c):=
  ⟨(a == c),SeqAt.EqAt.int_int a t c u,by simp⟩
theorem rcLt_int (A:Around)(s:Shared)(a:Int)(t:Tok)(c:Int)(u:Tok)(prog:Program)(w:World)(E:Value→Shared→Prop)(Q:Value→Shared→Prop)(h:Q (.bool (decide (a < c))) s) :
    wpAny (model prog w) A (richCompare .Lt (.int a t) (.int c u)) Q E s:=
  (PyProof.Rows.lt_int h:wpAny (model prog w) A (compareOp .Lt (.int a t) (.int c u)) Q E s)
section
open PySem.SeqAt
open PySem.AutoSeq1 (wpAny_loadPart')
open PySem.MeetsSeq PySem.MeetsSeq2 PySem.MeetsSeq3
theorem tuple_lt_ints (l b:Addr)(items items2:Array Value)(n n2:Nat)(dd dd2:Option Addr)(sl sl2:Array (Option Value))(ns ms:List Int)(hi:IntsAre items.toList ns)(hj:IntsAre items2.toList ms) :
    Meets (Builtin.«tuple.__lt__» ⟨[.ref l,.ref b],[]⟩)
      (fun _ R s=>s.heap.get? l=some { cls:=.type "tuple",dict:=dd,data:=.seq items n,slots:=sl }∧s.heap.get? b=some { cls:=.type "tuple",dict:=dd2,data:=.seq items2 n2,slots:=sl2 } ∧
        R (.ok (.ret (.bool (lexLt ns ms)))) s):=
  .of_wp fun prog w A R s h=>by
    obtain ⟨hp,g,d,tk,os⟩:=s; obtain ⟨hl,hb,h⟩:=h
    have f2:=AutoSeq1.sub_tuple_tuple
    have z1:items.size=ns.length:=by rw [← hi.length]; simp
    have z2:items2.size=ms.length:=by rw [← hj.length]; simp
    wp_walk using wpAny_loadPart' hl,wpAny_loadPart' hb,wpAny_forIn_list _ (fun rest b s'=>b.1=none∧s'=⟨hp,g,d,tk,os⟩ ∧ ∃ (vs ws:List Value) (ns' ms':List Int),rest=vs.zip ws ∧
      IntsAre vs ns'∧IntsAre ws ms'∧ns'.length+items2.size=ms'.length+items.size∧R (.ok (.ret (.bool (lexLt ns' ms')))) ⟨hp,g,d,tk,os⟩) _
    case turn =>
      rintro ⟨y,x⟩ rest b s' ⟨hb',rfl,vs,ws,ns',ms',hz,hvi,hwi,hlen,hR⟩
      cases hvi with
      | nil=>rw [List.zip_nil_left] at hz; cases hz
      | cons a t hvi' =>
        cases hwi with
        | nil=>rw [List.zip_nil_right] at hz; cases hz
        | cons c u hwi' =>
          rw [List.zip_cons_cons] at hz
          injection hz with hyx hrest
          injection hyx with hy hx
          subst hy hx
          rw [lexLt_cons] at hR
          simp only [List.length_cons] at hlen
          obtain ⟨e,he,hiff⟩:=eqAt_int A.in1 ⟨hp,g,d,tk,os⟩ a t c u
          refine wpAny_bind (he prog w _ _ ?_)
          cases e with
          | true =>
            rw [if_pos (hiff.mp rfl)] at hR
            wp_walk
            exact ⟨rfl,rfl,_,_,_,_,hrest,hvi',hwi',by omega,hR⟩
          | false =>
            rw [if_neg (fun q=>absurd (hiff.mpr q) Bool.false_ne_true)] at hR
            have hri:=rcLt_int A.in1 ⟨hp,g,d,tk,os⟩ a t c u prog w
            wp_walk using hri
            exact ⟨_,rfl,by simpa using hR⟩
    case fin =>
      rintro ⟨b1,b2⟩ s' ⟨hb',rfl,vs,ws,ns',ms',hz,hvi,hwi,hlen,hR⟩
      simp only at hb'
      subst hb'
      have hv:lexLt ns' ms'=decide (items.size < items2.size):=by
        cases hvi with
        | nil =>
          cases hwi with
          | nil =>
            simp only [List.length_nil] at hlen
            rw [lexLt_nil_nil]
            exact (decide_eq_false (by omega)).symm
          | cons c u hw =>
            simp only [List.length_nil,List.length_cons] at hlen
            rw [lexLt_nil_cons]
            exact (decide_eq_true (by omega)).symm
        | cons a t hv =>
          cases hwi with
          | nil =>
            simp only [List.length_nil,List.length_cons] at hlen
            rw [lexLt_cons_nil]
            exact (decide_eq_false (by omega)).symm
          | cons c u hw =>
            rw [List.zip_cons_cons] at hz
            cases hz
      rw [hv] at hR
      wp_walk
      exact ⟨_,rfl,by simpa [Builtin.Tuple.tupleCompareSizes] using hR⟩
    case h =>
      exact ⟨rfl,rfl,items.toList,items2.toList,ns,ms,rfl,hi,hj,by omega,h⟩
end
section
variable {prog:Program}{w:World}{A:Around}{E:Value→Shared→Prop}{s:Shared}
theorem lt_tupInts {l b:Addr}{items items2:Array Value}{ns ms:List Int}{Q:Value→Shared→Prop}(hl:IsTup s.heap l items)(hb:IsTup s.heap b items2)(hi:IntsAre items.toList ns)(hj:IntsAre items2.toList ms)(hu:A.units < cLine)(h:Q (.bool (lexLt ns ms)) s):wpAny (model prog w) A (compareOp .Lt (.ref l) (.ref b)) Q E s:=by
  obtain ⟨⟨cls,dd,data,sl⟩,ho,hc,n,hd⟩:=id hl
  obtain ⟨⟨cls2,dd2,data2,sl2⟩,ho2,hc2,n2,hd2⟩:=id hb
  simp only at hc hd hc2 hd2
  subst hc hd hc2 hd2
  exact richCompare_meets_room (op:=.Lt) ⟨_,ho,rfl⟩ ⟨_,ho2,rfl⟩ PySem.F.slot_tuple_lt PySem.F.entry_tuple_lt (PySem.F.args_tuple_lt_2 _ _) (tuple_lt_ints l b items items2 n n2 dd dd2 sl sl2 ns ms hi hj)
    ⟨ho,ho2,show Value.bool (lexLt ns ms) ≠ Value.notImplemented∧Q (.bool (lexLt ns ms)) s from ⟨(fun x=>nomatch x),h⟩⟩ hu
def sIx (n d:Nat):Option Int→Nat
  | none=>d
  | some v=>if v < 0 then (v+(n:Int)).toNat else min v.toNat n
theorem sIx_none (n d:Nat):sIx n d none=d:=rfl
theorem sIx_nat (n d k:Nat):sIx n d (some (k:Int))=min k n:=by
  show (if (k:Int) < 0 then ((k:Int)+(n:Int)).toNat else min (k:Int).toNat n)=min k n
  rw [if_neg (by omega),Int.toNat_natCast]
end
end HT
namespace L2
open PySem PySem.Spec PyProof.Rows
abbrev TO:=St→Hp→(Option Int→Hp→Prop)→Prop
def PO (X:Cx)(e:Option Expr)(t:TO):Prop:=
  ∀ (pins:List (Addr×Obj)) (s:Shared) (σ:St) (H:Hp) (Q:Option Int→Hp→Prop),Inv X pins σ H s→t σ H Q →
    wpAny (model X.prog X.w) X.A (evalPart e X.env) (fun u s'=>∃o H',Inv X pins σ H' s'∧IsPart u o∧Q o H') X.xe s
def tNoPart:TO:=fun _ H Q=>Q none H
def tPart (t:TE):TO:=fun σ H Q=>t σ H fun x H1=>∃i,x = .int i∧Q (some i) H1
theorem intsAre_of {ns:List Int}:∀ {us:List Value},Vals (ns.map V.int) us→IntsAre us ns:=by
  induction ns with
  | nil=>intro us r; rw [List.map_nil] at r; cases r; exact .nil
  | cons n ns ih =>
    intro us r
    rw [List.map_cons] at r
    cases r with
    | cons r1 r2 =>
      obtain ⟨t,e⟩:=r1
      subst e
      exact .cons n t (ih r2)
section
variable {X:Cx}{e:Expr}{te:TE}{lo hi:Option Expr}{tl th:TO}{pos p2:Pos}
theorem po_none:PO X none tNoPart:=by
  intro pins s σ H Q I h
  rw [evalPart_none]
  exact wpAny_pure ⟨none,H,I,.none,h⟩
theorem po_some (h:PE X e te):PO X (some e) (tPart te):=by
  intro pins s σ H Q I hw
  rw [evalPart_some]
  refine thn (h pins s σ H _ I hw) fun u s1 ⟨x,H1,I1,r1,q1⟩=>?_
  obtain ⟨i,rfl,q⟩:=q1
  obtain ⟨t,rfl⟩:=r1
  exact ⟨some i,H1,I1,.int i t,q⟩
def SlR (X:Cx)(r:V→Option Int→Option Int→Hp→VK→Prop):Prop:=
  ∀ (pins:List (Addr×Obj)) (s:Shared) (σ:St) (H:Hp) (x:V) (v vl vu:Value) (lo hi:Option Int) (sl:Addr) (Q:VK),Inv X pins σ H s→RelV x v→s.heap.IsSliceOf sl vl vu .none→IsPart vl lo→IsPart vu hi→r x lo hi H Q →
    ∃T id,typeLookup (.type T) "__getitem__" = pure (some (.builtin id))∧s.TypeIs v T∧wpAny (model X.prog X.w) X.A (getItem v (.ref sl)) (EP X pins σ Q) X.xe s
def tSl (r:V→Option Int→Option Int→Hp→VK→Prop)(te:TE)(tl th:TO):TE:=fun σ H Q=>te σ H fun x H1=>tl σ H1 fun l H2=>th σ H2 fun u H3=>r x l u H3 Q
theorem pe_slice {r:V→Option Int→Option Int→Hp→VK→Prop}(hr:SlR X r)(he:PE X e te)(hl:PO X lo tl)(hu:PO X hi th):PE X (.Subscript e (.Slice lo hi none p2) pos) (tSl r te tl th):=by
  intro pins s σ H Q I h
  refine Subscript_ (thn (he pins s σ H _ I h) fun v s1 ⟨x,H1,I1,r1,q1⟩=>?_)
  refine wpAny_Slice (thn (hl pins s1 σ H1 _ I1 q1) fun vl s2 ⟨l,H2,I2,pl,q2⟩=>thn (hu pins s2 σ H2 _ I2 q2) fun vu s3 ⟨u,H3,I3,pu,q3⟩=>?_)
  rw [evalPart_none]
  refine wpAny_pure ?_
  have I4:Inv X pins σ H3 { s3 with heap:=s3.heap.push { cls:=.type "slice",data:=.fields #[vl,vu,.none] } }:=I3.kept (t':=s3.toks) fun b ob q=>Heap.get?_push_of_some _ q
  obtain ⟨T,id,hT,ht,hg⟩:=hr pins { s3 with heap:=s3.heap.push { cls:=.type "slice",data:=.fields #[vl,vu,.none] } } σ H3 x v vl vu l u s3.heap.objs.size Q I4 r1 (Heap.IsSliceOf.new ..) pl pu q3
  show wpAny (model X.prog X.w) X.A (subscriptTail e (.Slice lo hi none p2) v (.ref s3.heap.objs.size)) (EP X pins σ Q) X.xe { s3 with heap:=s3.heap.push { cls:=.type "slice",data:=.fields #[vl,vu,.none] } }
  exact tail_any (ops:=[.ref s3.heap.objs.size,v]) ht hT hg (by with_unfolding_all rfl)
def cutV (xs:List V)(lo hi:Option Int):List V:=(xs.drop (HT.sIx xs.length 0 lo)).take (HT.sIx xs.length xs.length hi - HT.sIx xs.length 0 lo)
theorem cutV_length (xs:List V)(lo hi:Option Int):(cutV xs lo hi).length≤xs.length:=by
  unfold cutV
  rw [List.length_take,List.length_drop]
  omega
end
end L2
namespace L2
open PySem PySem.Spec PyProof.Rows
def ixN (n:Nat)(i:Int):Option Nat:=if 0≤i then (if i < n then some i.toNat else none) else if -(n:Int)≤i then some (i+n).toNat else none
def atI {α:Type}(xs:List α)(i:Int):Option α:=(ixN xs.length i).bind fun j=>xs[j]?
theorem ixN_seq {n:Nat}{i:Int}{j:Nat}(h:ixN n i=some j):seqIndex? i n=some j∧j < n ∧ -(n:Int)≤i∧i < n:=by
  unfold ixN at h
  by_cases h0:0≤i
  · rw [if_pos h0] at h
    by_cases h1:i < n
    · rw [if_pos h1] at h
      have e:i.toNat=j:=Option.some.inj h
      exact ⟨by rw [seqIndex_of h0 h1,e],by omega,by omega,h1⟩
    · rw [if_neg h1] at h; cases h
  · rw [if_neg h0] at h
    by_cases h1:-(n:Int)≤i
    · rw [if_pos h1] at h
      have e:(i+n).toNat=j:=Option.some.inj h
      exact ⟨by rw [seqIndex_neg (by omega) h1,e],by omega,h1,by omega⟩
    · rw [if_neg h1] at h; cases h
theorem atI_get {α:Type}{xs:List α}{i:Int}{v:α}(h:atI xs i=some v):∃j,seqIndex? i xs.length=some j∧xs[j]? = some v∧j < xs.length ∧ -(xs.length:Int)≤i∧i < xs.length:=by
  unfold atI at h
  cases e:ixN xs.length i with
  | none=>rw [e] at h; cases h
  | some j =>
    rw [e] at h
    obtain ⟨h1,h2,h3,h4⟩:=ixN_seq e
    exact ⟨j,h1,h,h2,h3,h4⟩
theorem atI_nat {α:Type}{xs:List α}{j:Nat}{v:α}(h:xs[j]? = some v):atI xs (j:Int)=some v:=by
  have hj:j < xs.length:=(List.getElem?_eq_some_iff.mp h).1
  have e:ixN xs.length (j:Int)=some j:=by
    unfold ixN
    rw [if_pos (by omega),if_pos (by omega)]; simp
  unfold atI; rw [e]; exact h
def PlainIx (b:Expr):Prop:=∀o i,subscripted b false o i=operate [o,i] (getItem o i)
def IxR (X:Cx)(r:R2):Prop:=
  ∀ (value slice:Expr) (pins:List (Addr×Obj)) (s:Shared) (σ:St) (H:Hp) (x y:V) (v u:Value) (Q:VK),Inv X pins σ H s→RelV x v→RelV y u→r x y H Q →
    subscripted slice false v u=operate [v,u] (getItem v u)→wpAny (model X.prog X.w) X.A (subscriptTail value slice v u) (EP X pins σ Q) X.xe s
def MtR (X:Cx)(id:String)(r:V→List V→Hp→VK→Prop):Prop:=
  ∀ (pins:List (Addr×Obj)) (s:Shared) (σ:St) (H:Hp) (x:V) (xs:List V) (v:Value) (us:List Value) (Q:VK),Inv X pins σ H s→RelV x v→Vals xs us→r x xs H Q →
    wpAny (model X.prog X.w) X.A (call (.builtin id) (v::us)) (EP X pins σ Q) X.xe s
section
variable {X:Cx}{a b:Expr}{ta tb:TE}{pos:Pos}
theorem pe_ix {r:R2}(hr:IxR X r)(ha:PE X a ta)(hb:PE X b tb)(hs:PlainIx b):PE X (.Subscript a b pos) (tOp r ta tb):=by
  intro pins s σ H Q I h
  exact Subscript_ (binT ha hb I h fun v u s2 x y H2 I2 rx ry q=>hr a b pins s2 σ H2 x y v u Q I2 rx ry q (hs _ _))
def rIxL (K:PySem.W.Frag):R2:=fun x y H Q=>∃p xs i v,x = .ref p∧y = .int i∧SqL K H p xs∧atI xs i=some v∧Q v H
def rIxT (K:PySem.W.Frag):R2:=fun x y H Q=>∃p xs i v,x = .ref p∧y = .int i∧SqT K H p xs∧atI xs i=some v∧Q v H
theorem ix_list:IxR X (rIxL X.K):=by
  intro value slice pins s σ H x y v u Q I rx ry h hs
  obtain ⟨p,xs,i,z,rfl,rfl,hq,he,q⟩:=h
  cases rx
  obtain ⟨t,rfl⟩:=ry
  obtain ⟨its,r,pl,hz⟩:=I.list hq
  obtain ⟨j,h1,h2,h3,h4,h5⟩:=atI_get he
  obtain ⟨w,ew,rw'⟩:=r.get h2
  have hl:=r.length
  have hn:=line63
  have fin:EP X pins σ Q w s:=⟨z,H,I,rw',q⟩
  by_cases h0:0≤i
  · have hj:i.toNat=j:=by
      rw [seqIndex_of h0 h5] at h1
      exact Option.some.inj h1
    exact item_listR pl.isList h0 (by omega) (by rw [hj]; simpa using ew) fin hs
  · have hj:(i+(its.toArray.size:Int)).toNat=j:=by
      rw [seqIndex_neg (by omega) h4] at h1
      rw [List.size_toArray,← hl]
      exact Option.some.inj h1
    exact subscriptTail_builtinR (x:=w) pl.isList.typeIs slot_list_getitem.lookup
      (wpAny_getItem_list_neg (Q:=fun r s'=>r=w∧EP X pins σ Q r s') pl.isList (by omega) (by rw [List.size_toArray] <;> omega) (by omega) (by rw [hj]; simpa using ew) ⟨rfl,fin⟩) hs
theorem ix_tup:IxR X (rIxT X.K):=by
  intro value slice pins s σ H x y v u Q I rx ry h hs
  obtain ⟨p,xs,i,z,rfl,rfl,hq,he,q⟩:=h
  cases rx
  obtain ⟨t,rfl⟩:=ry
  obtain ⟨its,r,pl,hz⟩:=I.tuple hq
  obtain ⟨j,h1,h2,h3,h4,h5⟩:=atI_get he
  obtain ⟨w,ew,rw'⟩:=r.get h2
  have hl:=r.length
  have hn:=line63
  have fin:EP X pins σ Q w s:=⟨z,H,I,rw',q⟩
  exact subscriptTail_builtinR (x:=w) pl.typeIs slot_tuple_getitem.lookup
    (getItem_tuple (j:=j) (Q:=fun r s'=>r=w∧EP X pins σ Q r s') pl (by omega) (by omega) (by rw [List.size_toArray,← hl]; exact h1) (by simpa using ew) ⟨rfl,fin⟩) hs
theorem slice_bounds (lo hi:Option Int)(n:Nat):(sliceBounds lo hi none n).1=((HT.sIx n 0 lo:Nat):Int)∧(sliceBounds lo hi none n).2.1=((HT.sIx n n hi:Nat):Int)∧(sliceBounds lo hi none n).2.2=1:=by
  refine ⟨?_,?_,rfl⟩
  · cases lo with
    | none=>simp [sliceBounds,HT.sIx]
    | some i =>
      simp only [sliceBounds,HT.sIx,Option.getD_none,show (1:Int) > 0 by decide,if_true]
      by_cases h:i < 0
      · simp only [h,if_true] <;> omega
      · simp only [h,if_false] <;> omega
  · cases hi with
    | none=>simp [sliceBounds,HT.sIx]
    | some i =>
      simp only [sliceBounds,HT.sIx,Option.getD_none,show (1:Int) > 0 by decide,if_true]
      by_cases h:i < 0
      · simp only [h,if_true] <;> omega
      · simp only [h,if_false] <;> omega
theorem slicePick_cut (its:List Value)(lo hi:Option Int):slicePick its.toArray lo hi none=((its.drop (HT.sIx its.length 0 lo)).take (HT.sIx its.length its.length hi - HT.sIx its.length 0 lo)).toArray:=by
  obtain ⟨h1,h2,h3⟩:=slice_bounds lo hi its.toArray.size
  unfold slicePick
  rw [h1,h2,h3]
  simp only [sliceRange_one,pick_run,List.size_toArray] <;> rfl
def rSlL (K:PySem.W.Frag):V→Option Int→Option Int→Hp→VK→Prop:=fun x lo hi H Q=>∃a xs,x = .ref a∧SqL K H a xs ∧ ∀p,H p=none→Q (.ref p) (upd H p (.lst (cutV xs lo hi)))
theorem sl_list:SlR X (rSlL X.K):=by
  intro pins s σ H x v vl vu lo hi sl Q I rx hs pl pu h
  obtain ⟨a,xs,rfl,hx,q⟩:=h
  cases rx
  obtain ⟨its,r,ht,hz⟩:=I.list hx
  have hlen:=r.length
  refine ⟨"list",_,slot_list_getitem.lookup,ht.isList.typeIs,?_⟩
  refine wpAny_getItem_list_slice ht.isList hs pl pu .none (by simp) ?_ (by rw [List.size_toArray] <;> omega)
  rw [slicePick_cut,← hlen]
  refine ⟨.ref s.heap.objs.size,_,I.laid (t':=s.toks) (o:=.lst (cutV xs lo hi)) (fun b ob q=>Heap.get?_push_of_some _ q) (Nat.le_refl _) ?_,rfl,q _ (I.hok.fresh (Nat.le_refl _))⟩
  exact ⟨Nat.le_trans (cutV_length xs lo hi) hz,_,0,(r.drop (HT.sIx xs.length 0 lo)).take (HT.sIx xs.length xs.length hi - HT.sIx xs.length 0 lo),Heap.get?_push_size _ rfl⟩
def flatV:V→Bool
  | .non=>true
  | .bl _=>true
  | .int _=>true
  | .str _=>true
  | _=>false
def eqV:V→V→Bool
  | .non,.non=>true
  | .bl a,.bl b=>a == b
  | .bl a,.int b=>(if a then 1 else 0) == b
  | .int a,.bl b=>a == (if b then 1 else 0)
  | .int a,.int b=>a == b
  | .str a,.str b=>a == b
  | _,_=>false
theorem eqAt_V {A:Around}{s:Shared}{y x:V}{u v:Value}(ry:RelV y u)(rx:RelV x v)(fy:flatV y=true)(fx:flatV x=true):SeqAt.EqAt A s u v (eqV y x):=by
  cases y with
  | non =>
    cases ry
    cases x with
    | non=>cases rx; exact SeqAt.EqAt.same _
    | bl b=>cases rx; exact SeqAt.EqAt.none_bool b
    | int b=>obtain ⟨t,rfl⟩:=rx; exact SeqAt.EqAt.none_int b t
    | str b=>obtain ⟨t,rfl⟩:=rx; exact SeqAt.EqAt.none_str b t
    | _=>exact absurd (show false=true from fx) Bool.false_ne_true
  | bl a =>
    cases ry
    cases x with
    | non=>cases rx; exact SeqAt.EqAt.bool_none a
    | bl b=>cases rx; exact SeqAt.EqAt.bool_bool a b
    | int b=>obtain ⟨t,rfl⟩:=rx; exact SeqAt.EqAt.bool_int a b t
    | str b=>obtain ⟨t,rfl⟩:=rx; exact SeqAt.EqAt.bool_str a b t
    | _=>exact absurd (show false=true from fx) Bool.false_ne_true
  | int a =>
    obtain ⟨t',rfl⟩:=ry
    cases x with
    | non=>cases rx; exact SeqAt.EqAt.int_none a t'
    | bl b=>cases rx; exact SeqAt.EqAt.int_bool a t' b
    | int b=>obtain ⟨t,rfl⟩:=rx; exact SeqAt.EqAt.int_int a t' b t
    | str b=>obtain ⟨t,rfl⟩:=rx; exact SeqAt.EqAt.int_str a t' b t
    | _=>exact absurd (show false=true from fx) Bool.false_ne_true
  | str a =>
    obtain ⟨t',rfl⟩:=ry
    cases x with
    | non=>cases rx; exact SeqAt.EqAt.str_none a t'
    | bl b=>cases rx; exact SeqAt.EqAt.str_bool a t' b
    | int b=>obtain ⟨t,rfl⟩:=rx; exact SeqAt.EqAt.str_int a t' b t
    | str b=>obtain ⟨t,rfl⟩:=rx; exact SeqAt.EqAt.str_str a t' b t
    | _=>exact absurd (show false=true from fx) Bool.false_ne_true
  | _=>exact absurd (show false=true from fy) Bool.false_ne_true
def eqU (x:V)(u:Value):Bool:=match u with
  | .none=>eqV .non x
  | .bool b=>eqV (.bl b) x
  | .int i _=>eqV (.int i) x
  | .str z _=>eqV (.str z) x
  | _=>false
theorem eqU_of {x y:V}{u:Value}(r:RelV y u)(f:flatV y=true):eqU x u=eqV y x:=by
  cases y with
  | non=>cases r; rfl
  | bl b=>cases r; rfl
  | int i=>obtain ⟨t,rfl⟩:=r; rfl
  | str z=>obtain ⟨t,rfl⟩:=r; rfl
  | _=>exact absurd (show false=true from f) Bool.false_ne_true
theorem any_eqU {x:V}:∀ {xs:List V}{us:List Value},Vals xs us→xs.all flatV=true→us.any (eqU x)=xs.any fun y=>eqV y x
  | _,_,.nil,_=>rfl
  | y::xs,u::us,.cons r t,f=>by
    rw [List.all_cons,Bool.and_eq_true] at f
    rw [List.any_cons,List.any_cons,eqU_of r f.1,any_eqU t f.2]
theorem mem_eqAt {A:Around}{s:Shared}{x:V}{v:Value}(rx:RelV x v)(fx:flatV x=true):∀ {xs:List V}{us:List Value},Vals xs us→xs.all flatV=true→∀u∈us,SeqAt.EqAt A s u v (eqU x u)
  | _,_,.nil,_=>fun u hu=>by cases hu
  | y::xs,u::us,.cons r t,f=>fun u' hu=>by
    rw [List.all_cons,Bool.and_eq_true] at f
    rcases List.mem_cons.mp hu with rfl | hu
    · rw [eqU_of r f.1]; exact eqAt_V r rx f.1 fx
    · exact mem_eqAt rx fx t f.2 u' hu
def inV (x:V)(xs:List V):Bool:=xs.any fun y=>eqV y x
def rIn (K:PySem.W.Frag)(neg:Bool):R2:=fun x y H Q=>∃p xs,y = .ref p∧(SqL K H p xs∨SqT K H p xs)∧flatV x=true∧xs.all flatV=true∧Q (.bl (if neg then !inV x xs else inV x xs)) H
theorem op_in_seq:OpR X (compareOp .In) (rIn X.K false):=by
  intro pins s σ H x y v u Q I rx ry h
  obtain ⟨p,xs,rfl,hq,fx,fs,q⟩:=h
  cases ry
  rcases hq with hq | hq
  · obtain ⟨its,r,pl,hz⟩:=I.list hq
    refine SeqAt.in_listAt (eqU x) pl.isList (fun w hw=>mem_eqAt rx fx r fs w (by simpa using hw)) ⟨.bl _,H,I,rfl,?_⟩
    rw [show its.toArray.any (eqU x)=its.any (eqU x) by simp,any_eqU r fs]
    exact q
  · obtain ⟨its,r,pl,hz⟩:=I.tuple hq
    refine SeqAt.in_tupleAt (eqU x) pl (fun w hw=>mem_eqAt rx fx r fs w (by simpa using hw)) ⟨.bl _,H,I,rfl,?_⟩
    rw [show its.toArray.any (eqU x)=its.any (eqU x) by simp,any_eqU r fs]
    exact q
theorem op_notIn_seq:OpR X (compareOp .NotIn) (rIn X.K true):=by
  intro pins s σ H x y v u Q I rx ry h
  obtain ⟨p,xs,rfl,hq,fx,fs,q⟩:=h
  cases ry
  rcases hq with hq | hq
  · obtain ⟨its,r,pl,hz⟩:=I.list hq
    refine SeqAt.notIn_listAt (eqU x) pl.isList (fun w hw=>mem_eqAt rx fx r fs w (by simpa using hw)) ⟨.bl _,H,I,rfl,?_⟩
    rw [show its.toArray.any (eqU x)=its.any (eqU x) by simp,any_eqU r fs]
    exact q
  · obtain ⟨its,r,pl,hz⟩:=I.tuple hq
    refine SeqAt.notIn_tupleAt (eqU x) pl (fun w hw=>mem_eqAt rx fx r fs w (by simpa using hw)) ⟨.bl _,H,I,rfl,?_⟩
    rw [show its.toArray.any (eqU x)=its.any (eqU x) by simp,any_eqU r fs]
    exact q
theorem op_notIn_str:OpR X (compareOp .NotIn) (fun x y H Q=>∃i j,x = .str i∧y = .str j∧Q (.bl (!(!(Builtin.Str.occurrences j i 0 j.length 1).isEmpty))) H):=by
  intro pins s σ H x y v u Q I rx ry h
  obtain ⟨i,j,rfl,rfl,q⟩:=h
  obtain ⟨t,rfl⟩:=rx
  obtain ⟨t',rfl⟩:=ry
  exact notIn_str ⟨.bl _,H,I,rfl,q⟩
theorem call_len_seq:CallR X (.builtin "len") (fun xs H Q=>∃p ys,xs = [.ref p]∧(SqL X.K H p ys∨SqT X.K H p ys)∧Q (.int ys.length) H):=by
  intro pins s σ H xs us Q I r h
  obtain ⟨p,ys,rfl,hq,q⟩:=h
  obtain ⟨u,rfl,rx⟩:=vals1 r
  cases rx
  have hn:=line63
  rcases hq with hq | hq
  · obtain ⟨its,r',pl,hz⟩:=I.list hq
    have hlen:=r'.length
    exact Calls.call_len_list pl.isList (by simp only [List.size_toArray] <;> omega) ⟨.int ys.length,H,I.tok _,⟨s.toks+1,by rw [List.size_toArray,hlen]⟩,q⟩
  · obtain ⟨its,r',pl,hz⟩:=I.tuple hq
    have hlen:=r'.length
    exact len_tuple pl (by simp only [List.size_toArray] <;> omega) ⟨.int ys.length,H,I.tok _,⟨s.toks+1,by rw [List.size_toArray,hlen]⟩,q⟩
theorem call_len_str:CallR X (.builtin "len") (fun xs H Q=>∃z,xs = [.str z]∧z.length≤sizeLine∧Q (.int z.length) H):=by
  intro pins s σ H xs us Q I r h
  obtain ⟨z,rfl,hz,q⟩:=h
  obtain ⟨u,rfl,t,rfl⟩:=vals1 r
  have hn:=line63
  exact len_str (by omega) ⟨.int z.length,H,I.tok _,⟨_,rfl⟩,q⟩
theorem call_list_of:CallR X (.type "list") (fun xs H Q=>∃p ys,xs = [.ref p]∧(SqL X.K H p ys∨SqT X.K H p ys) ∧ ∀l,H l=none→Q (.ref l) (upd H l (.lst ys))):=by
  intro pins s σ H xs us Q I r h
  obtain ⟨p,ys,rfl,hq,q⟩:=h
  obtain ⟨u,rfl,rx⟩:=vals1 r
  cases rx
  have fin:∀ (its:List Value),Vals ys its→ys.length≤sizeLine→∀ (h':Heap) (c':Nat),(∀b o',s.heap.get? b=some o'→h'.get? b=some o') →
      h'.get? s.heap.objs.size=some { cls:=.type "list",dict:=none,data:=.seq its.toArray c',slots:=#[] }→EP X pins σ Q (.ref s.heap.objs.size) { s with heap:=h' }:=fun its r' hz h' c' kp e =>
    ⟨.ref s.heap.objs.size,_,I.laid (t':=s.toks) kp (Nat.le_refl _) (show ObjOk X.prog X.w _ h' _ (.lst ys) from ⟨hz,its,c',r',e⟩),rfl,q _ (I.hok.fresh (Nat.le_refl _))⟩
  rcases hq with hq | hq
  · obtain ⟨its,r',pl,hz⟩:=I.list hq
    have hlen:=r'.length
    obtain ⟨o,ho,hc,n,hd⟩:=pl.isList
    exact call_list_seq p (.inl rfl) ho hc hd (fun h' c' kp e=>fin its r' hz h' c' kp e) (by simp only [List.size_toArray] <;> omega)
  · obtain ⟨its,r',pl,hz⟩:=I.tuple hq
    have hlen:=r'.length
    obtain ⟨o,ho,hc,n,hd⟩:=pl
    exact call_list_seq p (.inr rfl) ho hc hd (fun h' c' kp e=>fin its r' hz h' c' kp e) (by simp only [List.size_toArray] <;> omega)
theorem call_tuple_of:CallR X (.type "tuple") (fun xs H Q=>∃p ys,xs = [.ref p]∧((SqL X.K H p ys ∧ ∀l,H l=none→Q (.ref l) (upd H l (.tup ys)))∨(SqT X.K H p ys∧Q (.ref p) H))):=by
  intro pins s σ H xs us Q I r h
  obtain ⟨p,ys,rfl,h⟩:=h
  obtain ⟨u,rfl,rx⟩:=vals1 r
  cases rx
  rcases h with ⟨hq,q⟩ | ⟨hq,q⟩
  · obtain ⟨its,r',pl,hz⟩:=I.list hq
    have hlen:=r'.length
    refine call_tuple_list pl.isList (fun h' kp=>?_) (by simp only [List.size_toArray] <;> omega)
    have I1:Inv X pins σ H { s with heap:=h' }:=I.kept (t':=s.toks) kp
    have I2:Inv X pins σ (upd H h'.objs.size (.tup ys)) { s with heap:=h'.push { cls:=.type "tuple",data:=.seq its.toArray } }:=
      I1.laid (t':=s.toks) (fun b o e=>Heap.get?_push_of_some _ e) (Nat.le_refl _) (show ObjOk X.prog X.w _ _ _ (.tup ys) from ⟨hz,its,r',IsTup.new _ _⟩)
    exact ⟨.ref h'.objs.size,_,I2,rfl,q _ (I1.hok.fresh (Nat.le_refl _))⟩
  · obtain ⟨its,r',pl,hz⟩:=I.tuple hq
    exact call_tuple_same pl ⟨.ref p,H,I,rfl,q⟩
def tyV (K:PySem.W.Frag)(T:String)(x:V)(H:Hp):Prop:=match x with
  | .str _=>T = "str"
  | .int _=>T = "int"
  | .ref p=>(T = "list" ∧ ∃xs,SqL K H p xs)∨(T = "tuple" ∧ ∃o,K.lookup p=some o∧o.cls = .type "tuple" ∧ o.dict=none) ∨
      (T = "dict" ∧ ((∃kvs,H p=some (.dK kvs)) ∨ ∃kvs,H p=some (.dT kvs)))∨(T = "set" ∧ ∃S n,H p=some (.set S n))
  | _=>False
theorem tyV_is {pins:List (Addr×Obj)}{σ:St}{H:Hp}{s:Shared}{T:String}{x:V}{v:Value}(I:Inv X pins σ H s)(r:RelV x v)(ty:tyV X.K T x H) :
    s.TypeIs v T ∧ ∀a,v = .ref a→∃ob,s.heap.get? a=some ob∧ob.dict=none:=by
  cases x with
  | str z =>
    obtain ⟨t,rfl⟩:=r
    cases (show T = "str" from ty)
    exact ⟨typeIs_str s z t,fun _ e=>nomatch e⟩
  | int i =>
    obtain ⟨t,rfl⟩:=r
    cases (show T = "int" from ty)
    exact ⟨typeIs_int s i t,fun _ e=>nomatch e⟩
  | ref p =>
    cases r
    rcases ty with ⟨rfl,xs,hq⟩ | ⟨rfl,o,hk,hc,hd⟩ | ⟨rfl,hk⟩ | ⟨rfl,S,n,hk⟩
    · obtain ⟨its,_,pl,_⟩:=I.list hq
      refine ⟨pl.isList.typeIs,fun a e=>?_⟩
      cases e
      obtain ⟨o,n,e,c,hd,_⟩:=pl
      exact ⟨o,e,hd⟩
    · refine ⟨⟨o,I.kIn p o hk,hc⟩,fun a e=>?_⟩
      cases e
      exact ⟨o,I.kIn _ o hk,hd⟩
    · have z:∃o,s.heap.get? p=some o∧o.ExactDict:=by
        rcases hk with ⟨kvs,hk⟩ | ⟨kvs,hk⟩
        · obtain ⟨_,_,_,_,o,_,_,e,ex,_⟩:=I.hok p _ hk
          exact ⟨o,e,ex⟩
        · obtain ⟨_,_,_,_,o,_,_,e,ex,_⟩:=I.hok p _ hk
          exact ⟨o,e,ex⟩
      obtain ⟨o,e,ex⟩:=z
      refine ⟨⟨o,e,ex.1⟩,fun a e2=>?_⟩
      cases e2
      exact ⟨o,e,ex.2.1⟩
    · obtain ⟨o,_,_,_,e,ex,_⟩:=I.hok p _ hk
      refine ⟨⟨o,e,ex.1⟩,fun a e2=>?_⟩
      cases e2
      exact ⟨o,e,ex.2.1⟩
  | _=>exact False.elim ty
def tBM (K:PySem.W.Frag)(T:String)(r:V→List V→Hp→VK→Prop)(to:TE)(t:TA):TE:=fun σ H Q=>to σ H fun x H1=>tyV K T x H1∧t σ H1 fun xs H2=>r x xs H2 Q
variable {o e:Expr}{es:List Expr}{to:TE}{t:TA}{name:Str}{apos cpos:Pos}{T id:String}{r:V→List V→Hp→VK→Prop}
theorem pe_bm (pa:PlainAttrs T)(slot:Slot T name id)(hty:typeOf (.builtin id)=pure (.type "method_descriptor"))(hm:MtR X id r)(ho:PE X o to)(ha:PA X (e::es) t)(hbase:attributeBase o name X.env (eval o X.env)=eval o X.env:=by rfl)(hfew:((backTo cpos (starEach (e::es) X.env)).all (fun x=>!x.1) && (backToKw cpos (keywordEach [] X.env)).all (fun x=>x.1.isSome)
      && decide ((e::es).length+([]:List Keyword).length+(if ([]:List Keyword).isEmpty then 0 else 1) < 30))=true:=by rfl)(hline:(apos.endLine == cpos.line)=true:=by rfl)(hs:starEach (e::es) X.env=(false,eval e X.env)::starEach es X.env:=by rfl)(hplain:(backTo cpos (starEach es X.env)).any (·.1)=false:=by rfl) :
    PE X (.Call (.Attribute o name apos) (e::es) [] cpos) (tBM X.K T r to t):=by
  intro pins s σ H Q I h
  refine wpAny_Call_method_late hbase hfew hline rfl (thn (ho pins s σ H _ I h) fun v s1 ⟨x,H1,I1,r1,ty,q1⟩=>?_)
  obtain ⟨h1,h2⟩:=tyV_is I1 r1 ty
  refine ⟨T,id,pa,slot,hty,h1,h2,?_⟩
  have hA:=ha cpos pins s1 σ H1 _ I1 q1
  rw [hs] at hA ⊢
  refine Calls.callWith_builtin (by show (false || (backTo cpos (starEach es X.env)).any (·.1))=false; rw [hplain] <;> rfl) (Calls.evalArgs_plain ?_)
  exact thn hA fun us s2 ⟨vs,H2,I2,r2,q2⟩=>hm pins s2 σ H2 x vs v us Q I2 r1 r2 q2
end
end L2
namespace L2
open PySem PySem.Spec PyProof.Rows
def MtM (X:Cx)(id:String)(r:V→List V→Hp→VK→Prop):Prop:=
  ∀ (pins:List (Addr×Obj)) (s:Shared) (σ:St) (H:Hp) (x:V) (xs:List V) (v:Value) (us:List Value) (Q:VK),Inv X pins σ H s→RelV x v→Vals xs us→r x xs H Q →
    wpAny (model X.prog X.w) X.A (call (.builtin id) (v::us)) (EP X pins σ Q) X.xe s
theorem Vals.one:∀ {x:V}{us:List Value},Vals [x] us→∃u,us = [u]∧RelV x u
  | _,_,.cons r .nil=>⟨_,rfl,r⟩
section
variable {X:Cx}{pins:List (Addr×Obj)}{σ:St}{H:Hp}{s:Shared}{l b:Addr}{xs ys zs:List V}
theorem Inv.lset {its its':List Value}{n:Nat}{f:Array Value→Array Value}{t':Nat}(I:Inv X pins σ H s)(hH:H l=some (.lst xs))(e:s.heap.get? l=some { cls:=.type "list",data:=.seq its.toArray n })(hf:f its.toArray=its'.toArray)(hv:Vals ys its')(hz:ys.length≤sizeLine) :
    Inv X pins σ (upd H l (.lst ys)) { s with heap:=s.heap.update l (Obj.mapSeq f),toks:=t' }:=by
  have q:=PySem.IsL.update e f
  rw [hf] at q
  refine I.write (x:=l) (e:=l) (by rw [hH]; exact trivial) (.inl rfl) (fun b' u hb hu=>(Heap.get?_update_other s.heap (Obj.mapSeq f) (Ne.symm hb)).trans hu) ⟨_,q⟩ ?_
  exact ⟨hz,its',_,hv,q⟩
theorem Inv.lnew {its:List Value}{t':Nat}(I:Inv X pins σ H s)(hv:Vals ys its)(hz:ys.length≤sizeLine) :
    Inv X pins σ (upd H s.heap.objs.size (.lst ys)) { s with heap:=s.heap.push { cls:=.type "list",data:=.seq its.toArray },toks:=t' }:=
  I.laid (fun _ _ q=>Heap.get?_push_of_some _ q) (Nat.le_refl _) ⟨hz,its,0,hv,Heap.get?_push_size _ rfl⟩
theorem Inv.fresh (I:Inv X pins σ H s):H s.heap.objs.size=none:=I.hok.fresh (Nat.le_refl _)
theorem Inv.lstM (I:Inv X pins σ H s)(hH:H l=some (.lst xs)):xs.length≤sizeLine ∧ ∃ (its:List Value) (n:Nat),Vals xs its∧xs.length=its.length∧s.heap.get? l=some { cls:=.type "list",data:=.seq its.toArray n }:=by
  obtain ⟨z,its,n,r,e⟩:=I.hok l _ hH
  exact ⟨z,its,n,r,r.length,e⟩
end
section
variable {X:Cx}
def rAppend:V→List V→Hp→VK→Prop:=fun x vs H Q=>∃l xs y,x = .ref l∧vs = [y]∧H l=some (.lst xs)∧xs.length < sizeLine∧Q .non (upd H l (.lst (xs ++ [y])))
theorem mt_append:MtM X "list.append" rAppend:=by
  intro pins s σ H x vs v us Q I rx rv h
  obtain ⟨l,xs,y,rfl,rfl,hH,hz,q⟩:=h
  cases rx
  obtain ⟨u,rfl,ru⟩:=rv.one
  obtain ⟨z,its,n,r,hl,e⟩:=I.lstM hH
  refine call_meets F.slot_list_append ⟨_,e,rfl⟩ F.entry_list_append (F.args_list_append_2 _ _) (PySem.list_append l its.toArray n u (by rw [List.size_toArray]; omega)) ⟨e,?_⟩
  refine ⟨.non,_,I.lset (its':=its ++ [u]) hH e (by simp) (r.append (.cons ru .nil)) ?_,rfl,q⟩
  rw [List.length_append,List.length_singleton]
  omega
end
end L2
namespace Att
open PySem PySem.W PySem.Calls PyProof.Rows
theorem ints_of_wellAll {P:Params}{h:Heap}:∀ (ns:List Int) (vs:List Value),WellAll P h vs (ns.map WData.int)→IntsAre vs ns:=by
  intro ns
  induction ns with
  | nil =>
    intro vs w
    rw [List.map_nil] at w
    cases w
    exact .nil
  | cons n ns ih =>
    intro vs w
    rw [List.map_cons] at w
    cases w with
    | cons a b =>
      cases a
      exact .cons _ _ (ih _ b)
theorem script_of {l:OpenLaw}{n:Nat}(hn:l.most=some n){P:Params}{h:Heap}{args:List WData}{vals:List Value}(hpre:l.row.toRowW.claim.pre args=true)(hwl:WellAll P h vals args) :
    ∃a vs ns,vals = [Value.ref a]∧args = [WData.list (ns.map WData.int)]∧h.get? a=some { cls:=.type "list",data:=.seq vs.toArray }∧IntsAre vs ns∧ns.length≤n:=by
  have hsh:WShape.hasAll [] args [.list .int]=true:=(pre_splitW hpre).1
  have hc:l.pre.holds [] { args:=args }=true:=(pre_splitW hpre).2
  obtain ⟨d,r,rfl,h1,h2⟩:=hasAllW_cons hsh
  obtain rfl:=hasAllW_nil h2
  obtain ⟨xs,rfl,h3⟩:=hasW_list h1
  obtain ⟨ns,rfl⟩:=items_int h3
  have hlen:ns.length≤n:=by
    unfold OpenLaw.pre at hc
    have h4:(WTm.not (.lt (.lit (.int (n:Int))) (.len (.arg 0)))).holds [] { args:=[.list (ns.map .int)] }=true:=by
      have h4:=(holds_andW hc).1
      rw [hn] at h4
      exact h4
    have h5:=condW_of h4 (w_not (w_lt w_lit (w_len_list (w_arg rfl))))
    rw [List.length_map] at h5
    refine Nat.le_of_not_lt fun q=>?_
    have q':(n:Int) < ((ns.length:Nat):Int):=by omega
    first
      | (rw [decide_eq_true q'] at h5; exact absurd h5 (by decide))
      | (simp at h5; omega)
  cases hwl with
  | cons w1 w2 =>
    cases w2
    cases w1 with
    | list ho hall=>exact ⟨_,_,ns,rfl,rfl,ho,ints_of_wellAll ns _ hall,hlen⟩
theorem post_true (l:OpenLaw)(args:List WData):l.row.toRowW.claim.post args (.bool true) args=true:=
  postW_of (r:=l.row.toRowW) (X:=(true == true))
    (show WShape.has [] (.bool true) .bool=true by first | rfl | decide | simp [WShape.has,WShape.arms,WShape.armsAll])
    (show (WTm.eq .res (.lit (.bool true))).value [] { args:=args,res:=some (.bool true),after:=args }=some (.bool (true == true)) from w_eq_bool (w_res rfl) w_lit) rfl
theorem attach_call {l:OpenLaw}{n:Nat}{q:Program}{loose:List Str}{XP:(Str→Option Value)→Heap→Prop}{YP:World→Heap→Prop}{d:DefRec}(hn:l.most=some n)(hdf:d.params.defaults = [])(call:∀ (w:World) (s₀ s₁:Shared) (mg mb:Str→Option Value) (fa:Addr) (o:Obj) (pm cd doc:Value) (a:Addr) (vs:List Value) (ns:List Int),
      Ground q loose [] XP w s₀ mg mb s₁.heap→YP w s₁.heap →
      s₁.heap.get? fa=some o→o.data = .func (docDef d.name d.params d.body d.scope pm cd doc)→s₁.heap.CodeRec cd d.name→mg d.name=some (.ref fa) →
      s₁.heap.get? a=some { cls:=.type "list",data:=.seq vs.toArray }→IntsAre vs ns→ns.length≤n→s₁.gens = #[] →
      codeAny (model l.prog w) callerA (.call (.ref fa) ⟨[.ref a],[]⟩) (fun r s'=>r = .ok (.ret (.bool true))∧OldK s₁.heap s'.heap∧s'.os=s₁.os∧AllBare s'.gens) s₁) :
    WalkO q loose XP YP l.row.toRowW d [] (fun f vs=>PySem.call f vs):=by
  intro w s₀ s₁ mg mb G Y fa o pm cd doc dV kV ho hd hcd hD hmg hg args vals as hpre hlay hrd hwl hlo
  obtain rfl:dV = .none:=Dflts.none hD hdf
  obtain rfl:kV = .none:=Dflts.noKw hD
  obtain ⟨a,vs,ns,rfl,rfl,hobj,hints,hlen⟩:=script_of hn hpre hwl
  refine enter_call (codeAny_mono (call w s₀ s₁ mg mb fa o pm cd doc a vs ns G Y ho (fd_plain hd) hcd hmg hobj hints hlen hg) fun r s' hq=>?_)
  obtain ⟨rfl,h2,h3,h4⟩:=hq
  exact ⟨.inl ⟨.bool true,.bool true,[],rfl,fun _=>rfl,.bool true,post_true l _,fun _=>⟨List.Pairwise.nil,fun _ hm=>(nomatch hm)⟩⟩,h2,h3,h4⟩
end Att
namespace L2
open PySem PySem.Spec PyProof.Rows
theorem vals_ints:∀ {vs:List Value}{ns:List Int},IntsAre vs ns→Vals (ns.map V.int) vs
  | _,_,.nil=>.nil
  | _,_,.cons n t h=>.cons ⟨t,rfl⟩ (vals_ints h)
def Only (H:Hp):Prop:=∀b,H b=none ∨ ∃o xs,H b=some (.frz o (.lst xs))
theorem law_call {P:Program}{w:World}{K:PySem.W.Frag}{mg mb:Str→Option Value}{CX:CXT}{k:Nat}{fa a:Addr}{fd:FuncData}{x:Str}{sp:Sp}{s₁:Shared}{vs:List Value}{ns:List Int}(KX:K.In s₁.heap)(hns:s₁.heap.Ns mainGlobals mg)(hb:s₁.heap.Ns builtinsNs mb)(hbb:∀x:Str,x ≠ "__name__" → mb x=bootBuiltins x)(hlim:s₁.heap.NoLimit)(hg:s₁.gens = #[])(ha:s₁.heap.get? a=some { cls:=.type "list",data:=.seq vs.toArray })(hi:IntsAre vs ns)(hl:ns.length≤sizeLine)(hr:Room k callerA)(F:∀base:Heap,K.In base→base.Ns mainGlobals mg→FnOk P w K mg base CX k fa fd [x] sp)(hbind:∀ (s:Shared) (u:Value),BindsTo s fd ⟨[u],[]⟩ [(x,u)])(hsp:∀H:Hp,Only H→SqL K H a (ns.map V.int)→sp [.ref a] H (fun v _=>v = .bl true) fun _ _ _=>False)(hCX:∀H e s',CX [] H s₁ (fun _ _ _=>False) e s'→False) :
    codeAny (model P w) callerA (.call (.ref fa) ⟨[.ref a],[]⟩) (fun r s'=>r = .ok (.ret (.bool true))∧OldK s₁.heap s'.heap∧s'.os=s₁.os∧AllBare s'.gens) s₁:=by
  have rv:=vals_ints hi
  have lenV:=hi.length
  have core:∀H:Hp,Only H→SqL K H a (ns.map V.int)→HOk P w H s₁.heap→(∀b,H b ≠ none→b=a)→(H a ≠ none→K.lookup a=none) →
      codeAny (model P w) callerA (.call (.ref fa) ⟨[.ref a],[]⟩) (fun r s'=>r = .ok (.ret (.bool true))∧OldK s₁.heap s'.heap∧s'.os=s₁.os∧AllBare s'.gens) s₁:=by
    intro H hO hS hok hA hK
    have base_of:∀ {b:Addr}{o:Obj},s₁.heap.get? b=some o→H b=none→(hidT s₁.heap H).get? b=some o:=fun e n=>hidT_get e n
    have noA:∀ {b:Addr}{o:Obj}{es:Array DictEntry}{ep:Nat},s₁.heap.get? b=some o→o.data = .dict es ep→H b=none:=fun {b o es ep} e d=>by
      cases q:H b with
      | none=>rfl
      | some u =>
        have e':b=a:=hA b (by rw [q]; simp)
        subst e'
        rw [ha] at e; cases e
        have d':Data.seq vs.toArray _=Data.dict es ep:=d
        cases d'
    have nsK:∀ {b:Addr}{m:Str→Option Value},s₁.heap.Ns b m→(hidT s₁.heap H).Ns b m:=fun {b m} ⟨o,es,ep,e,d,r⟩=>⟨o,es,ep,base_of e (noA e d),d,r⟩
    have hKb:K.In (hidT s₁.heap H):=fun b o e=>base_of (KX b o e) (by
      cases q:H b with
      | none=>rfl
      | some u =>
        have e':b=a:=hA b (by rw [q]; simp)
        subst e'
        rw [hK (by rw [q]; simp)] at e; cases e)
    have hM:Mod K mg (hidT s₁.heap H):=⟨hKb,nsK hns,⟨mb,nsK hb,hbb⟩,let ⟨mc,h1,h2⟩:=hlim; ⟨mc,nsK h1,h2⟩⟩
    have e0:Env0 P w K mg (hidT s₁.heap H) callerA [] s₁ H:=⟨rfl,hM,fun b o e=>of_hidT e,Nat.le_of_eq (hidT_size _ _),trivial,fun b hb=>absurd (show b∈([]:List Addr) from hb) (by simp),hok,.of_eq hg⟩
    refine codeAny_mono ((F _ hKb (nsK hns)).run callerA [] s₁ H ⟨[.ref a],[]⟩ [.ref a] [.ref a] _ _ hr e0 (hbind s₁ (.ref a)) (.cons rfl .nil) (hsp H hO hS)) fun r s' h=>?_
    cases r with
    | error e=>exact (hCX H e s' h).elim
    | ok fl =>
      cases fl with
      | next=>exact False.elim h
      | brk=>exact False.elim h
      | cont=>exact False.elim h
      | ret u =>
        obtain ⟨v,H',os,bare,un,hok',r',q⟩:=h
        have q':v = .bl true:=q
        subst q'
        obtain rfl:u=Value.bool true:=r'
        refine ⟨rfl,OldK.of_keep fun b o e=>?_,os,bare⟩
        cases q:H b with
        | none=>exact un.keep b o e q (by intro z; exact absurd (show b∈([]:List Addr) from z) (by simp)) (by simp)
        | some u =>
          rcases hO b with z | ⟨ob,xs,z⟩
          · rw [q] at z; cases z
          · have z2:=un.frzs b ob _ z
            obtain ⟨e1,_⟩:=hok b _ z
            obtain ⟨e2,_⟩:=hok' b _ z2
            rw [e] at e1; cases e1
            exact e2
  cases hk:K.lookup a with
  | some o =>
    have e:=KX a o hk
    rw [ha] at e
    cases e
    refine core (fun _=>none) (fun _=>.inl rfl) (.inr ⟨_,vs.toArray,_,hk,rfl,rfl,rfl,by rw [List.size_toArray,lenV]; exact hl,by simpa using rv⟩) (fun b u z=>by have z':(none:Option HO)=some u:=z; cases z') (fun b z=>absurd rfl z) fun z=>absurd rfl z
  | none =>
    refine core (fun b=>if b=a then some (.frz { cls:=.type "list",data:=.seq vs.toArray } (.lst (ns.map V.int))) else none) (fun b=>?_) (.inl (.inr ⟨{ cls:=.type "list",data:=.seq vs.toArray },if_pos rfl⟩)) (fun b u z=>?_) (fun b z=>?_) fun _=>hk
    · by_cases hb:b=a
      · exact .inr ⟨_,_,if_pos hb⟩
      · exact .inl (if_neg hb)
    · by_cases hb:b=a
      · have z':=(if_pos hb).symm.trans z
        cases z'
        subst hb
        exact ⟨ha,by rw [List.length_map]; exact hl,vs,_,rv,ha⟩
      · have z':=(if_neg hb).symm.trans z
        cases z'
    · by_cases hb:b=a
      · exact hb
      · exact absurd (if_neg hb) z
end L2
namespace L2
open PySem PySem.Spec PyProof.Rows
theorem walk_of {l:PySem.W.OpenLaw}{n k:Nat}{q:Program}{loose:List Str}{XP:(Str→Option Value)→Heap→Prop}{YP:World→Heap→Prop}{d:DefRec}{K:Params→PySem.W.Frag}{CX:World→CXT}{sp:World→Sp}{x:Str}(hn:l.most=some n)(hn2:n≤sizeLine)(hdf:d.params.defaults = [])(hr:Room k callerA)(hY:∀ (w:World) (h:Heap),YP w h→(K w.params).In h)(F:∀ (w:World) (mg:Str→Option Value) (fa:Addr) (h:Heap),(K w.params).In h→h.Ns mainGlobals mg→mg d.name=some (.ref fa) →
      ∃fd:FuncData,(∀ (s:Shared) (u:Value),BindsTo s fd ⟨[u],[]⟩ [(x,u)]) ∧
        ∀base:Heap,(K w.params).In base→base.Ns mainGlobals mg→FnOk l.prog w (K w.params) mg base (CX w) k fa fd [x] (sp w))(hsp:∀ (w:World) (H:Hp) (a:Addr) (ns:List Int),ns.length≤n→Only H→SqL (K w.params) H a (ns.map V.int)→sp w [.ref a] H (fun v _=>v = .bl true) fun _ _ _=>False)(hCX:∀ (w:World) (H:Hp) (s:Shared) (e:Value) (s':Shared),CX w [] H s (fun _ _ _=>False) e s'→False) :
    PySem.W.WalkO q loose XP YP l.row.toRowW d [] (fun f vs=>PySem.call f vs):=by
  refine Att.attach_call hn hdf fun w s₀ s₁ mg mb fa o pm cd doc a vs ns G Y ho hd hcd hmg hobj hints hlen hg=>?_
  have KX:=hY w _ Y
  obtain ⟨fd,hb,hF⟩:=F w mg fa _ KX G.T.g hmg
  exact law_call KX G.T.g G.T.b G.T.builtins G.T.nolimit hg hobj hints (Nat.le_trans hlen hn2) hr hF hb (fun H hO hS=>hsp w H a ns hlen hO hS) fun H e s'=>hCX w H s₁ e s'
end L2
namespace L2
open PySem PySem.Spec PyProof.Rows
def inClass (s:Stmt)(j:Nat):Stmt:=match s with
  | .ClassDef _ _ _ body _ _ _ _ _ _ _=>body.getD j (.Pass ⟨0,0,0,0⟩)
  | _=>.Pass ⟨0,0,0,0⟩
def defArgs (s:Stmt):Arguments:=match s with
  | .FunctionDef _ a _ _ _ _ _ _ _ _=>a
  | _=>{ posonlyargs:=[],args:=[],vararg:=none,kwonlyargs:=[],kw_defaults:=[],kwarg:=none,defaults:=[] }
def defBody (s:Stmt):List Stmt:=match s with
  | .FunctionDef _ _ b _ _ _ _ _ _ _=>b
  | _=>[]
def defScope (s:Stmt):Scope:=match s with
  | .FunctionDef _ _ _ _ _ _ sc _ _ _=>sc
  | _=>{ kind:=.function,names:=[],isGenerator:=false,isCoroutine:=false }
abbrev CX0:CXT:=fun _ _ _ _ _ _=>False
abbrev E0:XK:=fun _ _ _=>False
theorem pass0 {X:Cx}:Passes CX0 X E0:=fun _ _ _ _ _ _ _ h=>h.elim
structure Fun (K:PySem.W.Frag)(x qual:Str)(st:Stmt)(f:Addr)(fd:FuncData):Prop where
  ex:∃ (oc:Value) (od:Option Addr) (kV doc pm:Value) (an:Option Addr) (cdv ct:Value) (osl:Array (Option Value)),
    fd=PySem.W.fnOf x qual (defArgs st) (defBody st) (defScope st) .none kV doc pm an cdv ct∧K.lookup f=some ⟨oc,od,.func fd,osl⟩∧PySem.W.codeIn K cdv qual=true
  kp:PySem.W.keepIn K (.ref f)=true
section
variable {P:Program}{w:World}{K:PySem.W.Frag}{mg:Str→Option Value}{base:Heap}
theorem Fun.ok {x qual:Str}{st:Stmt}{f:Addr}{fd:FuncData}{N ps:List Str}{k:Nat}{sp:Sp}(F:Fun K x qual st f fd)(S:FnScope N ps (defScope st))(len:∀vs H Q E,sp vs H Q E→vs.length=ps.length)(hbody:∀ (cdv:Value) (A:Around) (outer:List Env) (s:Shared) (H:Hp) (vs:List V) (Q:VK) (E:XK),Room k (A.deeper (envOfC qual (defScope st) s.heap.objs.size f cdv))→sp vs H Q E →
      ∃t,PSs (cxOf CX0 P w K mg base N qual (defScope st) f cdv A outer s H E).nox (defBody st) t∧t { nx:=fun _ H'=>Q .non H',rt:=Q } (start N vs) H):FnOk P w K mg base CX0 (k+1) f fd ps sp:=by
  obtain ⟨oc,od,kV,doc,pm,an,cdv,ct,osl,rfl,lk,hcd⟩:=F.ex
  refine fn_of lk hcd S len fun A outer s H vs Q E hr hsp=>?_
  obtain ⟨t,h,q⟩:=hbody cdv A outer s H vs Q E hr hsp
  exact ⟨t,h.nox,q⟩
theorem Fun.binds {x qual:Str}{st:Stmt}{f:Addr}{fd:FuncData}{ps:List Str}(F:Fun K x qual st f fd)(h:∀ (kV doc pm:Value) (an:Option Addr) (cdv ct:Value) (us:List Value),us.length=ps.length→bindArgs (PySem.W.fnOf x qual (defArgs st) (defBody st) (defScope st) .none kV doc pm an cdv ct) ⟨us,[]⟩=pure (ps.zip us)):Binds K fd ps []:=by
  obtain ⟨oc,od,kV,doc,pm,an,cdv,ct,osl,rfl,lk,hcd⟩:=F.ex
  exact .all (h kV doc pm an cdv ct)
theorem fun_mk {x qual:Str}{st:Stmt}{f:Addr}{oc:Value}{od an:Option Addr}{osl:Array (Option Value)}{kV doc pm cdv ct:Value}(l:K.lookup f=some ⟨oc,od,.func (PySem.W.fnOf x qual (defArgs st) (defBody st) (defScope st) .none kV doc pm an cdv ct),osl⟩)(c:PySem.W.codeIn K cdv qual=true)(k:PySem.W.keepIn K (.ref f)=true):Fun K x qual st f (PySem.W.fnOf x qual (defArgs st) (defBody st) (defScope st) .none kV doc pm an cdv ct):=⟨⟨oc,od,kV,doc,pm,an,cdv,ct,osl,rfl,l,c⟩,k⟩
end
theorem small1000 {n:Nat}(h:n≤1000):n < sizeLine:=Nat.lt_of_le_of_lt h (by decide)
section
variable {X:Cx}
theorem pv (i:Nat){x:Str}{pos:Pos}(hN:X.N[i]? = some x:=by rfl)(hv:Vis X.env.scope x:=by first | exact Or.inl rfl | exact Or.inr (Or.inl rfl) | exact Or.inr (Or.inr rfl))(hd:(x == ("__debug__" : Str))=false:=by decide)(hcd:(x == ("__classdict__" : Str))=false:=by decide):PE X (.Name x pos) (tVar i):=pe_var hN hv hd hcd
end
theorem iteF {A B:Prop}(h:B):if false=true then A else B:=by
  rw [if_neg Bool.false_ne_true]
  exact h
theorem iteT {A B:Prop}(h:A):if true=true then A else B:=by
  rw [if_pos rfl]
  exact h
def Same (H H':Hp):Prop:=∀b o,H b=some o→H' b=some o
theorem Same.refl (H:Hp):Same H H:=fun _ _ h=>h
theorem Same.trans {H H1 H2:Hp}(a:Same H H1)(b:Same H1 H2):Same H H2:=fun c o h=>b c o (a c o h)
theorem Same.free {H H':Hp}(e:Same H H'){l:Addr}(h:H' l=Option.none):H l=Option.none:=by
  cases q:H l with
  | none=>rfl
  | some o =>
    rw [e l o q] at h
    cases h
end L2
set_option autoImplicit false
set_option maxHeartbeats 4000000
namespace DL
open PySem PySem.Spec PyProof.Rows L2
abbrev St:=L2.St
inductive D where
  | non | bl (b:Bool) | int (i:Int) | str (x:Str) | tup (ds:List D) | lst (ds:List D) | ins (C:Addr) (ks:List Str) (ds:List D)
def KL (K:PySem.W.Frag)(a:Addr)(xs:List V):Prop:=
  ∃ (o:Obj) (its:Array Value) (n:Nat),K.lookup a=some o∧o.cls = .type "list" ∧ o.dict=none∧o.data = .seq its n∧its.size≤sizeLine∧Vals xs its.toList
def KT (K:PySem.W.Frag)(a:Addr)(xs:List V):Prop:=
  ∃ (o:Obj) (its:Array Value) (n:Nat),K.lookup a=some o∧o.cls = .type "tuple" ∧ o.data = .seq its n∧its.size≤sizeLine∧Vals xs its.toList
def SqLa (K:PySem.W.Frag)(H:Hp)(L:Addr→Prop)(a:Addr)(xs:List V):Prop:=(¬ L a∧Rd H a (.lst xs))∨KL K a xs
def SqTa (K:PySem.W.Frag)(H:Hp)(L:Addr→Prop)(a:Addr)(xs:List V):Prop:=(¬ L a∧Rd H a (.tup xs))∨KT K a xs
theorem SqLa.sq {K:PySem.W.Frag}{H:Hp}{L:Addr→Prop}{a:Addr}{xs:List V}(h:SqLa K H L a xs):SqL K H a xs:=h.imp (fun z=>z.2) id
theorem SqTa.sq {K:PySem.W.Frag}{H:Hp}{L:Addr→Prop}{a:Addr}{xs:List V}(h:SqTa K H L a xs):SqT K H a xs:=h.imp (fun z=>z.2) id
theorem SqLa.of {K:PySem.W.Frag}{H:Hp}{L:Addr→Prop}{a:Addr}{xs:List V}(n:¬ L a)(h:H a=some (.lst xs)):SqLa K H L a xs:=.inl ⟨n,.inl h⟩
theorem SqTa.of {K:PySem.W.Frag}{H:Hp}{L:Addr→Prop}{a:Addr}{xs:List V}(n:¬ L a)(h:H a=some (.tup xs)):SqTa K H L a xs:=.inl ⟨n,.inl h⟩
mutual
def Rep (K:PySem.W.Frag)(H:Hp)(L:Addr→Prop):D→V→Prop
  | .non,v=>v = .non
  | .bl b,v=>v = .bl b
  | .int i,v=>v = .int i
  | .str x,v=>v = .str x
  | .tup ds,v=>∃a vs,v = .ref a∧SqTa K H L a vs∧Reps K H L ds vs
  | .lst ds,v=>∃a vs,v = .ref a∧SqLa K H L a vs∧Reps K H L ds vs
  | .ins C ks ds,v=>∃a dx vs,v = .ref a ∧ ¬ L a∧H a=some (.ins C dx (ks.zip vs))∧ks.length=vs.length∧Reps K H L ds vs
def Reps (K:PySem.W.Frag)(H:Hp)(L:Addr→Prop):List D→List V→Prop
  | [],vs=>vs = []
  | d::ds,vs=>∃v r,vs=v::r∧Rep K H L d v∧Reps K H L ds r
end
def Off (L:Addr→Prop)(H H':Hp):Prop:=∀b o,H b=some o→¬ L b→H' b=some o
theorem Off.of {L:Addr→Prop}{H H':Hp}(s:Same H H'):Off L H H':=fun b o h _=>s b o h
def LOk (L:Addr→Prop)(H:Hp):Prop:=∀a,L a→H a ≠ none
theorem LOk.same {L:Addr→Prop}{H H':Hp}(l:LOk L H)(s:Same H H'):LOk L H':=fun a h z=>by
  cases e:H a with
  | none=>exact l a h e
  | some o=>rw [s a o e] at z; cases z
theorem LOk.fresh {L:Addr→Prop}{H:Hp}(l:LOk L H){p:Addr}(h:H p=none):¬ L p:=fun z=>l p z h
theorem same_upd {H:Hp}{p:Addr}{o:HO}(h:H p=none):Same H (upd H p o):=fun b u e=>by rw [upd_ne (ne_of_none e h)]; exact e
section
variable {K:PySem.W.Frag}{H H':Hp}{L L':Addr→Prop}
theorem sqT_off {a:Addr}{xs:List V}(e:Off L H H')(h:SqTa K H L a xs):SqTa K H' L a xs:=by
  rcases h with ⟨n,h | ⟨o,h⟩⟩ | h
  · exact .inl ⟨n,.inl (e _ _ h n)⟩
  · exact .inl ⟨n,.inr ⟨o,e _ _ h n⟩⟩
  · exact .inr h
theorem sqL_off {a:Addr}{xs:List V}(e:Off L H H')(h:SqLa K H L a xs):SqLa K H' L a xs:=by
  rcases h with ⟨n,h | ⟨o,h⟩⟩ | h
  · exact .inl ⟨n,.inl (e _ _ h n)⟩
  · exact .inl ⟨n,.inr ⟨o,e _ _ h n⟩⟩
  · exact .inr h
def Less (H:Hp)(L L':Addr→Prop):Prop:=∀a o,H a=some o→¬ L a→¬ L' a
theorem Less.of (e:∀a,L' a→L a):Less H L L':=fun a _ _ n z=>n (e a z)
theorem sqT_less {a:Addr}{xs:List V}(e:Less H L L')(h:SqTa K H L a xs):SqTa K H L' a xs:=by
  rcases h with ⟨n,h | ⟨o,h⟩⟩ | h
  · exact .inl ⟨e _ _ h n,.inl h⟩
  · exact .inl ⟨e _ _ h n,.inr ⟨o,h⟩⟩
  · exact .inr h
theorem sqL_less {a:Addr}{xs:List V}(e:Less H L L')(h:SqLa K H L a xs):SqLa K H L' a xs:=by
  rcases h with ⟨n,h | ⟨o,h⟩⟩ | h
  · exact .inl ⟨e _ _ h n,.inl h⟩
  · exact .inl ⟨e _ _ h n,.inr ⟨o,h⟩⟩
  · exact .inr h
mutual
theorem Rep.off (e:Off L H H'):∀ {d:D}{v:V},Rep K H L d v→Rep K H' L d v
  | .non,_,h=>h
  | .bl _,_,h=>h
  | .int _,_,h=>h
  | .str _,_,h=>h
  | .tup ds,_,h=>by
    unfold Rep at h ⊢
    obtain ⟨a,vs,rfl,s,r⟩:=h
    exact ⟨a,vs,rfl,sqT_off e s,Reps.off e r⟩
  | .lst ds,_,h=>by
    unfold Rep at h ⊢
    obtain ⟨a,vs,rfl,s,r⟩:=h
    exact ⟨a,vs,rfl,sqL_off e s,Reps.off e r⟩
  | .ins C ks ds,_,h=>by
    unfold Rep at h ⊢
    obtain ⟨a,dx,vs,rfl,n,s,l,r⟩:=h
    exact ⟨a,dx,vs,rfl,n,e _ _ s n,l,Reps.off e r⟩
theorem Reps.off (e:Off L H H'):∀ {ds:List D}{vs:List V},Reps K H L ds vs→Reps K H' L ds vs
  | [],_,h=>by unfold Reps at h ⊢; exact h
  | d::ds,_,h=>by
    unfold Reps at h ⊢
    obtain ⟨v,r,rfl,h1,h2⟩:=h
    exact ⟨v,r,rfl,Rep.off e h1,Reps.off e h2⟩
end
mutual
theorem Rep.less (e:Less H L L'):∀ {d:D}{v:V},Rep K H L d v→Rep K H L' d v
  | .non,_,h=>h
  | .bl _,_,h=>h
  | .int _,_,h=>h
  | .str _,_,h=>h
  | .tup ds,_,h=>by
    unfold Rep at h ⊢
    obtain ⟨a,vs,rfl,s,r⟩:=h
    exact ⟨a,vs,rfl,sqT_less e s,Reps.less e r⟩
  | .lst ds,_,h=>by
    unfold Rep at h ⊢
    obtain ⟨a,vs,rfl,s,r⟩:=h
    exact ⟨a,vs,rfl,sqL_less e s,Reps.less e r⟩
  | .ins C ks ds,_,h=>by
    unfold Rep at h ⊢
    obtain ⟨a,dx,vs,rfl,n,s,l,r⟩:=h
    exact ⟨a,dx,vs,rfl,e _ _ s n,s,l,Reps.less e r⟩
theorem Reps.less (e:Less H L L'):∀ {ds:List D}{vs:List V},Reps K H L ds vs→Reps K H L' ds vs
  | [],_,h=>by unfold Reps at h ⊢; exact h
  | d::ds,_,h=>by
    unfold Reps at h ⊢
    obtain ⟨v,r,rfl,h1,h2⟩:=h
    exact ⟨v,r,rfl,Rep.less e h1,Reps.less e h2⟩
end
theorem Rep.same (s:Same H H'){d:D}{v:V}(h:Rep K H L d v):Rep K H' L d v:=h.off (.of s)
theorem Reps.same (s:Same H H'){d:List D}{v:List V}(h:Reps K H L d v):Reps K H' L d v:=h.off (.of s)
theorem rep_int {i:Int}{v:V}:Rep K H L (.int i) v↔v = .int i:=by unfold Rep; exact Iff.rfl
theorem rep_bl {i:Bool}{v:V}:Rep K H L (.bl i) v↔v = .bl i:=by unfold Rep; exact Iff.rfl
theorem rep_str {i:Str}{v:V}:Rep K H L (.str i) v↔v = .str i:=by unfold Rep; exact Iff.rfl
theorem rep_non {v:V}:Rep K H L .non v↔v = .non:=by unfold Rep; exact Iff.rfl
theorem rep_tup {ds:List D}{v:V}:Rep K H L (.tup ds) v ↔ ∃a vs,v = .ref a∧SqTa K H L a vs∧Reps K H L ds vs:=by rw [Rep]
theorem rep_lst {ds:List D}{v:V}:Rep K H L (.lst ds) v ↔ ∃a vs,v = .ref a∧SqLa K H L a vs∧Reps K H L ds vs:=by rw [Rep]
theorem rep_ins {C:Addr}{ks:List Str}{ds:List D}{v:V}:Rep K H L (.ins C ks ds) v ↔ ∃a dx vs,v = .ref a ∧ ¬ L a∧H a=some (.ins C dx (ks.zip vs))∧ks.length=vs.length∧Reps K H L ds vs:=by rw [Rep]
theorem reps_nil {vs:List V}:Reps K H L [] vs↔vs = []:=by unfold Reps; exact Iff.rfl
theorem reps_cons {d:D}{ds:List D}{vs:List V}:Reps K H L (d::ds) vs ↔ ∃v r,vs=v::r∧Rep K H L d v∧Reps K H L ds r:=by rw [Reps]
theorem Reps.nil:Reps K H L [] []:=reps_nil.mpr rfl
theorem Reps.cons {d:D}{ds:List D}{v:V}{vs:List V}(h:Rep K H L d v)(r:Reps K H L ds vs):Reps K H L (d::ds) (v::vs):=reps_cons.mpr ⟨v,vs,rfl,h,r⟩
theorem Reps.length:∀ {ds:List D}{vs:List V},Reps K H L ds vs→ds.length=vs.length
  | [],_,h=>by rw [reps_nil.mp h]; rfl
  | d::ds,_,h=>by
    obtain ⟨v,r,rfl,_,h2⟩:=reps_cons.mp h
    rw [List.length_cons,List.length_cons,Reps.length h2]
theorem Reps.get:∀ {ds:List D}{vs:List V}{i:Nat}{d:D},Reps K H L ds vs→ds[i]? = some d→∃v,vs[i]? = some v∧Rep K H L d v
  | [],_,_,_,_,e=>by simp at e
  | d::ds,_,0,_,h,e=>by
    obtain ⟨v,r,rfl,h1,_⟩:=reps_cons.mp h
    simp at e; subst e
    exact ⟨v,rfl,h1⟩
  | d::ds,_,i+1,_,h,e=>by
    obtain ⟨v,r,rfl,_,h2⟩:=reps_cons.mp h
    obtain ⟨u,h3,h4⟩:=Reps.get (i:=i) h2 (by simpa using e)
    exact ⟨u,by simpa using h3,h4⟩
theorem Reps.append:∀ {ds es:List D}{vs us:List V},Reps K H L ds vs→Reps K H L es us→Reps K H L (ds++es) (vs++us)
  | [],_,_,_,h,h'=>by rw [reps_nil.mp h]; exact h'
  | d::ds,_,_,_,h,h'=>by
    obtain ⟨v,r,rfl,h1,h2⟩:=reps_cons.mp h
    exact Reps.cons h1 (Reps.append h2 h')
theorem Reps.take:∀ {ds:List D}{vs:List V}(n:Nat),Reps K H L ds vs→Reps K H L (ds.take n) (vs.take n)
  | _,_,0,_=>Reps.nil
  | [],_,_+1,h=>by rw [reps_nil.mp h]; exact Reps.nil
  | d::ds,_,n+1,h=>by
    obtain ⟨v,r,rfl,h1,h2⟩:=reps_cons.mp h
    exact Reps.cons h1 (Reps.take n h2)
theorem Reps.drop:∀ {ds:List D}{vs:List V}(n:Nat),Reps K H L ds vs→Reps K H L (ds.drop n) (vs.drop n)
  | _,_,0,h=>h
  | [],_,_+1,h=>by rw [reps_nil.mp h]; exact Reps.nil
  | d::ds,_,n+1,h=>by
    obtain ⟨v,r,rfl,h1,h2⟩:=reps_cons.mp h
    exact Reps.drop n h2
theorem reps_ints:∀ {ns:List Int}{vs:List V},Reps K H L (ns.map D.int) vs↔vs=ns.map V.int
  | [],vs=>reps_nil
  | n::ns,vs=>by
    rw [List.map_cons,List.map_cons,reps_cons]
    constructor
    · rintro ⟨v,r,rfl,h1,h2⟩
      rw [rep_int.mp h1,reps_ints.mp h2]
    · rintro rfl
      exact ⟨_,_,rfl,rep_int.mpr rfl,reps_ints.mpr rfl⟩
theorem reps_bls:∀ {ns:List Bool}{vs:List V},Reps K H L (ns.map D.bl) vs↔vs=ns.map V.bl
  | [],vs=>reps_nil
  | n::ns,vs=>by
    rw [List.map_cons,List.map_cons,reps_cons]
    constructor
    · rintro ⟨v,r,rfl,h1,h2⟩
      rw [rep_bl.mp h1,reps_bls.mp h2]
    · rintro rfl
      exact ⟨_,_,rfl,rep_bl.mpr rfl,reps_bls.mpr rfl⟩
end
section
variable {X:Cx}
def WE (X:Cx)(e:Expr):TE:=fun σ H Q=>∀pins s,Inv X pins σ H s→wpAny (model X.prog X.w) X.A (eval e X.env) (EP X pins σ Q) X.xe s
theorem pe_we {e:Expr}:PE X e (WE X e):=fun pins s _ _ _ I h=>h pins s I
theorem we_of {e:Expr}{t:TE}(h:PE X e t){σ:St}{H:Hp}{Q:VK}(q:t σ H Q):WE X e σ H Q:=fun pins s I=>h pins s σ H Q I q
def WT (X:Cx)(e:Expr):TT:=fun σ H Q=>∀pins s,Inv X pins σ H s→wpAny (model X.prog X.w) X.A (isTrue e X.env (eval e X.env)) (TP X pins σ Q) X.xe s
theorem pt_wt {e:Expr}:PT X e (WT X e):=fun pins s _ _ _ I h=>h pins s I
theorem wt_of {e:Expr}{t:TT}(h:PT X e t){σ:St}{H:Hp}{Q:Bool→Hp→Prop}(q:t σ H Q):WT X e σ H Q:=fun pins s I=>h pins s σ H Q I q
def WA (X:Cx)(es:List Expr):TA:=fun σ H Q=>∀pos pins s,Inv X pins σ H s→wpAny (model X.prog X.w) X.A (spliced (backTo pos (starEach es X.env))) (AP X pins σ Q) X.xe s
theorem pa_wa {es:List Expr}:PA X es (WA X es):=fun pos pins s _ _ _ I h=>h pos pins s I
theorem wa_of {es:List Expr}{t:TA}(h:PA X es t){σ:St}{H:Hp}{Q:List V→Hp→Prop}(q:t σ H Q):WA X es σ H Q:=fun pos pins s I=>h pos pins s σ H Q I q
def WS (X:Cx)(st:Stmt):TS:=fun E σ H=>∀pins s,Inv X pins σ H s→wpAny (model X.prog X.w) X.A (exec st X.env) (SP X pins E) X.xe s
theorem ps_ws {st:Stmt}:PS X st (WS X st):=fun pins s _ _ _ I h=>h pins s I
theorem ws_of {st:Stmt}{t:TS}(h:PS X st t){σ:St}{H:Hp}{E:Ends}(q:t E σ H):WS X st E σ H:=fun pins s I=>h pins s σ H E I q
def WB (X:Cx)(st:List Stmt):TS:=fun E σ H=>∀pins s,Inv X pins σ H s→wpAny (model X.prog X.w) X.A (execs st X.env) (SP X pins E) X.xe s
theorem pss_wb {st:List Stmt}:PSs X st (WB X st):=fun pins s _ _ _ I h=>h pins s I
theorem wb_of {st:List Stmt}{t:TS}(h:PSs X st t){σ:St}{H:Hp}{E:Ends}(q:t E σ H):WB X st E σ H:=fun pins s I=>h pins s σ H E I q
structure EnvR (K:PySem.W.Frag)(H:Hp)(L:Addr→Prop)(δ:List (Option D))(σ:St):Prop where
  len:δ.length=σ.length
  get:∀ (i:Nat) (d:D),δ[i]? = some (some d)→∃v,σ[i]? = some (some v)∧Rep K H L d v
theorem EnvR.off {K:PySem.W.Frag}{H H':Hp}{L:Addr→Prop}{δ:List (Option D)}{σ:St}(e:EnvR K H L δ σ)(s:Off L H H'):EnvR K H' L δ σ:=
  ⟨e.len,fun i d h=>let ⟨v,h1,h2⟩:=e.get i d h; ⟨v,h1,h2.off s⟩⟩
theorem EnvR.same {K:PySem.W.Frag}{H H':Hp}{L:Addr→Prop}{δ:List (Option D)}{σ:St}(e:EnvR K H L δ σ)(s:Same H H'):EnvR K H' L δ σ:=e.off (.of s)
def EvP (X:Cx)(e:Expr)(δ:List (Option D))(P:D→Prop):Prop:=
  ∀ (σ:St) (H:Hp) (L:Addr→Prop) (Q:VK),LOk L H→EnvR X.K H L δ σ→(∀d v H',P d→Same H H'→Rep X.K H' L d v→Q v H')→WE X e σ H Q
def Ev (X:Cx)(e:Expr)(δ:List (Option D))(d:D):Prop:=
  ∀ (σ:St) (H:Hp) (L:Addr→Prop) (Q:VK),LOk L H→EnvR X.K H L δ σ→(∀v H',Same H H'→Rep X.K H' L d v→Q v H')→WE X e σ H Q
def EvT (X:Cx)(e:Expr)(δ:List (Option D))(b:Bool):Prop:=
  ∀ (σ:St) (H:Hp) (L:Addr→Prop) (Q:Bool→Hp→Prop),LOk L H→EnvR X.K H L δ σ→(∀H',Same H H'→Q b H')→WT X e σ H Q
def EvA (X:Cx)(es:List Expr)(δ:List (Option D))(ds:List D):Prop:=
  ∀ (σ:St) (H:Hp) (L:Addr→Prop) (Q:List V→Hp→Prop),LOk L H→EnvR X.K H L δ σ→(∀vs H',Same H H'→Reps X.K H' L ds vs→Q vs H')→WA X es σ H Q
theorem Ev.p {e:Expr}{δ:List (Option D)}{d:D}{P:D→Prop}(h:Ev X e δ d)(p:P d):EvP X e δ P:=fun σ H L Q l r k=>h σ H L Q l r fun v H' s p'=>k d v H' p s p'
theorem EvP.ev {e:Expr}{δ:List (Option D)}{d:D}{P:D→Prop}(h:EvP X e δ P)(p:∀x,P x→x=d):Ev X e δ d:=fun σ H L Q l r k=>h σ H L Q l r fun x v H' q s p'=>k v H' s (p x q ▸ p')
theorem EvP.imp {e:Expr}{δ:List (Option D)}{P P':D→Prop}(h:EvP X e δ P)(p:∀x,P x→P' x):EvP X e δ P':=fun σ H L Q l r k=>h σ H L Q l r fun x v H' q s p'=>k x v H' (p x q) s p'
theorem Ev.cast {e:Expr}{δ:List (Option D)}{d d':D}(h:Ev X e δ d)(p:d=d'):Ev X e δ d':=p ▸ h
theorem EvT.cast {e:Expr}{δ:List (Option D)}{d d':Bool}(h:EvT X e δ d)(p:d=d'):EvT X e δ d':=p ▸ h
variable {δ:List (Option D)}{a b c:Expr}{pos:Pos}
theorem ev_var (i:Nat){x:Str}{d:D}(hδ:δ[i]? = some (some d):=by rfl)(hN:X.N[i]? = some x:=by rfl)(hv:Vis X.env.scope x:=by first | exact Or.inl rfl | exact Or.inr (Or.inl rfl) | exact Or.inr (Or.inr rfl))(hd:(x == ("__debug__" : Str))=false:=by decide)(hcd:(x == ("__classdict__" : Str))=false:=by decide):Ev X (.Name x pos) δ d:=fun σ H L Q l r k=>by
  obtain ⟨v,e,h⟩:=r.get i d hδ
  exact we_of (pe_var hN hv hd hcd) ⟨v,e,k v H (.refl _) h⟩
theorem ev_int {i:Int}{j}:Ev X (.Constant (.int i) j pos) δ (.int i):=fun σ H L Q l r k=>we_of pe_int (k _ H (.refl _) (rep_int.mpr rfl))
theorem ev_bl {i:Bool}{j}:Ev X (.Constant (.bool i) j pos) δ (.bl i):=fun σ H L Q l r k=>we_of pe_bl (k _ H (.refl _) (rep_bl.mpr rfl))
theorem ev_non {j}:Ev X (.Constant .none j pos) δ .non:=fun σ H L Q l r k=>we_of pe_non (k _ H (.refl _) (rep_non.mpr rfl))
theorem ev_str {i:Str}{j}:Ev X (.Constant (.str i) j pos) δ (.str i):=fun σ H L Q l r k=>we_of pe_str (k _ H (.refl _) (rep_str.mpr rfl))
theorem ev_globI {x:Str}{i:Int}{t:Tok}(hm:X.mg x=some (.int i t))(hg:Gl X x:=by rfl)(hd:(x == ("__debug__" : Str))=false:=by decide):Ev X (.Name x pos) δ (.int i):=fun σ H L Q l r k =>
  we_of (pe_glob hg hm (v:=.int i) ⟨t,rfl⟩ hd) (k _ H (.refl _) (rep_int.mpr rfl))
theorem ev_op2 {d1 d2 d:D}{op:Operator}{r:R2}(ho:OpR X (binaryOp op) r)(ha:Ev X a δ d1)(hb:Ev X b δ d2)(hr:∀ (x y:V) (H:Hp) (L:Addr→Prop) (Q:VK),LOk L H→Rep X.K H L d1 x→Rep X.K H L d2 y→(∀v H',Same H H'→Rep X.K H' L d v→Q v H')→r x y H Q):Ev X (.BinOp a op b pos) δ d:=fun σ H L Q l e k=>by
  refine we_of (pe_op ho pe_we pe_we) ?_
  refine ha σ H L _ l e fun x H1 s1 r1=>?_
  refine hb σ H1 L _ (l.same s1) (e.same s1) fun y H2 s2 r2=>?_
  exact hr x y H2 L Q ((l.same s1).same s2) (r1.same s2) r2 fun v H' s q=>k v H' ((s1.trans s2).trans s) q
theorem ev_cmp2 {d1 d2 d:D}{op:CmpOp}{r:R2}(ho:OpR X (compareOp op) r)(ha:Ev X a δ d1)(hb:Ev X b δ d2)(hm:behindInMarks op b=false)(hr:∀ (x y:V) (H:Hp) (L:Addr→Prop) (Q:VK),LOk L H→Rep X.K H L d1 x→Rep X.K H L d2 y→(∀v H',Same H H'→Rep X.K H' L d v→Q v H')→r x y H Q):Ev X (.Compare a [op] [b] pos) δ d:=fun σ H L Q l e k=>by
  refine we_of (pe_cmpR ho pe_we pe_we hm) ?_
  refine ha σ H L _ l e fun x H1 s1 r1=>?_
  refine hb σ H1 L _ (l.same s1) (e.same s1) fun y H2 s2 r2=>?_
  exact hr x y H2 L Q ((l.same s1).same s2) (r1.same s2) r2 fun v H' s q=>k v H' ((s1.trans s2).trans s) q
theorem ev_tst {d1 d2:D}{k:Bool}{op:CmpOp}{r:R2}(ho:OpR X (compareOp op) r)(ha:Ev X a δ d1)(hb:Ev X b δ d2)(hm:behindInMarks op b=false)(hr:∀ (x y:V) (H:Hp) (L:Addr→Prop) (Q:VK),LOk L H→Rep X.K H L d1 x→Rep X.K H L d2 y→(∀v H',Same H H'→Rep X.K H' L (.bl k) v→Q v H')→r x y H Q):EvT X (.Compare a [op] [b] pos) δ k:=fun σ H L Q l e q=>by
  refine wt_of (pt_cmpR ho pe_we pe_we hm) ?_
  refine ha σ H L _ l e fun x H1 s1 r1=>?_
  refine hb σ H1 L _ (l.same s1) (e.same s1) fun y H2 s2 r2=>?_
  exact hr x y H2 L _ ((l.same s1).same s2) (r1.same s2) r2 fun v H' s p=>⟨k,rep_bl.mp p,q H' ((s1.trans s2).trans s)⟩
section
variable {i j:Int}
theorem rI_of {C:Int→Int→Prop}{g:Int→Int→V}{d:D}(hc:C i j)(hd:∀K H L,Rep K H L d (g i j)):∀ (x y:V) (H:Hp) (L:Addr→Prop) (Q:VK),LOk L H→Rep X.K H L (.int i) x→Rep X.K H L (.int j) y→(∀v H',Same H H'→Rep X.K H' L d v→Q v H')→rI C g x y H Q:=
  fun x y H L Q _ h1 h2 k=>⟨i,j,rep_int.mp h1,rep_int.mp h2,hc,k _ H (.refl _) (hd _ _ _)⟩
theorem rI0_of {g:Int→Int→V}{d:D}(hd:∀K H L,Rep K H L d (g i j)):∀ (x y:V) (H:Hp) (L:Addr→Prop) (Q:VK),LOk L H→Rep X.K H L (.int i) x→Rep X.K H L (.int j) y→(∀v H',Same H H'→Rep X.K H' L d v→Q v H')→rI0 g x y H Q:=
  fun x y H L Q _ h1 h2 k=>⟨i,j,rep_int.mp h1,rep_int.mp h2,k _ H (.refl _) (hd _ _ _)⟩
theorem ev_add (ha:Ev X a δ (.int i))(hb:Ev X b δ (.int j)):Ev X (.BinOp a .Add b pos) δ (.int (i+j)):=ev_op2 op_add ha hb (rI0_of fun _ _ _=>rep_int.mpr rfl)
theorem ev_mul (ha:Ev X a δ (.int i))(hb:Ev X b δ (.int j))(hc:CMul i j):Ev X (.BinOp a .Mult b pos) δ (.int (i * j)):=ev_op2 op_mul ha hb (rI_of hc fun _ _ _=>rep_int.mpr rfl)
theorem ev_fdiv (ha:Ev X a δ (.int i))(hb:Ev X b δ (.int j))(hc:CDiv i j:=by exact ⟨by decide,by decide⟩):Ev X (.BinOp a .FloorDiv b pos) δ (.int (i / j)):=ev_op2 op_fdiv ha hb (rI_of hc fun _ _ _=>rep_int.mpr rfl)
theorem ev_mod (ha:Ev X a δ (.int i))(hb:Ev X b δ (.int j))(hc:0 < j:=by decide):Ev X (.BinOp a .Mod b pos) δ (.int (i % j)):=ev_op2 op_mod ha hb (rI_of hc fun _ _ _=>rep_int.mpr rfl)
theorem ev_neg (ha:Ev X a δ (.int i)):Ev X (.UnaryOp .USub a pos) δ (.int (-i)):=fun σ H L Q l e k=>by
  refine we_of (pe_un un_neg pe_we) ?_
  exact ha σ H L _ l e fun x H1 s1 r1=>⟨i,rep_int.mp r1,k _ H1 s1 (rep_int.mpr rfl)⟩
theorem ev_gt (ha:Ev X a δ (.int i))(hb:Ev X b δ (.int j)):Ev X (.Compare a [.Gt] [b] pos) δ (.bl (decide (j < i))):=ev_cmp2 op_gt ha hb (nomark _) (rI0_of fun _ _ _=>rep_bl.mpr rfl)
theorem et_lt (ha:Ev X a δ (.int i))(hb:Ev X b δ (.int j)):EvT X (.Compare a [.Lt] [b] pos) δ (decide (i < j)):=ev_tst op_lt ha hb (nomark _) (rI0_of fun _ _ _=>rep_bl.mpr rfl)
theorem et_le (ha:Ev X a δ (.int i))(hb:Ev X b δ (.int j)):EvT X (.Compare a [.LtE] [b] pos) δ (decide (i≤j)):=ev_tst op_le ha hb (nomark _) (rI0_of fun _ _ _=>rep_bl.mpr rfl)
theorem et_gt (ha:Ev X a δ (.int i))(hb:Ev X b δ (.int j)):EvT X (.Compare a [.Gt] [b] pos) δ (decide (j < i)):=ev_tst op_gt ha hb (nomark _) (rI0_of fun _ _ _=>rep_bl.mpr rfl)
theorem et_ge (ha:Ev X a δ (.int i))(hb:Ev X b δ (.int j)):EvT X (.Compare a [.GtE] [b] pos) δ (decide (j≤i)):=ev_tst op_ge ha hb (nomark _) (rI0_of fun _ _ _=>rep_bl.mpr rfl)
theorem rEqI {x y:V}{H:Hp}{L:Addr→Prop}{Q:VK}(h1:Rep X.K H L (.int i) x)(h2:Rep X.K H L (.int j) y)(k:∀v H',Same H H'→Rep X.K H' L (.bl (decide (i=j))) v→Q v H'):rEq x y H Q:=by
  rw [rep_int] at h1 h2; subst h1; subst h2
  refine ⟨rfl,k _ H (.refl _) (rep_bl.mpr ?_)⟩
  congr 1
  rw [Bool.eq_iff_iff]; simp
theorem rNeI {x y:V}{H:Hp}{L:Addr→Prop}{Q:VK}(h1:Rep X.K H L (.int i) x)(h2:Rep X.K H L (.int j) y)(k:∀v H',Same H H'→Rep X.K H' L (.bl (!decide (i=j))) v→Q v H'):rNe x y H Q:=by
  rw [rep_int] at h1 h2; subst h1; subst h2
  refine ⟨rfl,k _ H (.refl _) (rep_bl.mpr ?_)⟩
  congr 2
  rw [Bool.eq_iff_iff]; simp
theorem ev_eq (ha:Ev X a δ (.int i))(hb:Ev X b δ (.int j)):Ev X (.Compare a [.Eq] [b] pos) δ (.bl (decide (i=j))):=ev_cmp2 op_eq ha hb (nomark _) fun x y H L Q _ h1 h2 k=>rEqI h1 h2 k
theorem et_eq (ha:Ev X a δ (.int i))(hb:Ev X b δ (.int j)):EvT X (.Compare a [.Eq] [b] pos) δ (decide (i=j)):=ev_tst op_eq ha hb (nomark _) fun x y H L Q _ h1 h2 k=>rEqI h1 h2 k
theorem et_ne (ha:Ev X a δ (.int i))(hb:Ev X b δ (.int j)):EvT X (.Compare a [.NotEq] [b] pos) δ (!decide (i=j)):=ev_tst op_ne ha hb (nomark _) fun x y H L Q _ h1 h2 k=>rNeI h1 h2 k
end
section
variable {i:Int}{ns:List Int}
theorem inV_ints (i:Int)(ns:List Int):inV (.int i) (ns.map V.int)=ns.contains i:=by
  unfold inV
  rw [List.any_map,List.contains_eq_any_beq]
  congr 1
  funext y
  show (y == i)=(i == y)
  rw [Bool.eq_iff_iff,beq_iff_eq,beq_iff_eq]; exact eq_comm
theorem flat_ints (ns:List Int):(ns.map V.int).all flatV=true:=by rw [List.all_map,List.all_eq_true]; intro _ _; rfl
theorem rIn_ints {neg:Bool}{e:D}(he:e = .tup (ns.map D.int)∨e = .lst (ns.map D.int)):∀ (x y:V) (H:Hp) (L:Addr→Prop) (Q:VK),LOk L H→Rep X.K H L (.int i) x→Rep X.K H L e y →
    (∀v H',Same H H'→Rep X.K H' L (.bl (if neg then !ns.contains i else ns.contains i)) v→Q v H')→rIn X.K neg x y H Q:=fun x y H L Q l h1 h2 k=>by
  rw [rep_int] at h1
  subst h1
  rcases he with rfl | rfl
  · obtain ⟨p,vs,rfl,hq,hr⟩:=rep_tup.mp h2
    rw [reps_ints] at hr
    subst hr
    exact ⟨p,_,rfl,.inr hq.sq,rfl,flat_ints ns,k _ H (.refl _) (rep_bl.mpr (by rw [inV_ints]))⟩
  · obtain ⟨p,vs,rfl,hq,hr⟩:=rep_lst.mp h2
    rw [reps_ints] at hr
    subst hr
    exact ⟨p,_,rfl,.inl hq.sq,rfl,flat_ints ns,k _ H (.refl _) (rep_bl.mpr (by rw [inV_ints]))⟩
theorem ev_inT (ha:Ev X a δ (.int i))(hb:Ev X b δ (.tup (ns.map D.int)))(hm:behindInMarks .In b=false:=by with_unfolding_all rfl):Ev X (.Compare a [.In] [b] pos) δ (.bl (ns.contains i)):=ev_cmp2 op_in_seq ha hb hm fun x y H L Q l h1 h2 k=>rIn_ints (.inl rfl) x y H L Q l h1 h2 k
theorem et_inT (ha:Ev X a δ (.int i))(hb:Ev X b δ (.tup (ns.map D.int)))(hm:behindInMarks .In b=false:=by with_unfolding_all rfl):EvT X (.Compare a [.In] [b] pos) δ (ns.contains i):=ev_tst op_in_seq ha hb hm fun x y H L Q l h1 h2 k=>rIn_ints (.inl rfl) x y H L Q l h1 h2 k
theorem et_ninT (ha:Ev X a δ (.int i))(hb:Ev X b δ (.tup (ns.map D.int)))(hm:behindInMarks .NotIn b=false:=by with_unfolding_all rfl):EvT X (.Compare a [.NotIn] [b] pos) δ (!ns.contains i):=ev_tst op_notIn_seq ha hb hm fun x y H L Q l h1 h2 k=>rIn_ints (.inl rfl) x y H L Q l h1 h2 k
end
theorem et_val {k:Bool}(h:Ev X a δ (.bl k))(he:∀whole,isTrue a X.env whole=(do let v ← whole; standAt a.pos; holding [v] (truthy v)):=by intro _; rfl):EvT X a δ k:=fun σ H L Q l e q=>by
  refine wt_of (pt_val pe_we he) ?_
  exact h σ H L _ l e fun v H' s r=>⟨k,rep_bl.mp r,q H' s⟩
theorem et_not {k:Bool}(h:EvT X a δ k):EvT X (.UnaryOp .Not a pos) δ (!k):=fun σ H L Q l e q=>wt_of (pt_not pt_wt) (h σ H L _ l e fun H' s=>q H' s)
def WW (X:Cx)(e:Expr):TT:=fun σ H Q=>∀whole pins s,Inv X pins σ H s→wpAny (model X.prog X.w) X.A (isTrue e X.env whole) (TP X pins σ Q) X.xe s
theorem pw_ww {e:Expr}:PW X e (WW X e):=fun whole pins s _ _ _ I h=>h whole pins s I
theorem ww_of {e:Expr}{t:TT}(h:PW X e t){σ:St}{H:Hp}{Q:Bool→Hp→Prop}(q:t σ H Q):WW X e σ H Q:=fun whole pins s I=>h whole pins s σ H Q I q
def EvW (X:Cx)(e:Expr)(δ:List (Option D))(b:Bool):Prop:=
  ∀ (σ:St) (H:Hp) (L:Addr→Prop) (Q:Bool→Hp→Prop),LOk L H→EnvR X.K H L δ σ→(∀H',Same H H'→Q b H')→WW X e σ H Q
theorem EvW.t {e:Expr}{k:Bool}(h:EvW X e δ k):EvT X e δ k:=fun σ H L Q l r q pins s I=>h σ H L Q l r q _ pins s I
variable {rest:List Expr}
theorem ew_and1 {k:Bool}(h:EvT X a δ k):EvW X (.BoolOp .And [a] pos) δ k:=fun σ H L Q l e q=>ww_of (pw_and1 pt_wt) (h σ H L _ l e q)
theorem ew_or1 {k:Bool}(h:EvT X a δ k):EvW X (.BoolOp .Or [a] pos) δ k:=fun σ H L Q l e q=>ww_of (pw_or1 pt_wt) (h σ H L _ l e q)
theorem ew_and {k k':Bool}(h:EvT X a δ k)(h':k=true→EvW X (.BoolOp .And (b::rest) pos) δ k'):EvW X (.BoolOp .And (a::b::rest) pos) δ (k && k'):=fun σ H L Q l e q=>by
  refine ww_of (pw_and pt_wt pw_ww) (h σ H L _ l e fun H' s=>?_)
  cases k with
  | true=>exact iteT (h' rfl σ H' L _ (l.same s) (e.same s) fun H2 s2=>q H2 (s.trans s2))
  | false=>exact iteF (q H' s)
theorem ew_or {k k':Bool}(h:EvT X a δ k)(h':k=false→EvW X (.BoolOp .Or (b::rest) pos) δ k'):EvW X (.BoolOp .Or (a::b::rest) pos) δ (k || k'):=fun σ H L Q l e q=>by
  refine ww_of (pw_or pt_wt pw_ww) (h σ H L _ l e fun H' s=>?_)
  cases k with
  | false=>exact iteF (h' rfl σ H' L _ (l.same s) (e.same s) fun H2 s2=>q H2 (s.trans s2))
  | true=>exact iteT (q H' s)
theorem et_or {k k':Bool}(h:EvT X a δ k)(h':k=false→EvT X b δ k'):EvT X (.BoolOp .Or [a,b] pos) δ (k || k'):=(ew_or h fun z=>ew_or1 (h' z)).t
theorem et_and {k k':Bool}(h:EvT X a δ k)(h':k=true→EvT X b δ k'):EvT X (.BoolOp .And [a,b] pos) δ (k && k'):=(ew_and h fun z=>ew_and1 (h' z)).t
theorem et_or3 {k k' k'':Bool}(h:EvT X a δ k)(h':k=false→EvT X b δ k')(h'':k=false→k'=false→EvT X c δ k''):EvT X (.BoolOp .Or [a,b,c] pos) δ (k || (k' || k'')):=(ew_or h fun z=>ew_or (h' z) fun z'=>ew_or1 (h'' z z')).t
theorem ev_and {k k':Bool}(h:Ev X a δ (.bl k))(h':k=true→Ev X b δ (.bl k')):Ev X (.BoolOp .And [a,b] pos) δ (.bl (k && k')):=fun σ H L Q l e q=>by
  refine we_of (pe_and pe_we (pe_one pe_we)) (h σ H L _ l e fun v H' s r=>⟨k,rep_bl.mp r,?_⟩)
  cases k with
  | true=>exact iteT (h' rfl σ H' L _ (l.same s) (e.same s) fun v2 H2 s2 r2=>q v2 H2 (s.trans s2) r2)
  | false=>exact iteF (q _ H' s (rep_bl.mpr rfl))
theorem ea_nil:EvA X [] δ []:=fun σ H L Q l e q=>wa_of pa_nil (q [] H (.refl _) Reps.nil)
theorem ea_cons {es:List Expr}{d:D}{ds:List D}(h:Ev X a δ d)(hr:EvA X es δ ds)(hs:starEach (a::es) X.env=(false,eval a X.env)::starEach es X.env:=by rfl):EvA X (a::es) δ (d::ds):=fun σ H L Q l e q=>by
  refine wa_of (pa_cons pe_we pa_wa hs) (h σ H L _ l e fun v H1 s1 r1=>hr σ H1 L _ (l.same s1) (e.same s1) fun vs H2 s2 r2=>?_)
  exact q _ H2 (s1.trans s2) (Reps.cons (r1.same s2) r2)
theorem ea1 {d:D}(h:Ev X a δ d)(hs:starEach [a] X.env = [(false,eval a X.env)]:=by rfl):EvA X [a] δ [d]:=ea_cons h ea_nil hs
theorem ea2 {d d':D}(h:Ev X a δ d)(h':Ev X b δ d')(hs:starEach [a,b] X.env=(false,eval a X.env)::starEach [b] X.env:=by rfl)(hs2:starEach [b] X.env = [(false,eval b X.env)]:=by rfl):EvA X [a,b] δ [d,d']:=ea_cons h (ea_cons h' ea_nil hs2) hs
theorem ea3 {d d' d'':D}(h:Ev X a δ d)(h':Ev X b δ d')(h'':Ev X c δ d'')(hs:starEach [a,b,c] X.env=(false,eval a X.env)::starEach [b,c] X.env:=by rfl)(hs2:starEach [b,c] X.env=(false,eval b X.env)::starEach [c] X.env:=by rfl)(hs3:starEach [c] X.env = [(false,eval c X.env)]:=by rfl):EvA X [a,b,c] δ [d,d',d'']:=ea_cons h (ea2 h' h'' hs2 hs3) hs
theorem ea4 {c':Expr}{d d' d'' d3:D}(h:Ev X a δ d)(h':Ev X b δ d')(h'':Ev X c δ d'')(h3:Ev X c' δ d3)(hs:starEach [a,b,c,c'] X.env=(false,eval a X.env)::starEach [b,c,c'] X.env:=by rfl)(hs2:starEach [b,c,c'] X.env=(false,eval b X.env)::starEach [c,c'] X.env:=by rfl)(hs3:starEach [c,c'] X.env=(false,eval c X.env)::starEach [c'] X.env:=by rfl)(hs4:starEach [c'] X.env = [(false,eval c' X.env)]:=by rfl):EvA X [a,b,c,c'] δ [d,d',d'',d3]:=ea_cons h (ea3 h' h'' h3 hs2 hs3 hs4) hs
theorem ev_tup {es:List Expr}{x1}{ds:List D}(h:EvA X es δ ds)(hz:ds.length≤1000:=by decide):Ev X (.Tuple es x1 pos) δ (.tup ds):=fun σ H L Q l e q=>by
  refine we_of (pe_tup pa_wa) (h σ H L _ l e fun vs H1 s1 r1=>⟨?_,fun p hp=>?_⟩)
  · rw [← r1.length]; exact Nat.le_of_lt (small1000 hz)
  · exact q _ _ (s1.trans (same_upd hp)) (rep_tup.mpr ⟨p,vs,rfl,.of ((l.same s1).fresh hp) upd_same,r1.same (same_upd hp)⟩)
theorem ev_lst {es:List Expr}{ds:List D}(h:EvA X es δ ds)(hz:ds.length≤1000:=by decide):Ev X (.List es pos) δ (.lst ds):=fun σ H L Q l e q=>by
  refine we_of (pe_lst pa_wa) (h σ H L _ l e fun vs H1 s1 r1=>⟨?_,fun p hp=>?_⟩)
  · rw [← r1.length]; exact Nat.le_of_lt (small1000 hz)
  · exact q _ _ (s1.trans (same_upd hp)) (rep_lst.mpr ⟨p,vs,rfl,.of ((l.same s1).fresh hp) upd_same,r1.same (same_upd hp)⟩)
theorem ev_ixL {ds:List D}{i:Int}{d:D}(ha:Ev X a δ (.lst ds))(hb:Ev X b δ (.int i))(hi:atI ds i=some d)(hs:PlainIx b:=by exact fun _ _=>rfl):Ev X (.Subscript a b pos) δ d:=fun σ H L Q l e k=>by
  refine we_of (pe_ix ix_list pe_we pe_we hs) ?_
  refine ha σ H L _ l e fun x H1 s1 r1=>?_
  refine hb σ H1 L _ (l.same s1) (e.same s1) fun y H2 s2 r2=>?_
  obtain ⟨p,vs,rfl,hq,hr⟩:=rep_lst.mp (r1.same s2)
  rw [rep_int] at r2
  subst r2
  unfold atI at hi
  cases ej:ixN ds.length i with
  | none=>rw [ej] at hi; cases hi
  | some j =>
    rw [ej] at hi
    obtain ⟨v,h1,h2⟩:=hr.get (i:=j) hi
    exact ⟨p,vs,i,v,rfl,rfl,hq.sq,by unfold atI; rw [← hr.length,ej]; exact h1,k v H2 (s1.trans s2) h2⟩
theorem ev_ixT {ds:List D}{i:Int}{d:D}(ha:Ev X a δ (.tup ds))(hb:Ev X b δ (.int i))(hi:atI ds i=some d)(hs:PlainIx b:=by exact fun _ _=>rfl):Ev X (.Subscript a b pos) δ d:=fun σ H L Q l e k=>by
  refine we_of (pe_ix ix_tup pe_we pe_we hs) ?_
  refine ha σ H L _ l e fun x H1 s1 r1=>?_
  refine hb σ H1 L _ (l.same s1) (e.same s1) fun y H2 s2 r2=>?_
  obtain ⟨p,vs,rfl,hq,hr⟩:=rep_tup.mp (r1.same s2)
  rw [rep_int] at r2
  subst r2
  unfold atI at hi
  cases ej:ixN ds.length i with
  | none=>rw [ej] at hi; cases hi
  | some j =>
    rw [ej] at hi
    obtain ⟨v,h1,h2⟩:=hr.get (i:=j) hi
    exact ⟨p,vs,i,v,rfl,rfl,hq.sq,by unfold atI; rw [← hr.length,ej]; exact h1,k v H2 (s1.trans s2) h2⟩
end
end DL
namespace DL
open PySem PySem.Spec PyProof.Rows L2
theorem lookup_mapk (g:Str→NameKind→NameKind):∀ (l:List (Str×NameKind)) (y:Str),(l.map fun p=>(p.1,g p.1 p.2)).lookup y=(l.lookup y).map (g y)
  | [],_=>rfl
  | (n,k)::r,y=>by
    rw [List.map_cons,List.lookup_cons,List.lookup_cons]
    cases e:y == n with
    | true =>
      have:y=n:=eq_of_beq e
      subst this
      rfl
    | false=>exact lookup_mapk g r y
def reK (env:Env)(n:Str)(k:NameKind):NameKind:=if (k == .free && env.scope.kind == .function && env.kindOf n == some .cell)=true then .cell else k
theorem relabel_names (scope:Scope)(env:Env):(relabel scope env).names=scope.names.map fun p=>(p.1,reK env p.1 p.2):=by
  unfold relabel
  show scope.names.map _=scope.names.map _
  congr 1
  funext p
  obtain ⟨n,k⟩:=p
  show (if _=true then (n,NameKind.cell) else (n,k))=(n,if _=true then NameKind.cell else k)
  split <;> rfl
theorem relabel_look (scope:Scope)(env:Env)(y:Str):(relabel scope env).names.lookup y=(scope.names.lookup y).map (reK env y):=by
  rw [relabel_names,lookup_mapk]
theorem reK_free {env:Env}{y:Str}:reK env y .free = .cell∨reK env y .free = .free:=by
  unfold reK
  split
  · exact .inl rfl
  · exact .inr rfl
theorem closure_of {env:Env}{body:Str×NameKind→List (Str×Addr)→Sem (ForInStep (List (Str×Addr)))}(hb:∀n k cs c,env.cells.lookup n=some c→k = .free→body (n,k) cs=pure (.yield ((n,c)::cs)))(hb':∀n k cs,k ≠ .free→body (n,k) cs=pure (.yield cs)) :
    ∀ (names:List (Str×NameKind)) (cs:List (Str×Addr)),(∀y∈names,y.2 = .free→∃c,env.cells.lookup y.1=some c)→(∀y c,cs.lookup y=some c→env.cells.lookup y=some c) →
      ∃cl,forIn names cs body=pure cl∧(∀y c,cl.lookup y=some c→env.cells.lookup y=some c)∧(∀y c,cs.lookup y=some c→cl.lookup y=some c)∧(∀y,(y,NameKind.free)∈names→∃c,cl.lookup y=some c)
  | [],cs,_,h2=>⟨cs,by rw [List.forIn_nil],h2,fun _ _ h=>h,fun _ h=>absurd h (by simp)⟩
  | (n,k)::r,cs,h1,h2=>by
    by_cases hk:k = .free
    · obtain ⟨c,hc⟩:=h1 (n,k) List.mem_cons_self hk
      obtain ⟨cl,e1,e2,e3,e4⟩:=closure_of hb hb' r ((n,c)::cs) (fun y hy=>h1 y (List.mem_cons_of_mem _ hy)) (fun y c' e=>by
        rw [List.lookup_cons] at e
        cases q:y == n with
        | true =>
          rw [q] at e
          rw [eq_of_beq q]
          exact hc.trans e
        | false=>rw [q] at e; exact h2 y c' e)
      refine ⟨cl,by rw [List.forIn_cons,hb n k cs c hc hk,pure_bind]; exact e1,e2,fun y c' e=>?_,fun y hy=>?_⟩
      · cases q:y == n with
        | true =>
          have q':=eq_of_beq q
          subst q'
          have:=h2 y c' e
          rw [hc] at this; cases this
          exact e3 y c (by rw [List.lookup_cons,q])
        | false=>exact e3 y c' (by rw [List.lookup_cons,q]; exact e)
      · rcases List.mem_cons.mp hy with z | z
        · cases z
          exact ⟨c,e3 _ c (by rw [List.lookup_cons,beq_self_eq_true])⟩
        · exact e4 y z
    · obtain ⟨cl,e1,e2,e3,e4⟩:=closure_of hb hb' r cs (fun y hy=>h1 y (List.mem_cons_of_mem _ hy)) h2
      refine ⟨cl,by rw [List.forIn_cons,hb' n k cs hk,pure_bind]; exact e1,e2,e3,fun y hy=>?_⟩
      rcases List.mem_cons.mp hy with z | z
      · cases z; exact absurd rfl hk
      · exact e4 y z
theorem closureFor_of {scope:Scope}{env:Env}(h:∀y∈scope.names,y.2 = .free→∃c,env.cells.lookup y.1=some c) :
    ∃cl,closureFor scope env=pure cl∧(∀y c,cl.lookup y=some c→env.cells.lookup y=some c)∧(∀y,(y,NameKind.free)∈scope.names→∃c,cl.lookup y=some c):=by
  unfold closureFor
  obtain ⟨cl,e1,e2,_,e4⟩:=closure_of (env:=env) (body:=fun (name,kind) cs=>do
      if (kind == NameKind.free)=true then do
        let a ← cellOf env name
        pure (ForInStep.yield ((name,a)::cs))
      else pure (ForInStep.yield cs)) (fun n k cs c hc hk=>by
        subst hk
        show (if (NameKind.free == NameKind.free)=true then _ else _)=_
        rw [if_pos (show (NameKind.free == NameKind.free)=true from rfl)]
        unfold cellOf
        rw [hc,pure_bind]) (fun n k cs hk=>by
        show (if (k == NameKind.free)=true then _ else _)=_
        rw [if_neg (by intro z; exact hk (eq_of_beq z))]) scope.names [] h (fun _ _ e=>by cases e)
  refine ⟨cl,?_,e2,e4⟩
  have:=e1
  simp only [] at this ⊢
  first
    | exact this
    | (rw [this]; rfl)
    | (rw [show (forIn scope.names [] _:Sem (List (Str×Addr)))=pure cl from this,pure_bind])
def cxComp (X:Cx)(scope:Scope)(N':List Str)(cl:List (Str×Addr))(C:Addr)(s₀:Shared)(H₀:Hp)(fp:List Addr):Cx where
  prog:=X.prog
  w:=X.w
  K:=X.K
  mg:=X.mg
  base:=X.base
  A:=X.A
  N:=N'
  s₀:=s₀
  H₀:=H₀
  env:=compEnvC scope cl C X.env
  outer:=X.stack
  stack:=X.stack
  ex:=fp
  fn:=fun _=>false
  calm:=X.calm
  pn:=[]
  xe:=fun _ _=>False
theorem comp_loop {prog:Program}{w:World}{A:Around}{R:Result→Shared→Prop}{s:Shared}{elt target iter:Expr}{ifs:List Expr}{scope:Scope}{pos:Pos}{it acc:Value}{env:Env}(I:Nat→Shared→Prop)(turn:∀n s,I n s→wpAny (model prog w) A (pyNext it) (fun r s₁=>match r with
      | none=>R (.ok .next) s₁
      | some v=>wpAny (model prog w) A (letOwnedTupleGo target it v) (fun _ s₁=>wpAny (model prog w) A (assign target env v) (fun _ s₂ =>
          wpAny (model prog w) A (forIn ifs true fun c r=>if r=true then do let ok ← isTrue c env (eval c env); pure (ForInStep.yield ok) else pure (ForInStep.yield r)) (fun ok s₃ =>
            if ok=true then wpAny (model prog w) A (eval elt env) (fun x s₄ =>
              wpAny (model prog w) A (call (.builtin "list.append") [acc,x]) (fun _ s₅=>∃m,m < n∧I m s₅) (fun _ _=>False) s₄) (fun _ _=>False) s₃
            else ∃m,m < n∧I m s₃) (fun _ _=>False) s₂) (fun _ _=>False) s₁) (fun _ _=>False) s₁) (fun _ _=>False) s)(n:Nat)(h:I n s):codeAny (model prog w) A (.compLoop (.ListComp elt [⟨target,iter,ifs,0⟩] scope pos) 0 it acc env) R s:=by
  refine codeAny_loop rfl I (fun n s hI=>?_) n h
  show wpAny _ A ((compTurn (.ListComp elt [⟨target,iter,ifs,0⟩] scope pos) 0 it acc env).onRaise (fun x=>do noteFrame x env; theTreesLotGoes x)) _ _ s
  refine wpAny_noted ?_
  rw [compTurn_list]
  refine wpAny_bind (wpAny_standAt (wpAny_bind (wpAny_mono (turn n s hI) (fun r s₁ h₁=>?_) fun _ _ h'=>h'.elim)))
  cases r with
  | none=>exact wpAny_pure h₁
  | some v =>
    refine wpAny_bind (wpAny_mono h₁ (fun _ s₁' h₁=>?_) fun _ _ h'=>h'.elim)
    refine wpAny_bind (wpAny_mono h₁ (fun _ s₂ h₂=>wpAny_bind (wpAny_mono h₂ (fun ok s₃ h₃=>?_) fun _ _ h'=>h'.elim)) fun _ _ h'=>h'.elim)
    cases ok with
    | false=>exact wpAny_pure ⟨rfl,h₃⟩
    | true =>
      exact wpAny_bind (wpAny_bind (wpAny_mono h₃ (fun x s₄ h₄=>wpAny_bind (wpAny_mono h₄ (fun _ s₅ h₅=>wpAny_pure (wpAny_pure ⟨rfl,h₅⟩)) fun _ _ h'=>h'.elim)) fun _ _ h'=>h'.elim))
theorem HOk.track {P:Program}{w:World}{H:Hp}{h h':Heap}{a:Addr}{o:HO}(x:HOk P w H h)(k:∀b u,H b ≠ none→h.get? b=some u→h'.get? b=some u)(hn:H a=none)(new:ObjOk P w (upd H a o) h' a o):HOk P w (upd H a o) h':=fun b u e=>by
  by_cases hb:b=a
  · subst hb; rw [upd_same] at e; cases e; exact new
  · rw [upd_ne hb] at e
    refine (x b u e).stay (fun c v hc q=>k c v ?_ q) (fun c q=>by rw [upd_ne (ne_of_none q hn)]; exact q) fun c xs q=>by rw [upd_ne (ne_of_none q hn)]; exact q
    rcases hc with rfl | hc
    · rw [e]; exact fun z=>nomatch z
    · rw [hc]; exact fun z=>nomatch z
structure CompOk (X:Cx)(scope:Scope)(x:Str)(N₁:List Str):Prop where
  calm:X.calm=true
  kind:scope.kind = .function
  cell:∀y∈scope.names,y.2 ≠ .cell
  names:∀y∈scope.names,y.2 = .local→scope.names.lookup y.1=some .local
  loc:scope.names.lookup x=some .local
  free:∀y∈scope.names,y.2 = .free→X.env.kindOf y.1=some .cell∨X.env.kindOf y.1=some .free
  noloc:∀y∈N₁,scope.names.lookup y ≠ some .local
  nd:(x::N₁).Nodup
section
variable {X:Cx}{elt iter:Expr}{x:Str}{px:Pos}{ifs:List Expr}{scope:Scope}{pos:Pos}{N₁:List Str}
theorem comp_inv {pins:List (Addr×Obj)}{σ σ₁:St}{H:Hp}{s s4:Shared}{C:Addr}{fp:List Addr}{cl:List (Str×Addr)}{m:Str→Option Value}(O:CompOk X scope x N₁)(I:Inv X pins σ H s)(hf:∀b∈fp,FpOk X pins H b)(hl1:σ₁.length=N₁.length)(hσ:∀ (i:Nat) (y:Str) (v:V),N₁[i]? = some y→σ₁[i]? = some (some v)→X.N[i]? = some y∧σ[i]? = some (some v))(c1:∀y c,cl.lookup y=some c→X.env.cells.lookup y=some c)(c2:∀y,(y,NameKind.free)∈scope.names→∃c,cl.lookup y=some c)(hC:s.heap.objs.size≤C)(hfp:∀b∈fp,b < s.heap.objs.size)(hn:s4.heap.Ns C m)(hk:∀b o,s.heap.get? b=some o→s4.heap.get? b=some o)(hs:s4.os=s.os∧s4.gens=s.gens) :
    Inv (cxComp X scope (x::N₁) cl C s H fp) (X.pn++pins) (none::σ₁) H s4:=by
  have neC:∀b,b < s.heap.objs.size→b ≠ C:=fun b hb=>Nat.ne_of_lt (Nat.lt_of_lt_of_le hb hC)
  have cellLt:∀y c,cl.lookup y=some c→c < s.heap.objs.size:=fun y c e=>by
    obtain ⟨v,o,ho,_⟩:=I.cell y c (c1 y c e)
    exact Heap.lt_size ho
  have stkIn:∀b,b∈frs X.stack→b=X.env.locals∨b∈X.fs:=fun b hb=>List.mem_cons.mp (I.stkSub b hb)
  refine ⟨⟨I.ok.mod,O.kind,I.ok.glob,I.ok.blt,hC,fun y z c e1 e2=>I.ok.inj y z c (c1 y c e1) (c1 z c e2),fun y hy=>?_,fun y c hy _=>absurd hy (by simp [cxComp]),I.ok.hd,I.ok.frames,.inl rfl,fun b hb=>⟨neC b (hfp b hb),fun y c e=>(hf b hb).2.2.2.2.1 y c (c1 y c e)⟩,
    I.bs,Nat.le_trans I.ok.bsz I.sz,fun b o e hb=>?_,fun b hb hb'=>?_,I.stack,I.stkFree⟩,hs.1,by rw [hs.2]; exact I.bare,Un.kept hk,⟨m,hn,fun i y v e1 e2 e3=>?_⟩,fun y c e=>?_,I.hok.fresh hC,fun y c e=>I.freeC y c (c1 y c e),fun p hp=>?_,I.hok.kept hk,?_⟩
  · have hy':(relabel scope X.env).names.lookup y=some .cell∨(relabel scope X.env).names.lookup y=some .free:=hy
    rw [relabel_look] at hy'
    have fr:scope.names.lookup y=some .free:=by
      cases q:scope.names.lookup y with
      | none=>rw [q] at hy'; rcases hy' with z | z <;> cases z
      | some k =>
        rw [q] at hy'
        cases k with
        | free=>rfl
        | cell=>exact absurd rfl (O.cell _ (PySem.mem_of_lookup q))
        | _=>rcases hy' with z | z <;> (simp [reK] at z)
    exact c2 y (PySem.mem_of_lookup fr)
  · rcases (hf b hb).2.2.2.1 with z | z
    · exact I.ok.noex b o e z
    · exact absurd (Nat.lt_of_lt_of_le (Heap.lt_size e) (Nat.le_trans I.ok.bsz z)) (Nat.lt_irrefl _)
  · rcases stkIn b hb' with z | z
    · exact (hf b hb).2.1 z
    · exact (hf b hb).2.2.1 z
  · cases i with
    | zero=>simp at e2
    | succ i =>
      have e1':N₁[i]? = some y:=by simpa [cxComp] using e1
      have e2':σ₁[i]? = some (some v):=by simpa using e2
      obtain ⟨h1,h2⟩:=hσ i y v e1' e2'
      have e3':(relabel scope X.env).names.lookup y=some .local∨(relabel scope X.env).names.lookup y=some .cell∨(relabel scope X.env).names.lookup y=some .free:=e3
      rw [relabel_look] at e3'
      have fr:scope.names.lookup y=some .free:=by
        cases q:scope.names.lookup y with
        | none=>rw [q] at e3'; rcases e3' with z | z | z <;> cases z
        | some k =>
          rw [q] at e3'
          cases k with
          | free=>rfl
          | cell=>exact absurd rfl (O.cell _ (PySem.mem_of_lookup q))
          | «local»=>exact absurd q (O.noloc y (List.mem_of_getElem? e1'))
          | _=>rcases e3' with z | z | z <;> (simp [reK] at z)
      have kd:=O.free (y,.free) (PySem.mem_of_lookup fr) rfl
      obtain ⟨mm,_,hl⟩:=I.loc
      have vis:Vis X.env.scope y:=by
        rcases kd with z | z
        · exact .inr (.inl z)
        · exact .inr (.inr z)
      obtain ⟨u,r,l⟩:=hl i y v h1 h2 vis
      refine ⟨u,r,.inr ⟨?_,?_⟩⟩
      · show (relabel scope X.env).names.lookup y=some .cell∨(relabel scope X.env).names.lookup y=some .free
        rw [relabel_look,fr]
        rcases reK_free (env:=X.env) (y:=y) with z | z
        · exact .inl (congrArg some z)
        · exact .inr (congrArg some z)
      · rcases l with ⟨k1,_⟩ | ⟨_,c,ec,hcell⟩
        · rcases kd with z | z <;> (rw [z] at k1; cases k1)
        · obtain ⟨c',ec'⟩:=c2 y (PySem.mem_of_lookup fr)
          have:=c1 y c' ec'
          rw [ec] at this; cases this
          obtain ⟨o,ho,hd⟩:=hcell
          exact ⟨c,ec',o,hk _ _ ho,hd⟩
  · obtain ⟨v,o,ho,hd⟩:=I.cell y c (c1 y c e)
    exact ⟨v,o,hk _ _ ho,hd⟩
  · have hp':p∈X.pn++pins:=by simpa [cxComp] using hp
    obtain ⟨e,n,ne,nf,d⟩:=I.pin p hp'
    refine ⟨hk _ _ e,n,neC _ (Heap.lt_size e),fun z=>?_,d⟩
    rcases stkIn p.1 z with z | z
    · exact ne z
    · exact nf z
  · show (none::σ₁).length=(x::N₁).length
    rw [List.length_cons,List.length_cons,hl1]
def testsS (ifs:List Expr)(env:Env):Sem Bool:=forIn ifs true fun c r=>if r=true then do let ok ← isTrue c env (eval c env); pure (ForInStep.yield ok) else pure (ForInStep.yield r)
def WTs (X:Cx)(ifs:List Expr):TT:=fun σ H Q=>∀pins s,Inv X pins σ H s→wpAny (model X.prog X.w) X.A (testsS ifs X.env) (TP X pins σ Q) X.xe s
theorem wts_nil {X:Cx}{σ:St}{H:Hp}{Q:Bool→Hp→Prop}(h:Q true H):WTs X [] σ H Q:=fun pins s I=>wpAny_tests_nil ⟨H,I,h⟩
theorem wts_one {X:Cx}{c:Expr}{σ:St}{H:Hp}{Q:Bool→Hp→Prop}(h:WT X c σ H Q):WTs X [c] σ H Q:=fun pins s I=>wpAny_tests_one (h pins s I)
theorem comp_end {pins P:List (Addr×Obj)}{σ σ':St}{H H3:Hp}{s s4:Shared}{D C:Addr}{fp:List Addr}{cl:List (Str×Addr)}{ys:List V}{its:List Value}{k:Nat}{h':Heap}(I:Inv X pins σ H s)(hf:∀b∈fp,FpOk X pins H b)(hD:s.heap.objs.size≤D)(hDC:D ≠ C)(hC:s.heap.objs.size≤C)(J:Inv (cxComp X scope (x::N₁) cl C s H fp) P σ' H3 s4)(hD3:H3 D=none)(ho:s4.heap.get? D=some { cls:=.type "list",data:=.seq its.toArray k })(r:Vals ys its)(hz:ys.length≤sizeLine)(hs:Heap.SameBut C s4.heap h'):Inv X pins σ (upd H3 D (.lst ys)) { s4 with heap:=h' }:=by
  have neC:∀b,b < s.heap.objs.size→b ≠ C:=fun b hb=>Nat.ne_of_lt (Nat.lt_of_lt_of_le hb hC)
  have neD:∀b,b < s.heap.objs.size→b ≠ D:=fun b hb=>Nat.ne_of_lt (Nat.lt_of_lt_of_le hb hD)
  have u:Un (frs X.stack) fp H H3 s.heap s4.heap:=J.base
  have hD0:H D=none:=I.hok.fresh hD
  have hC3:H3 C=none:=J.free
  refine I.call' (s':={ s4 with heap:=h' }) (ch:=fp) J.os ⟨fun b o e n h1 h2=>?_,fun b o e n h1 h2=>?_,fun b o e n h2=>?_,fun b o e h2=>?_,fun b xs e=>?_,fun b o v e=>?_,fun b ps e=>?_⟩ ?_ J.bare fun b hb=>⟨(hf b hb).2.2.2.1,(hf b hb).2.1,(hf b hb).2.2.2.2.1,(hf b hb).2.2.2.2.2⟩
  · exact (hs.2 b (neC b (Heap.lt_size e))).trans (u.keep b o e n h1 h2)
  · obtain ⟨sl,q⟩:=u.slot b o e n h1 h2
    exact ⟨sl,(hs.2 b (neC b (Heap.lt_size e))).trans q⟩
  · rw [upd_ne (neD b (Heap.lt_size e))]; exact u.free b o e n h2
  · obtain ⟨o',q⟩:=u.there b o e h2
    exact ⟨o',(hs.2 b (neC b (Heap.lt_size e))).trans q⟩
  · rw [upd_ne (ne_of_none e hD0)]; exact u.tups b xs e
  · rw [upd_ne (ne_of_none e hD0)]; exact u.frzs b o v e
  · rw [upd_ne (ne_of_none e hD0)]; exact u.tbls b ps e
  · refine HOk.track J.hok (fun b v hb e=>(hs.2 b ?_).trans e) hD3 ⟨hz,its,k,r,(hs.2 D hDC).trans ho⟩
    rintro rfl
    exact hb hC3
structure CEnd (X:Cx)(pins:List (Addr×Obj))(σ:St)(D C:Addr)(ys:List V)(H3:Hp)(s4:Shared):Prop where
  inv:∀h',Heap.SameBut C s4.heap h'→Inv X pins σ (upd H3 D (.lst ys)) { s4 with heap:=h' }
  freeD:H3 D=none
  ns:∃m,s4.heap.Ns C m
  freeC:H3 C=none
  ne:D ≠ C
  neL:C ≠ X.env.locals
  up:X.s₀.heap.objs.size≤C
  cells:∀y c,X.env.cells.lookup y=some c→c ≠ C
  pins:∀p∈X.pn++pins,p.1 ≠ C
def CompW (X:Cx)(scope:Scope)(x:Str)(N₁:List Str)(elt:Expr)(ifs:List Expr)(σ₁:St)(Q:VK):It→Hp→Prop:=fun J H1=>∃W:Nat→Nat→List V→Hp→Prop,(∃m,W 0 m [] H1) ∧ ∀i m ys H2,W i m ys H2→(J.stop i H2∧ys.length≤sizeLine ∧ ∀p,H2 p=none→Q (.ref p) (upd H2 p (.lst ys))) ∨
      (J.go i H2∧ys.length < sizeLine ∧ ∀v H3,J.yld i H2 v H3→∀cl C s₀ H₀ fp,WTs (cxComp X scope (x::N₁) cl C s₀ H₀ fp) ifs (some v::σ₁) H3 fun ok H4 =>
        if ok=true then WE (cxComp X scope (x::N₁) cl C s₀ H₀ fp) elt (some v::σ₁) H4 fun y H5=>∃m',m' < m∧W (i+1) m' (ys ++ [y]) H5 else ∃m',m' < m∧W (i+1) m' ys H4)
theorem comp_block {pins:List (Addr×Obj)}{σ σ₁:St}{H2:Hp}{s2:Shared}{cl:List (Str×Addr)}{it:Addr}{fp:List Addr}{tn:Nat→Heap→Prop}{J:It}{Q:VK}{RR:Value→Addr→Result→Shared→Prop}(O:CompOk X scope x N₁)(hl1:σ₁.length=N₁.length)(hσ:∀ (i:Nat) (y:Str) (v:V),N₁[i]? = some y→σ₁[i]? = some (some v)→X.N[i]? = some y∧σ[i]? = some (some v))(c1:∀y c,cl.lookup y=some c→X.env.cells.lookup y=some c)(c2:∀y,(y,NameKind.free)∈scope.names→∃c,cl.lookup y=some c)(I2:Inv X pins σ H2 s2)(T:Turn X.prog X.w X.K (.Name x px) J fp it tn)(st2:tn 0 s2.heap)(f2:∀b∈fp,FpOk X pins H2 b)(h:CompW X scope x N₁ elt ifs σ₁ Q J H2)(hRR:∀D C ys H3 s4,CEnd X pins σ D C ys H3 s4→Q (.ref D) (upd H3 D (.lst ys))→RR (.ref D) C (.ok .next) s4){E:Value→Shared→Prop} :
    wpAny (model X.prog X.w) X.A (newList []) (fun acc s₃=>wpAny (model X.prog X.w) X.A (newFunctionEnv scope X.env.globals cl [] X.env.qual none .none (some X.env)) (fun cenv s₄ =>
      codeAny (model X.prog X.w) X.A (.compStart (.ListComp elt [⟨.Name x px,iter,ifs,0⟩] scope pos) 0 (.ref it) acc { cenv with scope:=relabel scope X.env }) (RR acc cenv.locals) s₄) E s₃) E s2:=by
  obtain ⟨W,⟨m0,w0⟩,turn⟩:=h
  refine wpAny_newObj_type (wpAny_newFunctionEnv O.cell (by intro y hy; simp at hy) (fun h₁ hns₁ hsb₁=>?_) O.kind)
  dsimp only at hns₁ hsb₁ ⊢
  generalize hG:s2.heap.push { cls:=.type "list",dict:=none,data:=.seq ([]:List Value).toArray }=G at hns₁ hsb₁ ⊢
  have hC:G.objs.size=s2.heap.objs.size+1:=by rw [← hG,Heap.size_push]
  have hDC:s2.heap.objs.size ≠ G.objs.size:=by rw [hC]; exact Nat.ne_of_lt (Nat.lt_succ_self _)
  have hCle:s2.heap.objs.size≤G.objs.size:=by rw [hC]; exact Nat.le_succ _
  have below:∀b,b < s2.heap.objs.size→b ≠ G.objs.size∧b ≠ s2.heap.objs.size:=fun b hb=>⟨by rw [hC]; exact Nat.ne_of_lt (Nat.lt_succ_of_lt hb),Nat.ne_of_lt hb⟩
  have old:∀b o,s2.heap.get? b=some o→h₁.get? b=some o:=fun b o e=>hsb₁.extBut b o (below b (Heap.lt_size e)).1 (Heap.get?_push_of_some _ (hG ▸ Heap.get?_push_of_some _ e))
  have hacc:h₁.get? s2.heap.objs.size=some { cls:=.type "list",data:=.seq ([]:List Value).toArray 0 }:=hsb₁.extBut _ _ hDC (Heap.get?_push_of_some _ (hG ▸ Heap.get?_push_size _ rfl))
  have hfp:∀b∈fp,b < s2.heap.objs.size:=fun b hb=>by
    obtain ⟨o,e,_⟩:=T.obj 0 _ st2 b hb
    exact Heap.lt_size e
  have I4:Inv (cxComp X scope (x::N₁) cl G.objs.size s2 H2 fp) (X.pn++pins) (none::σ₁) H2 { s2 with heap:=h₁,toks:=s2.toks+([]:List (Str×Value)).length }:=
    comp_inv O I2 f2 hl1 hσ c1 c2 hCle hfp hns₁ old ⟨rfl,rfl⟩
  have st4:tn 0 h₁:=T.keep 0 _ _ st2 fun b hb o e=>old b o e
  have cellLt:∀y c,cl.lookup y=some c→c < s2.heap.objs.size:=fun y c e=>by
    obtain ⟨v,o,ho,_⟩:=I2.cell y c (c1 y c e)
    exact Heap.lt_size ho
  have hDc:∀y c,cl.lookup y=some c→c ≠ s2.heap.objs.size:=fun y c e=>Nat.ne_of_lt (cellLt y c e)
  have hDfs:s2.heap.objs.size ∉ frs X.stack:=fun hb=>by
    rcases List.mem_cons.mp (I2.stkSub _ hb) with z | z
    · exact absurd I2.lt (by rw [z]; exact Nat.lt_irrefl _)
    · exact I2.nofs (Nat.le_refl _) z
  have stat:∀ {P:List (Addr×Obj)}{H':Hp},(∀b∈fp,H' b=none)→(∀p∈P,p.1 ∉ fp)→∀b∈fp,FpOk (cxComp X scope (x::N₁) cl G.objs.size s2 H2 fp) P H' b:=fun {P H'} hn hP b hb =>
    ⟨hn b hb,(below b (hfp b hb)).1,fun z=>by
      rcases List.mem_cons.mp (I2.stkSub b z) with z | z
      · exact (f2 b hb).2.1 z
      · exact (f2 b hb).2.2.1 z,.inl hb,fun y c e=>(f2 b hb).2.2.2.2.1 y c (c1 y c e),fun p hp z=>hP p (by simpa [cxComp] using hp) (by rw [z]; exact hb)⟩
  have pns:∀p∈X.pn++pins,p.1 ∉ fp:=fun p hp z=>(f2 p.1 z).2.2.2.2.2 p hp rfl
  have pnD:∀p∈X.pn++pins,p.1 ≠ s2.heap.objs.size:=fun p hp=>Nat.ne_of_lt (Heap.lt_size (I2.pin p hp).1)
  have loop:∀s₃:Shared,s₃ = { s2 with heap:=h₁,toks:=s2.toks+([]:List (Str×Value)).length } →
      codeAny (model X.prog X.w) X.A (.compLoop (.ListComp elt [⟨.Name x px,iter,ifs,0⟩] scope pos) 0 (.ref it) (.ref s2.heap.objs.size) (compEnvC scope cl G.objs.size X.env))
        (RR (.ref s2.heap.objs.size) G.objs.size) s₃:=by
    rintro s₃ rfl
    refine comp_loop (fun n s'=>∃i ys its k ov H3,Inv (cxComp X scope (x::N₁) cl G.objs.size s2 H2 fp) (X.pn++pins) (ov::σ₁) H3 s'∧tn i s'.heap∧(∀b∈fp,H3 b=none)∧H3 s2.heap.objs.size=none ∧
      s'.heap.get? s2.heap.objs.size=some { cls:=.type "list",data:=.seq its.toArray k }∧Vals ys its∧W i n ys H3) ?_ m0 ⟨0,[],[],0,none,H2,I4,st4,fun b hb=>(f2 b hb).1,I2.hok.fresh (Nat.le_refl _),hacc,.nil,w0⟩
    rintro n s3 ⟨i,ys,its,k,ov,H3,I3,st3,fr3,hD3,ho3,rv,w3⟩
    have pinD:∀ {P:List (Addr×Obj)}{σ':St}{H':Hp}{s':Shared}{its':List Value}{k':Nat},Inv (cxComp X scope (x::N₁) cl G.objs.size s2 H2 fp) P σ' H' s'→H' s2.heap.objs.size=none →
        s'.heap.get? s2.heap.objs.size=some { cls:=.type "list",data:=.seq its'.toArray k' }→Inv (cxComp X scope (x::N₁) cl G.objs.size s2 H2 fp) (P ++ [(s2.heap.objs.size,{ cls:=.type "list",data:=.seq its'.toArray k' })]) σ' H' s':=fun {P σ' H' s' its' k'} J' hn' ho' =>
      J'.pins_of fun p hp=>(List.mem_append.mp hp).elim (fun z=>J'.pin p (List.mem_append_right _ z)) fun z=>by
        rw [List.mem_singleton.mp z]
        exact ⟨ho',hn',hDC,hDfs,fun v q=>by cases q⟩
    rcases turn i n ys H3 w3 with ⟨stop,hz,fin⟩ | ⟨go,hz,step⟩
    · have I3':=pinD I3 hD3 ho3
      refine thn (T.done (cxComp X scope (x::N₁) cl G.objs.size s2 H2 fp) rfl rfl rfl O.calm i _ s3 _ H3 (fun _ _=>False) I3' (stat fr3 fun p hp=>(List.mem_append.mp hp).elim (pns p) fun z=>by
        rw [List.mem_singleton.mp z]; exact fun q=>Nat.lt_irrefl _ (hfp _ q)) st3 stop) fun r s4 ⟨hr,I4'⟩=>?_
      subst hr
      obtain ⟨mm,hmm,_⟩:=I4'.loc
      have hpD:=(I4'.pin (s2.heap.objs.size,{ cls:=.type "list",data:=.seq its.toArray k }) (List.mem_append_right _ (List.mem_append_right _ (List.mem_singleton.mpr rfl)))).1
      exact hRR s2.heap.objs.size G.objs.size ys H3 s4 ⟨fun h' hs'=>comp_end I2 f2 (Nat.le_refl _) hDC hCle I4' hD3 hpD rv hz hs',hD3,⟨mm,hmm⟩,I4'.free,hDC,Nat.ne_of_gt (Nat.lt_of_lt_of_le I2.lt hCle),Nat.le_trans I2.sz hCle,
        fun y c e=>by
          obtain ⟨v,o,ho,_⟩:=I2.cell y c e
          exact (below c (Heap.lt_size ho)).1,fun p hp=>(below p.1 (Heap.lt_size (I2.pin p hp).1)).1⟩ (fin _ hD3)
    · have I3':=pinD I3 hD3 ho3
      have pP:∀p∈(X.pn++pins) ++ [(s2.heap.objs.size,({ cls:=.type "list",data:=.seq its.toArray k }:Obj))],p.1 ∉ fp:=fun p hp=>(List.mem_append.mp hp).elim (pns p) fun z=>by
        rw [List.mem_singleton.mp z]; exact fun q=>Nat.lt_irrefl _ (hfp _ q)
      refine thn (T.item (cxComp X scope (x::N₁) cl G.objs.size s2 H2 fp) rfl rfl rfl O.calm i _ s3 _ H3 (fun _ _=>False) I3' (stat fr3 pP) st3 go) fun r s4 ⟨u,hr,h4⟩=>?_
      subst hr
      refine thn h4 fun _ s5 ⟨v,H5,I5,r5,y5,st5,fr5⟩=>?_
      have I5':=I5.pinned (stat fr5 pP) (T.obj _ _ st5)
      refine thn ((pg_name (X:=cxComp X scope (x::N₁) cl G.objs.size s2 H2 fp) (i:=0) (x:=x) O.nd rfl (.inl (by show (relabel scope X.env).names.lookup x=_; exact lookup_relabel_local O.loc)) (.inr (by show (relabel scope X.env).names.lookup x=_; exact lookup_relabel_local O.loc))) _ s5 _ H5 v u _ I5' r5
        (show gName 0 v (ov::σ₁) H5 (fun σ' H'=>σ'=some v::σ₁∧H'=H5) from ⟨rfl,rfl⟩)) fun _ s6 ⟨σ6,H6,I6,e6,e6'⟩=>?_
      subst e6; subst e6'
      refine thn (step v H6 y5 cl G.objs.size s2 H2 fp _ s6 I6) fun ok s7 ⟨H7,I7,q7⟩=>?_
      have back:∀ {H8:Hp}{s8:Shared},Inv (cxComp X scope (x::N₁) cl G.objs.size s2 H2 fp) (((X.pn++pins) ++ [(s2.heap.objs.size,({ cls:=.type "list",data:=.seq its.toArray k }:Obj))])++pinsAt fp s5.heap) (some v::σ₁) H8 s8 →
          tn (i+1) s8.heap∧(∀b∈fp,H8 b=none)∧H8 s2.heap.objs.size=none∧s8.heap.get? s2.heap.objs.size=some { cls:=.type "list",data:=.seq its.toArray k }∧Inv (cxComp X scope (x::N₁) cl G.objs.size s2 H2 fp) (X.pn++pins) (some v::σ₁) H8 s8:=fun {H8 s8} I8=>by
        have pD:=I8.pin (s2.heap.objs.size,{ cls:=.type "list",data:=.seq its.toArray k }) (List.mem_append_right _ (List.mem_append_left _ (List.mem_append_right _ (List.mem_singleton.mpr rfl))))
        refine ⟨T.keep _ _ _ st5 fun b hb o e=>(I8.pin (b,o) (List.mem_append_right _ (List.mem_append_right _ (mem_pinsAt hb e)))).1,fun b hb=>?_,pD.2.1,pD.1,I8.pins_of fun p hp=>I8.pin p (List.mem_append_right _ (List.mem_append_left _ (List.mem_append_left _ hp)))⟩
        obtain ⟨o,e,_⟩:=T.obj _ _ st5 b hb
        exact (I8.pin (b,o) (List.mem_append_right _ (List.mem_append_right _ (mem_pinsAt hb e)))).2.1
      cases ok with
      | false =>
        rw [if_neg Bool.false_ne_true] at q7 ⊢
        obtain ⟨m',hm,w7⟩:=q7
        obtain ⟨a1,a2,a3,a4,a5⟩:=back I7
        exact ⟨m',hm,i+1,ys,its,k,some v,H7,a5,a1,a2,a3,a4,rv,w7⟩
      | true =>
        rw [if_pos rfl] at q7 ⊢
        refine thn (q7 _ s7 I7) fun u8 s8 ⟨y,H8,I8,r8,m',hm,w8⟩=>?_
        obtain ⟨a1,a2,a3,a4,a5⟩:=back I8
        have hlen:=rv.length
        refine call_meets F.slot_list_append ⟨_,a4,rfl⟩ F.entry_list_append (F.args_list_append_2 _ _) (PySem.list_append s2.heap.objs.size its.toArray k u8 (by rw [List.size_toArray]; omega)) ⟨a4,?_⟩
        have q:=PySem.IsL.update a4 (fun b=>b.push u8)
        rw [show its.toArray.push u8=(its ++ [u8]).toArray by simp] at q
        have oth:∀b o,b ≠ s2.heap.objs.size→s8.heap.get? b=some o→(s8.heap.update s2.heap.objs.size (Obj.mapSeq fun b=>b.push u8)).get? b=some o:=fun b o hb e=>(Heap.get?_update_other s8.heap _ (Ne.symm hb)).trans e
        refine ⟨m',hm,i+1,ys ++ [y],its ++ [u8],_,some v,H8,?_,T.keep _ _ _ a1 fun b hb o e=>oth b o (below b (hfp b hb)).2 e,a2,a3,q,rv.append (.cons r8 .nil),w8⟩
        exact a5.turned (t':=s8.toks) (it:=s2.heap.objs.size) (fun b o hb e=>oth b o hb e) a3 hDC (.inr (Nat.le_refl _)) (fun y c e=>hDc y c e) fun p hp=>pnD p (by simpa [cxComp] using hp)
  exact codeAny_compStart_list (loop _ rfl) (T.self X.A 0 _ _ _ st4 (loop _ rfl))
theorem we_comp {wi:TI}(O:CompOk X scope x N₁)(hi:PI X (.Name x px) iter wi){σ σ₁:St}{H:Hp}{Q:VK}(hl1:σ₁.length=N₁.length)(hσ:∀ (i:Nat) (y:Str) (v:V),N₁[i]? = some y→σ₁[i]? = some (some v)→X.N[i]? = some y∧σ[i]? = some (some v))(h:wi σ H (CompW X scope x N₁ elt ifs σ₁ Q))(hs:∀x,foldedSetIterable iter X.env x=pure x:=by intro _; rfl):WE X (.ListComp elt [⟨.Name x px,iter,ifs,0⟩] scope pos) σ H Q:=by
  intro pins s I
  rw [eval_ListComp]
  obtain ⟨cl,hcl,c1,c2⟩:=closureFor_of (scope:=scope) (env:=X.env) (fun y hy hk=>I.ok.has _ (O.free y hy hk))
  refine wpAny_comprehension_free (use:=none) rfl hs hcl O.kind O.names (thn (hi pins s σ H _ I h) fun v s1 h1=>thn h1 fun itv s2 h2=>?_)
  obtain ⟨it,fp,tn,J,H2,e,I2,T,st2,f2,h2⟩:=h2
  subst e
  refine comp_block (RR:=fun acc C=>compPost (model X.prog X.w) X.A X.xe none (EP X pins σ Q) acc C) O hl1 hσ c1 c2 I2 T st2 f2 h2 fun D C ys H3 s4 c q=>?_
  obtain ⟨m,hm⟩:=c.ns
  exact ⟨m,hm,fun h' hs'=>⟨.ref D,_,c.inv h' hs',rfl,q⟩⟩
theorem ps_comp {wi:TI}{y:Str}{py spos:Pos}{j:Nat}(O:CompOk X scope x N₁)(hi:PI X (.Name x px) iter wi)(hN:X.N.Nodup)(hj:X.N[j]? = some y)(hy:X.env.scope.names.lookup y=some .local)(hsw:swapsWith (.ListComp elt [⟨.Name x px,iter,ifs,0⟩] scope pos) (some (.Name y py)) spos.line X.env=pure true)(hs:∀x,foldedSetIterable iter X.env x=pure x:=by intro _; rfl){σ σ₁:St}{H:Hp}{E:Ends}(hl1:σ₁.length=N₁.length)(hσ:∀ (i:Nat) (y:Str) (v:V),N₁[i]? = some y→σ₁[i]? = some (some v)→X.N[i]? = some y∧σ[i]? = some (some v))(h:wi σ H (CompW X scope x N₁ elt ifs σ₁ fun v H'=>E.nx (σ.set j (some v)) H')):WS X (.Assign [.Name y py] (.ListComp elt [⟨.Name x px,iter,ifs,0⟩] scope pos) spos) E σ H:=by
  intro pins s I
  rw [exec_Assign_Name_used _ _ _ _ hsw]
  refine wpAny_bind (wpAny_standAt (wpAny_bind ?_))
  show wpAny _ X.A (do let _ ← comprehension (.ListComp elt [⟨.Name x px,iter,ifs,0⟩] scope pos) scope X.env _ (newList []) false (eval iter X.env) (some (assign (.Name y py) X.env))) _ _ s
  obtain ⟨cl,hcl,c1,c2⟩:=closureFor_of (scope:=scope) (env:=X.env) (fun y hy hk=>I.ok.has _ (O.free y hy hk))
  refine wpAny_bind (wpAny_mono (wpAny_comprehension_free (use:=some (assign (.Name y py) X.env)) (Q:=fun _ s'=>SP X pins E .next s') rfl hs hcl O.kind O.names (thn (hi pins s σ H _ I h) fun v s1 h1=>thn h1 fun itv s2 h2=>?_)) (fun _ s' hq=>wpAny_pure (wpAny_pure hq)) fun _ _ e=>e)
  obtain ⟨it,fp,tn,J,H2,e,I2,T,st2,f2,h2⟩:=h2
  subst e
  refine comp_block (RR:=fun acc C=>compPost (model X.prog X.w) X.A X.xe (some (assign (.Name y py) X.env)) (fun _ s'=>SP X pins E .next s') acc C) O hl1 hσ c1 c2 I2 T st2 f2 h2 fun D C ys H3 s4 c q=>?_
  have I4:Inv X pins σ (upd H3 D (.lst ys)) s4:=c.inv s4.heap (.refl ..)
  show wpAny _ X.A (assign (.Name y py) X.env (.ref D)) _ _ _
  refine wpAny_assign_Name (store_ok2 I4 hN hj (.inl hy) (v:=.ref D) rfl (fun s5 I5 hb=>?_) (.inr hy))
  obtain ⟨a,sb,ha⟩:=hb
  have haC:C ≠ a:=by
    rcases ha with rfl | ha
    · exact c.neL
    · exact (c.cells y a ha).symm
  obtain ⟨m,hm⟩:=c.ns
  refine ⟨m,hm.sameBut sb haC,fun h' hs'=>⟨_,_,I5.turned (t':=s5.toks) (it:=C) (fun b o hb e=>(hs'.2 b hb).trans e) (by rw [upd_ne c.ne.symm]; exact c.freeC) c.neL (.inr c.up) c.cells c.pins,q⟩⟩
end
end DL
namespace DL
open PySem PySem.Spec PyProof.Rows L2
section
variable {X:Cx}{δ δ₁:List (Option D)}{a b c e iter tg elt:Expr}{es:List Expr}{pos p px:Pos}{x:Str}{ifs:List Expr}{scope:Scope}{N₁:List Str}
def WI (X:Cx)(tg iter:Expr):TI:=fun σ H R=>∀pins s,Inv X pins σ H s→wpAny (model X.prog X.w) X.A (eval iter X.env) (fun v s1=>wpAny (model X.prog X.w) X.A (pyIter v) (PIE X pins σ tg R) X.xe s1) X.xe s
theorem pi_wi:PI X tg iter (WI X tg iter):=fun pins s _ _ _ I h=>h pins s I
theorem wi_of {wi:TI}(h:PI X tg iter wi){σ:St}{H:Hp}{R:It→Hp→Prop}(q:wi σ H R):WI X tg iter σ H R:=fun pins s I=>h pins s σ H R I q
def ItD (K:PySem.W.Frag)(J:It)(H:Hp)(L:Addr→Prop)(ds:List D):Prop:=
  ∀H2,Off L H H2→∀i:Nat,(∀d,ds[i]? = some d→J.go i H2 ∧ ∀v H3,J.yld i H2 v H3→H3=H2∧Rep K H L d v)∧(ds.length≤i→J.stop i H2)
def EvI (X:Cx)(tg iter:Expr)(δ:List (Option D))(ds:List D):Prop:=
  ∀ (σ:St) (H:Hp) (L:Addr→Prop) (R:It→Hp→Prop),LOk L H→EnvR X.K H L δ σ→(∀J H',Same H H'→ItD X.K J H' L ds→R J H')→WI X tg iter σ H R
theorem ei_lst {ds:List D}(h:Ev X e δ (.lst ds)):EvI X tg e δ ds:=fun σ H L R l r k=>by
  refine wi_of (pi_list pe_we) (h σ H L _ l r fun v H1 s1 r1=>?_)
  obtain ⟨a,vs,rfl,hq,hr⟩:=rep_lst.mp r1
  refine ⟨a,rfl,⟨vs,hq.sq⟩,k _ H1 s1 fun H2 off i=>⟨fun d hd=>?_,fun hi=>⟨vs,(sqL_off off hq).sq,by rw [← hr.length]; exact hi⟩⟩⟩
  obtain ⟨v,hv,rv⟩:=hr.get hd
  have hq2:=(sqL_off off hq).sq
  refine ⟨⟨vs,v,hq2,hv⟩,fun v' H3 ⟨e,y⟩=>⟨e,?_⟩⟩
  have:=y vs hq2
  rw [hv] at this; cases this
  exact rv
theorem ei_tup {ds:List D}(h:Ev X e δ (.tup ds)):EvI X tg e δ ds:=fun σ H L R l r k=>by
  refine wi_of (pi_tup pe_we) (h σ H L _ l r fun v H1 s1 r1=>?_)
  obtain ⟨a,vs,rfl,hq,hr⟩:=rep_tup.mp r1
  refine ⟨a,rfl,⟨vs,hq.sq⟩,k _ H1 s1 fun H2 off i=>⟨fun d hd=>?_,fun hi=>⟨vs,(sqT_off off hq).sq,by rw [← hr.length]; exact hi⟩⟩⟩
  obtain ⟨v,hv,rv⟩:=hr.get hd
  have hq2:=(sqT_off off hq).sq
  refine ⟨⟨vs,v,hq2,hv⟩,fun v' H3 ⟨e,y⟩=>⟨e,?_⟩⟩
  have:=y vs hq2
  rw [hv] at this; cases this
  exact rv
def ups (n:Nat):List D:=(List.range n).map fun (k:Nat)=>D.int (k:Int)
theorem ei_range {n:Nat}(h:Ev X a δ (.int n))(hm:X.mg "range" = none)(hz:n < 2 ^ 62)(hg:Gl X "range" := by rfl)(hs:starEach [a] X.env = [(false,eval a X.env)]:=by rfl):EvI X tg (.Call (.Name "range" p) [a] [] pos) δ (ups n):=fun σ H L R l r k=>by
  refine wi_of (pi_range1 hg hm pa_wa hs) (ea1 h hs σ H L _ l r fun vs H1 s1 r1=>?_)
  obtain ⟨v,r',rfl,h1,h2⟩:=reps_cons.mp r1
  rw [reps_nil.mp h2,rep_int.mp h1]
  refine ⟨n,rfl,by omega,by exact_mod_cast hz,k _ H1 s1 fun H2 off i=>⟨fun d hd=>?_,fun hi=>?_⟩⟩
  · unfold ups at hd
    rw [List.getElem?_map] at hd
    cases q:(List.range n)[i]? with
    | none=>rw [q] at hd; cases hd
    | some j =>
      rw [q] at hd
      obtain ⟨hi,ej⟩:=List.getElem?_eq_some_iff.mp q
      rw [List.length_range] at hi
      rw [List.getElem_range] at ej
      subst ej
      cases hd
      refine ⟨by show i < (n:Int).toNat; omega,fun v H3 ⟨e1,e2⟩=>⟨e1,?_⟩⟩
      rw [e2]
      exact rep_int.mpr (by simp)
  · show (n:Int).toNat≤i
    unfold ups at hi
    rw [List.length_map,List.length_range] at hi
    omega
def Weak (X:Cx)(N₁:List Str)(δ δ₁:List (Option D)):Prop:=
  ∀σ:St,σ.length=X.N.length→∃σ₁:St,σ₁.length=N₁.length∧(∀K H L,EnvR K H L δ σ→EnvR K H L δ₁ σ₁)∧(∀ (i:Nat) (y:Str) (v:V),N₁[i]? = some y→σ₁[i]? = some (some v)→X.N[i]? = some y∧σ[i]? = some (some v))
theorem weak_id:Weak X X.N δ δ:=fun σ hl=>⟨σ,hl,fun _ _ _ h=>h,fun _ _ _ h1 h2=>⟨h1,h2⟩⟩
theorem weak_set (j:Nat)(z:Str):Weak X (X.N.set j z) δ (δ.set j none):=fun σ hl=>by
  refine ⟨σ.set j none,by rw [List.length_set,List.length_set]; exact hl,fun K H L h=>⟨by rw [List.length_set,List.length_set]; exact h.len,fun i d hd=>?_⟩,fun i y v h1 h2=>?_⟩
  · by_cases hj:j=i
    · subst hj
      rw [List.getElem?_set] at hd
      split at hd
      · split at hd <;> cases hd
      · rename_i q; exact absurd rfl q
    · rw [List.getElem?_set_ne hj] at hd ⊢
      exact h.get i d hd
  · by_cases hj:j=i
    · subst hj
      rw [List.getElem?_set] at h2
      split at h2
      · split at h2 <;> cases h2
      · rename_i q; exact absurd rfl q
    · rw [List.getElem?_set_ne hj] at h1 h2
      exact ⟨h1,h2⟩
def EvTs (X:Cx)(ifs:List Expr)(δ:List (Option D))(b:Bool):Prop:=
  ∀ (σ:St) (H:Hp) (L:Addr→Prop) (Q:Bool→Hp→Prop),LOk L H→EnvR X.K H L δ σ→(∀H',Same H H'→Q b H')→WTs X ifs σ H Q
theorem ets_nil:EvTs X [] δ true:=fun σ H L Q l r k=>wts_nil (k H (.refl _))
theorem ets_one {k:Bool}(h:EvT X c δ k):EvTs X [c] δ k:=fun σ H L Q l r q=>wts_one (h σ H L Q l r q)
theorem comp_wF {α:Type}{ks:List α}{g f:α→D}{q:α→Bool}(hz:ks.length≤1000)(ht:∀k∈ks,∀cl C s₀ H₀ fp,EvTs (cxComp X scope (x::N₁) cl C s₀ H₀ fp) ifs (some (g k)::δ₁) (q k))(he:∀k∈ks,q k=true→∀cl C s₀ H₀ fp,Ev (cxComp X scope (x::N₁) cl C s₀ H₀ fp) elt (some (g k)::δ₁) (f k)){H:Hp}{L:Addr→Prop}{σ₁:St}{J:It}{Q:VK}(l:LOk L H)(r:EnvR X.K H L δ₁ σ₁)(it:ItD X.K J H L (ks.map g))(k:∀ys H2,Same H H2→Reps X.K H2 L ((ks.filter q).map f) ys→∀p,H2 p=none→Q (.ref p) (upd H2 p (.lst ys))):CompW X scope x N₁ elt ifs σ₁ Q J H:=by
  refine ⟨fun i m ys H2=>i≤ks.length∧m=ks.length - i∧Same H H2∧Reps X.K H2 L (((ks.take i).filter q).map f) ys,⟨ks.length,Nat.zero_le _,by simp,.refl _,by simpa using Reps.nil⟩,?_⟩
  rintro i m ys H2 ⟨hi,rfl,s2,rs⟩
  have hlen:=rs.length
  have hfl:((ks.take i).filter q).length≤ks.length:=Nat.le_trans (List.length_filter_le _ _) (by rw [List.length_take]; omega)
  rw [List.length_map] at hlen
  have hz':ys.length < sizeLine:=small1000 (by omega)
  by_cases hlt:i < ks.length
  · have hk:ks[i]? = some ks[i]:=List.getElem?_eq_getElem hlt
    have hkm:ks[i]∈ks:=List.getElem_mem hlt
    obtain ⟨go,yl⟩:=(it H2 (.of s2) i).1 (g ks[i]) (by rw [List.getElem?_map,hk]; rfl)
    refine .inr ⟨go,hz',fun v H3 y cl C s₀ H₀ fp=>?_⟩
    obtain ⟨e3,rv⟩:=yl v H3 y
    subst e3
    have env:EnvR X.K H3 L (some (g ks[i])::δ₁) (some v::σ₁):=by
      refine ⟨by rw [List.length_cons,List.length_cons,r.len],fun j d hd=>?_⟩
      cases j with
      | zero=>simp at hd; subst hd; exact ⟨v,rfl,rv.same s2⟩
      | succ j =>
        obtain ⟨u,h1,h2⟩:=(r.same s2).get j d (by simpa using hd)
        exact ⟨u,by simpa using h1,h2⟩
    refine ht ks[i] hkm cl C s₀ H₀ fp _ H3 L _ (l.same s2) env fun H4 s4=>?_
    have tk:(ks.take (i+1)).filter q=(ks.take i).filter q++(if q ks[i] then [ks[i]] else []):=take_succ_filter q ks i ks[i] hk
    cases hq:q ks[i] with
    | true =>
      refine iteT (he ks[i] hkm hq cl C s₀ H₀ fp _ H4 L _ ((l.same s2).same s4) (env.same s4) fun y H5 s5 r5=>⟨ks.length - (i+1),by omega,hlt,rfl,(s2.trans s4).trans s5,?_⟩)
      rw [tk,hq,if_pos rfl,List.map_append]
      exact ((rs.same s4).same s5).append (Reps.cons r5 Reps.nil)
    | false =>
      refine iteF ⟨ks.length - (i+1),by omega,hlt,rfl,s2.trans s4,?_⟩
      rw [tk,hq,if_neg Bool.false_ne_true,List.append_nil]
      exact rs.same s4
  · have e:i=ks.length:=by omega
    subst e
    refine .inl ⟨(it H2 (.of s2) ks.length).2 (by rw [List.length_map]; exact Nat.le_refl _),Nat.le_of_lt hz',fun p hp=>?_⟩
    rw [List.take_length] at rs
    exact k ys H2 s2 rs p hp
theorem comp_w {α:Type}{ks:List α}{g f:α→D}{q:α→Bool}(hz:ks.length≤1000)(ht:∀k∈ks,∀cl C s₀ H₀ fp,EvTs (cxComp X scope (x::N₁) cl C s₀ H₀ fp) ifs (some (g k)::δ₁) (q k))(he:∀k∈ks,q k=true→∀cl C s₀ H₀ fp,Ev (cxComp X scope (x::N₁) cl C s₀ H₀ fp) elt (some (g k)::δ₁) (f k)){H0 H:Hp}{L:Addr→Prop}{σ₁:St}{J:It}{Q:VK}(l:LOk L H)(r:EnvR X.K H L δ₁ σ₁)(it:ItD X.K J H L (ks.map g))(k:∀v H',Same H H'→Rep X.K H' L (.lst ((ks.filter q).map f)) v→Q v H'):CompW X scope x N₁ elt ifs σ₁ Q J H:=
  comp_wF hz ht he l r it fun ys H2 s2 rs p hp=>k _ _ (s2.trans (same_upd hp)) (rep_lst.mpr ⟨p,ys,rfl,.of ((l.same s2).fresh hp) upd_same,rs.same (same_upd hp)⟩)
theorem ev_comp {α:Type}{ks:List α}{g f:α→D}{q:α→Bool}(O:CompOk X scope x N₁)(hw:Weak X N₁ δ δ₁)(hi:EvI X (.Name x px) iter δ (ks.map g))(hz:ks.length≤1000)(ht:∀k∈ks,∀cl C s₀ H₀ fp,EvTs (cxComp X scope (x::N₁) cl C s₀ H₀ fp) ifs (some (g k)::δ₁) (q k))(he:∀k∈ks,q k=true→∀cl C s₀ H₀ fp,Ev (cxComp X scope (x::N₁) cl C s₀ H₀ fp) elt (some (g k)::δ₁) (f k))(hs:∀x,foldedSetIterable iter X.env x=pure x:=by intro _; rfl):Ev X (.ListComp elt [⟨.Name x px,iter,ifs,0⟩] scope pos) δ (.lst ((ks.filter q).map f)):=fun σ H L Q l r k pins s I=>by
  obtain ⟨σ₁,h1,h2,h3⟩:=hw σ I.len
  exact we_comp O pi_wi h1 h3 (hi σ H L _ l r fun J H' s' it=>comp_w (H0:=H) hz ht he (l.same s') (h2 _ _ _ (r.same s')) it fun v H2 s2 r2=>k v H2 (s'.trans s2) r2) hs pins s I
theorem ev_map {α:Type}{ks:List α}{g f:α→D}(O:CompOk X scope x N₁)(hw:Weak X N₁ δ δ₁)(hi:EvI X (.Name x px) iter δ (ks.map g))(hz:ks.length≤1000)(he:∀k∈ks,∀cl C s₀ H₀ fp,Ev (cxComp X scope (x::N₁) cl C s₀ H₀ fp) elt (some (g k)::δ₁) (f k))(hs:∀x,foldedSetIterable iter X.env x=pure x:=by intro _; rfl):Ev X (.ListComp elt [⟨.Name x px,iter,[],0⟩] scope pos) δ (.lst (ks.map f)):=
  (ev_comp (q:=fun _=>true) O hw hi hz (fun _ _ _ _ _ _ _=>ets_nil) (fun k hk _=>he k hk) hs).cast (by rw [List.filter_eq_self.mpr fun _ _=>rfl])
theorem ev_callB {id:String}{r:List V→Hp→VK→Prop}{ds:List D}{d:D}(hc:CallR X (.builtin id) r)(hm:X.mg x=none)(hv:bootBuiltins x=some (.builtin id))(ha:EvA X (e::es) δ ds)(hr:∀ (vs:List V) (H:Hp) (L:Addr→Prop) (Q:VK),LOk L H→Reps X.K H L ds vs→(∀v H',Same H H'→Rep X.K H' L d v→Q v H')→r vs H Q)(hg:Gl X x:=by rfl)(hn:x ≠ "__name__" := by decide)(hdb:(x == ("__debug__" : Str))=false:=by decide)(he:starEach (e::es) X.env=(false,eval e X.env)::starEach es X.env:=by rfl)(hpl:(backTo pos (starEach es X.env)).any (·.1)=false:=by rfl):Ev X (.Call (.Name x p) (e::es) [] pos) δ d:=fun σ H L Q l r k=>by
  refine we_of (pe_callB hc hg hm hv pa_wa hn hdb he hpl) (ha σ H L _ l r fun vs H1 s1 r1=>?_)
  exact hr vs H1 L Q (l.same s1) r1 fun v H' s' r'=>k v H' (s1.trans s') r'
theorem ev_callTy {T:String}{r:List V→Hp→VK→Prop}{ds:List D}{d:D}(hc:CallR X (.type T) r)(hm:X.mg x=none)(hv:bootBuiltins x=some (.type T))(ha:EvA X (e::es) δ ds)(hr:∀ (vs:List V) (H:Hp) (L:Addr→Prop) (Q:VK),LOk L H→Reps X.K H L ds vs→(∀v H',Same H H'→Rep X.K H' L d v→Q v H')→r vs H Q)(hg:Gl X x:=by rfl)(hn:x ≠ "__name__" := by decide)(hdb:(x == ("__debug__" : Str))=false:=by decide)(he:starEach (e::es) X.env=(false,eval e X.env)::starEach es X.env:=by rfl)(hpl:(backTo pos (starEach es X.env)).any (·.1)=false:=by rfl):Ev X (.Call (.Name x p) (e::es) [] pos) δ d:=fun σ H L Q l r k=>by
  refine we_of (pe_callTy hc hg hm hv pa_wa hn hdb he hpl) (ha σ H L _ l r fun vs H1 s1 r1=>?_)
  exact hr vs H1 L Q (l.same s1) r1 fun v H' s' r'=>k v H' (s1.trans s') r'
theorem reps1 {K:PySem.W.Frag}{H:Hp}{L:Addr→Prop}{d:D}{vs:List V}(h:Reps K H L [d] vs):∃v,vs = [v]∧Rep K H L d v:=by
  obtain ⟨v,r,rfl,h1,h2⟩:=reps_cons.mp h
  rw [reps_nil.mp h2]
  exact ⟨v,rfl,h1⟩
theorem reps2 {K:PySem.W.Frag}{H:Hp}{L:Addr→Prop}{d d':D}{vs:List V}(h:Reps K H L [d,d'] vs):∃v v',vs = [v,v']∧Rep K H L d v∧Rep K H L d' v':=by
  obtain ⟨v,r,rfl,h1,h2⟩:=reps_cons.mp h
  obtain ⟨v',rfl,h3⟩:=reps1 h2
  exact ⟨v,v',rfl,h1,h3⟩
theorem ev_lenL {ds:List D}(h:Ev X a δ (.lst ds))(hm:X.mg "len" = none)(hg:Gl X "len" := by rfl)(he:starEach [a] X.env = [(false,eval a X.env)]:=by rfl):Ev X (.Call (.Name "len" p) [a] [] pos) δ (.int ds.length):=
  ev_callB call_len_seq hm PySem.boot_len (ea1 h he) (fun vs H L Q l r k=>by
    obtain ⟨v,rfl,h1⟩:=reps1 r
    obtain ⟨q,us,rfl,hq,hr⟩:=rep_lst.mp h1
    exact ⟨q,us,rfl,.inl hq.sq,k _ H (.refl _) (rep_int.mpr (by rw [hr.length]))⟩) hg (he:=he)
theorem ev_lenT {ds:List D}(h:Ev X a δ (.tup ds))(hm:X.mg "len" = none)(hg:Gl X "len" := by rfl)(he:starEach [a] X.env = [(false,eval a X.env)]:=by rfl):Ev X (.Call (.Name "len" p) [a] [] pos) δ (.int ds.length):=
  ev_callB call_len_seq hm PySem.boot_len (ea1 h he) (fun vs H L Q l r k=>by
    obtain ⟨v,rfl,h1⟩:=reps1 r
    obtain ⟨q,us,rfl,hq,hr⟩:=rep_tup.mp h1
    exact ⟨q,us,rfl,.inr hq.sq,k _ H (.refl _) (rep_int.mpr (by rw [hr.length]))⟩) hg (he:=he)
theorem boot_tuple:bootBuiltins "tuple" = some (.type "tuple"):=by decide +kernel
theorem boot_list:bootBuiltins "list" = some (.type "list"):=by decide +kernel
theorem boot_int:bootBuiltins "int" = some (.type "int"):=by decide +kernel
theorem boot_max:bootBuiltins "max" = some (.builtin "max"):=by decide +kernel
theorem boot_sum:bootBuiltins "sum" = some (.builtin "sum"):=by decide +kernel
theorem boot_all:bootBuiltins "all" = some (.builtin "all"):=by decide +kernel
theorem boot_any:bootBuiltins "any" = some (.builtin "any"):=by decide +kernel
theorem boot_isi:bootBuiltins "isinstance" = some (.builtin "isinstance"):=by decide +kernel
theorem ev_tuple {ds:List D}(h:Ev X a δ (.lst ds))(hm:X.mg "tuple" = none)(hg:Gl X "tuple" := by rfl)(he:starEach [a] X.env = [(false,eval a X.env)]:=by rfl):Ev X (.Call (.Name "tuple" p) [a] [] pos) δ (.tup ds):=
  ev_callTy call_tuple_of hm boot_tuple (ea1 h he) (fun vs H L Q l r k=>by
    obtain ⟨v,rfl,h1⟩:=reps1 r
    obtain ⟨q,us,rfl,hq,hr⟩:=rep_lst.mp h1
    exact ⟨q,us,rfl,.inl ⟨hq.sq,fun l' hl=>k _ _ (same_upd hl) (rep_tup.mpr ⟨l',us,rfl,.of (l.fresh hl) upd_same,hr.same (same_upd hl)⟩)⟩⟩) hg (he:=he)
theorem ev_intB {k:Bool}(h:Ev X a δ (.bl k))(hm:X.mg "int" = none)(hg:Gl X "int" := by rfl)(he:starEach [a] X.env = [(false,eval a X.env)]:=by rfl):Ev X (.Call (.Name "int" p) [a] [] pos) δ (.int (if k then 1 else 0)):=
  ev_callTy call_int1 hm boot_int (ea1 h he) (fun vs H L Q l r q=>by
    obtain ⟨v,rfl,h1⟩:=reps1 r
    rw [rep_bl.mp h1]
    exact .inr ⟨k,rfl,q _ H (.refl _) (rep_int.mpr rfl)⟩) hg (he:=he)
theorem ev_max {i j:Int}(hc:X.calm=true)(h:Ev X a δ (.int i))(h':Ev X b δ (.int j))(hm:X.mg "max" = none)(hg:Gl X "max" := by rfl)(hs:starEach [a,b] X.env=(false,eval a X.env)::starEach [b] X.env:=by rfl)(hs2:starEach [b] X.env = [(false,eval b X.env)]:=by rfl)(hpl:(backTo pos (starEach [b] X.env)).any (·.1)=false:=by rfl):Ev X (.Call (.Name "max" p) [a,b] [] pos) δ (.int (if j > i then j else i)):=
  ev_callB (call_max2 hc) hm boot_max (ea2 h h' hs hs2) (fun vs H L Q l r q=>by
    obtain ⟨v,v',rfl,h1,h2⟩:=reps2 r
    rw [rep_int.mp h1,rep_int.mp h2]
    exact ⟨i,j,rfl,q _ H (.refl _) (rep_int.mpr rfl)⟩) hg (he:=hs) (hpl:=hpl)
theorem call_sumI (hc:X.calm=true):CallR X (.builtin "sum") (fun xs H Q=>∃ (p:Addr) (ns:List Int),xs = [.ref p]∧SqL X.K H p (ns.map V.int)∧Q (.int ns.sum) H):=by
  intro pins s σ H xs us Q I r h
  obtain ⟨p,ns,rfl,hq,q⟩:=h
  obtain ⟨u,rfl,rx⟩:=vals1 r
  cases rx
  obtain ⟨its,rv,pl,hz⟩:=I.list hq
  have hi:IntsAre its ns:=intsAre_of rv
  obtain ⟨xs,hx⟩:=hi.allInts.items
  refine sum_intListG (I.ok.hd hc) (hx ▸ pl.isList) fun h' tk t' hk=>?_
  have e1:ns=xs.toList.map (·.1):=by
    rw [← nums_intItems,← hx]
    exact (show numsOf its.toArray.toList=ns from hi.numsOf).symm
  have e2:preSum (numAt xs) xs.size=ns.sum:=by
    rw [preSum_eq,List.take_of_length_le (by simp),e1]
  rw [e2]
  exact ⟨.int ns.sum,H,I.kept hk,⟨t',rfl⟩,q⟩
theorem ev_sum {ns:List Int}(hc:X.calm=true)(h:Ev X a δ (.lst (ns.map D.int)))(hm:X.mg "sum" = none)(hg:Gl X "sum" := by rfl)(he:starEach [a] X.env = [(false,eval a X.env)]:=by rfl):Ev X (.Call (.Name "sum" p) [a] [] pos) δ (.int ns.sum):=
  ev_callB (call_sumI hc) hm boot_sum (ea1 h he) (fun vs H L Q l r k=>by
    obtain ⟨v,rfl,h1⟩:=reps1 r
    obtain ⟨q,us,rfl,hq,hr⟩:=rep_lst.mp h1
    rw [reps_ints] at hr
    subst hr
    exact ⟨q,ns,rfl,hq.sq,k _ H (.refl _) (rep_int.mpr rfl)⟩) hg (he:=he)
theorem vals_bl:∀ {bs:List Bool}{us:List Value},Vals (bs.map V.bl) us→∀ (i:Nat) (v:Value),us[i]? = some v→∃b,bs[i]? = some b∧v = .bool b
  | [],_,.nil,i,v,e=>by simp at e
  | b::bs,_,.cons r t,0,v,e=>by
    simp at e; subst e
    exact ⟨b,rfl,r⟩
  | b::bs,_,.cons r t,i+1,v,e=>by
    obtain ⟨b',h1,h2⟩:=vals_bl t i v (by simpa using e)
    exact ⟨b',by simpa using h1,h2⟩
theorem call_allB (hc:X.calm=true):CallR X (.builtin "all") (fun xs H Q=>∃ (p:Addr) (bs:List Bool),xs = [.ref p]∧SqL X.K H p (bs.map V.bl)∧Q (.bl (bs.all id)) H):=by
  intro pins s σ H xs us Q I r h
  obtain ⟨p,bs,rfl,hq,q⟩:=h
  obtain ⟨u,rfl,rx⟩:=vals1 r
  cases rx
  obtain ⟨its,rv,pl,hz⟩:=I.list hq
  have hl:=pl.isList
  have hlt:p < s.heap.objs.size:=by obtain ⟨_,e,_⟩:=id hl; exact Heap.lt_size e
  have hlen:=rv.length
  rw [List.length_map] at hlen
  refine call_all_walk (wpAny_pyIter_list hl ?_)
  refine ⟨s.heap.objs.size,[s.heap.objs.size,p],[s.heap.objs.size],its.toArray.size,_,_,fun i=>(bs[i]?).getD true,rfl,Walks.list (A:=X.A.in1) (I.ok.hd hc) _ p (Nat.ne_of_lt hlt) its.toArray,
    ⟨⟨_,Heap.get?_push_size _ rfl,rfl,rfl⟩,hl.push _⟩,fun i v s' Q' E' hP hQ=>?_,fun h' tk hk=>?_⟩
  · obtain ⟨b,e,rfl⟩:=vals_bl rv i v (by simpa using hP)
    simp only [e,Option.getD_some] at hQ
    exact wpAny_truthy_bool hQ
  · have e:((List.range its.toArray.size).all fun i=>(bs[i]?).getD true)=bs.all id:=by
      rw [List.size_toArray,← hlen]; exact LSm.range_all bs
    rw [e]
    exact ⟨.bl _,H,I.kept (LSm.kept_iter hk),rfl,q⟩
theorem call_anyB (hc:X.calm=true):CallR X (.builtin "any") (fun xs H Q=>∃ (p:Addr) (bs:List Bool),xs = [.ref p]∧SqL X.K H p (bs.map V.bl)∧Q (.bl (bs.any id)) H):=by
  intro pins s σ H xs us Q I r h
  obtain ⟨p,bs,rfl,hq,q⟩:=h
  obtain ⟨u,rfl,rx⟩:=vals1 r
  cases rx
  obtain ⟨its,rv,pl,hz⟩:=I.list hq
  have hl:=pl.isList
  have hlt:p < s.heap.objs.size:=by obtain ⟨_,e,_⟩:=id hl; exact Heap.lt_size e
  have hlen:=rv.length
  rw [List.length_map] at hlen
  refine call_any_walk (wpAny_pyIter_list hl ?_)
  refine ⟨s.heap.objs.size,[s.heap.objs.size,p],[s.heap.objs.size],its.toArray.size,_,_,fun i=>(bs[i]?).getD false,rfl,Walks.list (A:=X.A.in1) (I.ok.hd hc) _ p (Nat.ne_of_lt hlt) its.toArray,
    ⟨⟨_,Heap.get?_push_size _ rfl,rfl,rfl⟩,hl.push _⟩,fun i v s' Q' E' hP hQ=>?_,fun h' tk hk=>?_⟩
  · obtain ⟨b,e,rfl⟩:=vals_bl rv i v (by simpa using hP)
    simp only [e,Option.getD_some] at hQ
    exact wpAny_truthy_bool hQ
  · have e:((List.range its.toArray.size).any fun i=>(bs[i]?).getD false)=bs.any id:=by
      rw [List.size_toArray,← hlen]; exact LSm.range_any bs
    rw [e]
    exact ⟨.bl _,H,I.kept (LSm.kept_iter hk),rfl,q⟩
theorem ev_all {bs:List Bool}(hc:X.calm=true)(h:Ev X a δ (.lst (bs.map D.bl)))(hm:X.mg "all" = none)(hg:Gl X "all" := by rfl)(he:starEach [a] X.env = [(false,eval a X.env)]:=by rfl):Ev X (.Call (.Name "all" p) [a] [] pos) δ (.bl (bs.all id)):=
  ev_callB (call_allB hc) hm boot_all (ea1 h he) (fun vs H L Q l r k=>by
    obtain ⟨v,rfl,h1⟩:=reps1 r
    obtain ⟨q,us,rfl,hq,hr⟩:=rep_lst.mp h1
    rw [reps_bls] at hr
    subst hr
    exact ⟨q,bs,rfl,hq.sq,k _ H (.refl _) (rep_bl.mpr rfl)⟩) hg (he:=he)
theorem ev_any {bs:List Bool}(hc:X.calm=true)(h:Ev X a δ (.lst (bs.map D.bl)))(hm:X.mg "any" = none)(hg:Gl X "any" := by rfl)(he:starEach [a] X.env = [(false,eval a X.env)]:=by rfl):Ev X (.Call (.Name "any" p) [a] [] pos) δ (.bl (bs.any id)):=
  ev_callB (call_anyB hc) hm boot_any (ea1 h he) (fun vs H L Q l r k=>by
    obtain ⟨v,rfl,h1⟩:=reps1 r
    obtain ⟨q,us,rfl,hq,hr⟩:=rep_lst.mp h1
    rw [reps_bls] at hr
    subst hr
    exact ⟨q,bs,rfl,hq.sq,k _ H (.refl _) (rep_bl.mpr rfl)⟩) hg (he:=he)
def WO (X:Cx)(e:Option Expr):TO:=fun σ H Q=>∀pins s,Inv X pins σ H s→wpAny (model X.prog X.w) X.A (evalPart e X.env) (fun u s'=>∃o H',Inv X pins σ H' s'∧IsPart u o∧Q o H') X.xe s
theorem po_wo {e:Option Expr}:PO X e (WO X e):=fun pins s _ _ _ I h=>h pins s I
theorem wo_of {e:Option Expr}{t:TO}(h:PO X e t){σ:St}{H:Hp}{Q:Option Int→Hp→Prop}(q:t σ H Q):WO X e σ H Q:=fun pins s I=>h pins s σ H Q I q
def EvO (X:Cx)(e:Option Expr)(δ:List (Option D))(o:Option Int):Prop:=
  ∀ (σ:St) (H:Hp) (L:Addr→Prop) (Q:Option Int→Hp→Prop),LOk L H→EnvR X.K H L δ σ→(∀H',Same H H'→Q o H')→WO X e σ H Q
theorem eo_none:EvO X none δ none:=fun σ H L Q l r k=>wo_of po_none (k H (.refl _))
theorem eo_some {i:Int}(h:Ev X a δ (.int i)):EvO X (some a) δ (some i):=fun σ H L Q l r k=>wo_of (po_some pe_we) (h σ H L _ l r fun v H1 s1 r1=>⟨i,rep_int.mp r1,k H1 s1⟩)
def cutD {α:Type}(xs:List α)(lo hi:Option Int):List α:=(xs.drop (HT.sIx xs.length 0 lo)).take (HT.sIx xs.length xs.length hi - HT.sIx xs.length 0 lo)
theorem ev_slL {ds:List D}{lo hi:Option Expr}{l' h':Option Int}{p2:Pos}(h:Ev X a δ (.lst ds))(hl:EvO X lo δ l')(hh:EvO X hi δ h'):Ev X (.Subscript a (.Slice lo hi none p2) pos) δ (.lst (cutD ds l' h')):=fun σ H L Q l r k=>by
  refine we_of (pe_slice sl_list pe_we po_wo po_wo) (h σ H L _ l r fun v H1 s1 r1=>hl σ H1 L _ (l.same s1) (r.same s1) fun H2 s2=>hh σ H2 L _ ((l.same s1).same s2) ((r.same s1).same s2) fun H3 s3=>?_)
  obtain ⟨q,us,rfl,hq,hr⟩:=rep_lst.mp ((r1.same s2).same s3)
  refine ⟨q,us,rfl,hq.sq,fun p' hp=>k _ _ (((s1.trans s2).trans s3).trans (same_upd hp)) (rep_lst.mpr ⟨p',_,rfl,.of ((((l.same s1).same s2).same s3).fresh hp) upd_same,?_⟩)⟩
  unfold cutD cutV
  rw [hr.length]
  exact ((hr.drop _).take _).same (same_upd hp)
theorem op_catL:OpR X (binaryOp .Add) (fun x y H Q=>∃l b xs zs,x = .ref l∧y = .ref b∧SqL X.K H l xs∧SqL X.K H b zs∧xs.length+zs.length≤sizeLine ∧ ∀p,H p=none→Q (.ref p) (upd H p (.lst (xs++zs)))):=by
  intro pins s σ H x y v u Q I rx ry h
  obtain ⟨l,b,xs,zs,rfl,rfl,hH,hB,hz,q⟩:=h
  cases rx
  cases ry
  obtain ⟨its,r,pl,_⟩:=I.list hH
  obtain ⟨its2,r2,pl2,_⟩:=I.list hB
  obtain ⟨m,F⟩:=I.fr
  have hl1:=r.length
  have hl2:=r2.length
  have I0:=I
  obtain ⟨⟨cls,dd,data,sl⟩,ho,hc,n,hd⟩:=pl.isList
  obtain ⟨⟨cls2,dd2,data2,sl2⟩,ho2,hc2,n2,hd2⟩:=pl2.isList
  simp only at hc hd hc2 hd2
  subst hc hd hc2 hd2
  have e:its.toArray++its2.toArray=(its++its2).toArray:=by simp
  refine concat_meets ⟨_,ho,rfl⟩ ⟨_,ho2,rfl⟩ noFill_list_add seq_list_add PySem.F.slot_list_add PySem.F.entry_list_add (PySem.F.args_list_add_2 _ _) (list_addW l b its.toArray its2.toArray n n2 dd dd2 sl sl2 (by rw [List.size_toArray,List.size_toArray]; omega)) ⟨ho,ho2,?_⟩
  rw [e]
  exact ⟨.ref _,_,I.lnew (t':=s.toks) (r.append r2) (by rw [List.length_append]; omega),rfl,q _ I.fresh⟩
theorem ev_catL {ds ds':List D}(ha:Ev X a δ (.lst ds))(hb:Ev X b δ (.lst ds'))(hz:ds.length+ds'.length≤1000):Ev X (.BinOp a .Add b pos) δ (.lst (ds++ds')):=ev_op2 op_catL ha hb fun x y H L Q l h1 h2 k=>by
  obtain ⟨q,us,rfl,hq,hr⟩:=rep_lst.mp h1
  obtain ⟨q',us',rfl,hq',hr'⟩:=rep_lst.mp h2
  exact ⟨q,q',us,us',rfl,rfl,hq.sq,hq'.sq,by rw [← hr.length,← hr'.length]; exact Nat.le_of_lt (small1000 hz),fun p' hp=>k _ _ (same_upd hp) (rep_lst.mpr ⟨p',_,rfl,.of (l.fresh hp) upd_same,(hr.append hr').same (same_upd hp)⟩)⟩
end
end DL
namespace DL
open PySem PySem.Spec PyProof.Rows L2
def PureSp {ι:Type}(K:PySem.W.Frag)(Ar:ι→List D)(Pre:ι→Prop)(Post:ι→D→Prop):Sp:=fun vs H Q _=>∃ (L:Addr→Prop) (i:ι),LOk L H∧Reps K H L (Ar i) vs∧Pre i ∧ ∀d v H',Post i d→Same H H'→Rep K H' L d v→Q v H'
structure PFn {ι:Type}(P:Program)(w:World)(K:PySem.W.Frag)(mg:Str→Option Value)(base:Heap)(x:Str)(k:Nat)(Ar:ι→List D)(Pre:ι→Prop)(Post:ι→D→Prop):Prop where
  ex:∃ (f:Addr) (fd:FuncData) (ps:List Str),FnOk P w K mg base CX0 k f fd ps (PureSp K Ar Pre Post)∧mg x=some (.ref f)∧PySem.W.keepIn K (.ref f)=true∧Binds K fd ps []
structure PMt {ι:Type}(P:Program)(w:World)(K:PySem.W.Frag)(mg:Str→Option Value)(base:Heap)(C:Addr)(m:Str)(k:Nat)(Ar:ι→List D)(Pre:ι→Prop)(Post:ι→D→Prop):Prop where
  ex:∃ (f:Addr) (fd:FuncData) (ps:List Str),FnOk P w K mg base CX0 k f fd ps (PureSp K Ar Pre Post)∧Meth K C m f∧Binds K fd ps []
section
variable {X:Cx}{δ:List (Option D)}{a b c e o:Expr}{es:List Expr}{pos p apos:Pos}{x m:Str}{k:Nat}{ι:Type}{Ar:ι→List D}{Pre:ι→Prop}{Post:ι→D→Prop}{ds:List D}
theorem ev_callP (F:PFn X.prog X.w X.K X.mg X.base x k Ar Pre Post)(i:ι)(hr:Room k X.A)(ha:EvA X (e::es) δ ds)(hp:Pre i)(hA:Ar i=ds:=by rfl)(hg:Gl X x:=by rfl)(hdb:(x == ("__debug__" : Str))=false:=by decide)(he:starEach (e::es) X.env=(false,eval e X.env)::starEach es X.env:=by rfl)(hpl:(backTo pos (starEach es X.env)).any (·.1)=false:=by rfl):EvP X (.Call (.Name x p) (e::es) [] pos) δ (Post i):=fun σ H L Q l r q=>by
  obtain ⟨f,fd,ps,F,hm,hk,hb⟩:=F.ex
  refine we_of (pe_call F hr hg hm hk hb .nil pass0 pa_wa hdb he hpl) (ha σ H L _ l r fun vs H1 s1 r1=>?_)
  exact ⟨L,i,l.same s1,by rw [List.append_nil,hA]; exact r1,hp,fun d v H' po s' r'=>q d v H' po (s1.trans s') r'⟩
theorem ev_call {d:D}(F:PFn X.prog X.w X.K X.mg X.base x k Ar Pre Post)(i:ι)(hr:Room k X.A)(ha:EvA X (e::es) δ ds)(hp:Pre i)(hd:∀y,Post i y→y=d:=by exact fun _ h=>h)(hA:Ar i=ds:=by rfl)(hg:Gl X x:=by rfl)(hdb:(x == ("__debug__" : Str))=false:=by decide)(he:starEach (e::es) X.env=(false,eval e X.env)::starEach es X.env:=by rfl)(hpl:(backTo pos (starEach es X.env)).any (·.1)=false:=by rfl):Ev X (.Call (.Name x p) (e::es) [] pos) δ d:=(ev_callP F i hr ha hp hA hg hdb he hpl).ev hd
theorem ev_meth0P {C:Addr}{ks:List Str}{fs:List D}(F:PMt X.prog X.w X.K X.mg X.base C m k Ar Pre Post)(i:ι)(c:Cls X.K C)(hr:Room k X.A)(ho:Ev X o δ (.ins C ks fs))(hkm:m ∉ ks)(hp:Pre i)(hA:Ar i = [.ins C ks fs]:=by rfl){pl:Sem Bool}(ht:eval (.Call (.Attribute o m apos) [] [] pos) X.env=(do
      let ov ← eval o X.env
      standAt apos.atName
      let (f,first) ← holding [ov] (getMethod ov m pl)
      callWith pos f first (backTo pos (starEach [] X.env)) (backToKw pos (keywordEach [] X.env))):=by rfl):EvP X (.Call (.Attribute o m apos) [] [] pos) δ (Post i):=fun σ H L Q l r q=>by
  obtain ⟨f,fd,ps,F,hm,hb⟩:=F.ex
  refine we_of (pe_meth0 pe_we c hm F hr hb .nil pass0 ht) (ho σ H L _ l r fun v H1 s1 r1=>?_)
  obtain ⟨a,dx,vs,rfl,n,hH,hl,hrs⟩:=rep_ins.mp r1
  refine ⟨a,dx,_,rfl,hH,?_,?_⟩
  · cases z:(ks.zip vs).lookup m with
    | none=>rfl
    | some v=>exact absurd (List.of_mem_zip (PySem.mem_of_lookup z)).1 hkm
  · exact ⟨L,i,l.same s1,by rw [hA]; exact Reps.cons r1 Reps.nil,hp,fun d v H' po s' r'=>q d v H' po (s1.trans s') r'⟩
theorem ev_fld {C:Addr}{ks:List Str}{fs:List D}{f:Str}{d:D}{i:Nat}(c:Cls X.K C)(n:NoAttr X.K C f)(ho:Ev X o δ (.ins C ks fs))(hi:ks.findIdx? (· == f)=some i)(hd:fs[i]? = some d)(hb:attributeBase o f X.env (eval o X.env)=eval o X.env:=by rfl):Ev X (.Attribute o f pos) δ d:=fun σ H L Q l r q=>by
  refine we_of (pe_fld pe_we hb) (ho σ H L _ l r fun v H1 s1 r1=>?_)
  obtain ⟨a,dx,vs,rfl,nn,hH,hl,hrs⟩:=rep_ins.mp r1
  obtain ⟨v,hv,rv⟩:=hrs.get hd
  refine ⟨a,C,dx,_,v,rfl,hH,c,n,?_,q v H1 s1 rv⟩
  have key:∀ (ks:List Str) (vs:List V) (i:Nat),ks.findIdx? (· == f)=some i→vs[i]? = some v→(ks.zip vs).lookup f=some v:=by
    intro ks
    induction ks with
    | nil=>intro vs i h _; simp at h
    | cons y ks ih =>
      intro vs i h hv
      cases vs with
      | nil=>simp at hv
      | cons u vs =>
        rw [List.zip_cons_cons,List.lookup_cons]
        rw [List.findIdx?_cons] at h
        cases e:y == f with
        | true =>
          rw [e] at h
          simp at h; subst h
          have:f == y:=by rw [eq_of_beq e]; exact beq_self_eq_true _
          rw [this]
          simpa using hv
        | false =>
          rw [e] at h
          have nf:(f == y)=false:=by
            cases z:f == y with
            | false=>rfl
            | true=>rw [eq_of_beq z,beq_self_eq_true] at e; cases e
          rw [nf]
          simp only [Bool.false_eq_true,if_false] at h
          cases j:ks.findIdx? (· == f) with
          | none=>rw [j] at h; cases h
          | some j' =>
            rw [j] at h
            simp at h; subst h
            exact ih vs j' j (by simpa using hv)
  exact key ks vs i hi hv
end
inductive En where
  | no | da (d:D) | ow (ds:List D)
def En.hid:En→Option D
  | .da d=>some d
  | _=>none
def En.opn:En→Option D
  | .da d=>some d
  | .ow ds=>some (.lst ds)
  | .no=>none
abbrev hid (δ:List En):List (Option D):=δ.map En.hid
abbrev opn (δ:List En):List (Option D):=δ.map En.opn
structure EnvO (K:PySem.W.Frag)(H0 H:Hp)(L:Addr→Prop)(δ:List En)(σ:St):Prop where
  len:δ.length=σ.length
  dat:∀ (i:Nat) d,δ[i]? = some (.da d)→∃v,σ[i]? = some (some v)∧Rep K H L d v
  own:∀ (i:Nat) ds,δ[i]? = some (.ow ds)→∃a vs,σ[i]? = some (some (.ref a))∧L a∧H0 a=none∧H a=some (.lst vs)∧Reps K H L ds vs
  apart:∀ (i j:Nat) ds ds' a,i ≠ j→δ[i]? = some (.ow ds)→δ[j]? = some (.ow ds')→σ[i]? = some (some (.ref a))→σ[j]? ≠ some (some (.ref a))
structure StR (K:PySem.W.Frag)(H0:Hp)(L0:Addr→Prop)(δ:List En)(σ:St)(H:Hp)(L:Addr→Prop):Prop where
  sub:∀a,L0 a→L a
  new:∀a,L a→L0 a∨(H0 a=none ∧ ∃xs,H a=some (.lst xs))
  lok:LOk L H
  same:Same H0 H
  env:EnvO K H0 H L δ σ
theorem getE {δ:List En}{f:En→Option D}{i:Nat}{d:D}(h:(δ.map f)[i]? = some (some d)):∃e,δ[i]? = some e∧f e=some d:=by
  rw [List.getElem?_map] at h
  cases q:δ[i]? with
  | none=>rw [q] at h; cases h
  | some e=>rw [q] at h; exact ⟨e,rfl,Option.some.inj h⟩
section
variable {K:PySem.W.Frag}{H0 H H':Hp}{L0 L:Addr→Prop}{δ:List En}{σ:St}
theorem StR.hidR (s:StR K H0 L0 δ σ H L):EnvR K H L (hid δ) σ:=⟨by rw [List.length_map]; exact s.env.len,fun i d h=>by
  obtain ⟨e,h1,h2⟩:=getE h
  cases e with
  | da d'=>cases h2; exact s.env.dat i d h1
  | no=>cases h2
  | ow ds=>cases h2⟩
theorem StR.opnR (s:StR K H0 L0 δ σ H L)(l0:LOk L0 H0):EnvR K H L0 (opn δ) σ:=⟨by rw [List.length_map]; exact s.env.len,fun i d h=>by
  obtain ⟨e,h1,h2⟩:=getE h
  cases e with
  | da d' =>
    cases h2
    obtain ⟨v,h3,h4⟩:=s.env.dat i d h1
    exact ⟨v,h3,h4.less (.of s.sub)⟩
  | no=>cases h2
  | ow ds =>
    cases h2
    obtain ⟨a,vs,h3,h4,h5,h6,h7⟩:=s.env.own i ds h1
    exact ⟨_,h3,rep_lst.mpr ⟨a,vs,rfl,.of (l0.fresh h5) h6,h7.less (.of s.sub)⟩⟩⟩
theorem StR.lok0 (s:StR K H0 L0 δ σ H L)(l0:LOk L0 H0):LOk L0 H:=l0.same s.same
theorem StR.grow (s:StR K H0 L0 δ σ H L)(g:Same H H'):StR K H0 L0 δ σ H' L:=
  ⟨s.sub,fun a h=>(s.new a h).imp id fun ⟨q,xs,e⟩=>⟨q,xs,g _ _ e⟩,s.lok.same g,s.same.trans g,⟨s.env.len,fun i d h=>let ⟨v,h1,h2⟩:=s.env.dat i d h; ⟨v,h1,h2.same g⟩,
    fun i ds h=>let ⟨a,vs,h1,h2,h3,h4,h5⟩:=s.env.own i ds h; ⟨a,vs,h1,h2,h3,g _ _ h4,h5.same g⟩,s.env.apart⟩⟩
theorem set_get {α:Type}{l:List α}{i j:Nat}{x y:α}(h:(l.set i x)[j]? = some y):(i=j∧x=y∧i < l.length)∨(i ≠ j∧l[j]? = some y):=by
  rw [List.getElem?_set] at h
  split at h
  · rename_i e
    split at h
    · cases h; exact .inl ⟨e,rfl,by assumption⟩
    · cases h
  · rename_i e
    exact .inr ⟨e,h⟩
theorem StR.setD (s:StR K H0 L0 δ σ H L){i:Nat}{d:D}{v:V}(r:Rep K H L d v):StR K H0 L0 (δ.set i (.da d)) (σ.set i (some v)) H L:=by
  refine ⟨s.sub,s.new,s.lok,s.same,⟨by rw [List.length_set,List.length_set]; exact s.env.len,fun j d' h=>?_,fun j ds h=>?_,fun j k ds ds' a hjk h1 h2 h3 h4=>?_⟩⟩
  · rcases set_get h with ⟨rfl,e,hi⟩ | ⟨ne,h⟩
    · cases e
      exact ⟨v,List.getElem?_set_self (by rw [← s.env.len]; exact hi),r⟩
    · rw [List.getElem?_set_ne ne]; exact s.env.dat j d' h
  · rcases set_get h with ⟨_,e,_⟩ | ⟨ne,h⟩
    · cases e
    · rw [List.getElem?_set_ne ne]; exact s.env.own j ds h
  · rcases set_get h1 with ⟨_,e,_⟩ | ⟨n1,h1⟩
    · cases e
    · rcases set_get h2 with ⟨_,e,_⟩ | ⟨n2,h2⟩
      · cases e
      · rw [List.getElem?_set_ne n1] at h3
        rw [List.getElem?_set_ne n2] at h4
        exact s.env.apart j k ds ds' a hjk h1 h2 h3 h4
theorem StR.setO (s:StR K H0 L0 δ σ H L){i:Nat}{p:Addr}(hp:H p=none):StR K H0 L0 (δ.set i (.ow [])) (σ.set i (some (.ref p))) (upd H p (.lst [])) (fun a=>L a∨a=p):=by
  have g:Same H (upd H p (.lst [])):=same_upd hp
  have le:Less H L (fun a=>L a∨a=p):=fun a o h n z=>z.elim n fun e=>by rw [e,hp] at h; cases h
  have np:¬ L p:=s.lok.fresh hp
  refine ⟨fun a h=>.inl (s.sub a h),fun a h=>?_,fun a h=>?_,s.same.trans g,⟨by rw [List.length_set,List.length_set]; exact s.env.len,fun j d' h=>?_,fun j ds h=>?_,fun j k ds ds' a hjk h1 h2 h3 h4=>?_⟩⟩
  · rcases h with h | rfl
    · exact (s.new a h).imp id fun ⟨q,xs,e⟩=>⟨q,xs,g _ _ e⟩
    · exact .inr ⟨s.same.free hp,_,upd_same⟩
  · rcases h with h | rfl
    · exact s.lok.same g a h
    · rw [upd_same]; exact fun z=>nomatch z
  · rcases set_get h with ⟨_,e,_⟩ | ⟨ne,h⟩
    · cases e
    · rw [List.getElem?_set_ne ne]
      obtain ⟨v,h1,h2⟩:=s.env.dat j d' h
      exact ⟨v,h1,(h2.less le).same g⟩
  · rcases set_get h with ⟨rfl,e,hi⟩ | ⟨ne,h⟩
    · cases e
      exact ⟨p,[],List.getElem?_set_self (by rw [← s.env.len]; exact hi),.inr rfl,s.same.free hp,upd_same,Reps.nil⟩
    · rw [List.getElem?_set_ne ne]
      obtain ⟨a,vs,h1,h2,h3,h4,h5⟩:=s.env.own j ds h
      exact ⟨a,vs,h1,.inl h2,h3,g _ _ h4,(h5.less le).same g⟩
  · rcases set_get h1 with ⟨rfl,_,hi⟩ | ⟨n1,h1⟩
    · rcases set_get h2 with ⟨e,_,_⟩ | ⟨n2,h2⟩
      · exact hjk e
      · rw [List.getElem?_set_self (by rw [← s.env.len]; exact hi)] at h3
        cases h3
        rw [List.getElem?_set_ne n2] at h4
        obtain ⟨b,vs,q1,q2,_⟩:=s.env.own k ds' h2
        rw [h4] at q1; cases q1
        exact np q2
    · rw [List.getElem?_set_ne n1] at h3
      rcases set_get h2 with ⟨rfl,_,hi⟩ | ⟨n2,h2⟩
      · rw [List.getElem?_set_self (by rw [← s.env.len]; exact hi)] at h4
        cases h4
        obtain ⟨b,vs,q1,q2,_⟩:=s.env.own j ds h1
        rw [h3] at q1; cases q1
        exact np q2
      · rw [List.getElem?_set_ne n2] at h4
        exact s.env.apart j k ds ds' a hjk h1 h2 h3 h4
theorem StR.wr (s:StR K H0 L0 δ σ H L){i:Nat}{ds ds':List D}{a:Addr}{ys:List V}(hi:δ[i]? = some (.ow ds))(ha:σ[i]? = some (some (.ref a)))(r:Reps K H L ds' ys):StR K H0 L0 (δ.set i (.ow ds')) σ (upd H a (.lst ys)) L:=by
  obtain ⟨a',vs,q1,q2,q3,q4,q5⟩:=s.env.own i ds hi
  rw [ha] at q1; cases q1
  have off:Off L H (upd H a (.lst ys)):=fun b o h n=>by rw [upd_ne (by rintro rfl; exact n q2)]; exact h
  refine ⟨s.sub,fun b h=>(s.new b h).imp id fun ⟨q,xs,e⟩=>⟨q,by
    by_cases eb:b=a
    · rw [eb]; exact ⟨_,upd_same⟩
    · rw [upd_ne eb]; exact ⟨xs,e⟩⟩,fun b h=>?_,fun b o h=>?_,⟨by rw [List.length_set]; exact s.env.len,fun j d' h=>?_,fun j ds2 h=>?_,fun j k d1 d2 b hjk h1 h2 h3 h4=>?_⟩⟩
  · by_cases e:b=a
    · rw [e,upd_same]; exact fun z=>nomatch z
    · rw [upd_ne e]; exact s.lok b h
  · rw [upd_ne (ne_of_none h q3)]; exact s.same b o h
  · rcases set_get h with ⟨_,e,_⟩ | ⟨ne,h⟩
    · cases e
    · obtain ⟨v,h1,h2⟩:=s.env.dat j d' h
      exact ⟨v,h1,h2.off off⟩
  · rcases set_get h with ⟨rfl,e,_⟩ | ⟨ne,h⟩
    · cases e
      exact ⟨a,ys,ha,q2,q3,upd_same,r.off off⟩
    · obtain ⟨b,vs',h1,h2,h3,h4,h5⟩:=s.env.own j ds2 h
      have nb:b ≠ a:=by
        rintro rfl
        exact s.env.apart i j ds ds2 b ne hi h ha h1
      exact ⟨b,vs',h1,h2,h3,by rw [upd_ne nb]; exact h4,h5.off off⟩
  · have w:∀ {n:Nat}{z:List D},(δ.set i (.ow ds'))[n]? = some (.ow z)→∃z',δ[n]? = some (.ow z'):=fun {n z} h=>by
      rcases set_get h with ⟨rfl,_,_⟩ | ⟨_,h⟩
      · exact ⟨ds,hi⟩
      · exact ⟨z,h⟩
    obtain ⟨z1,w1⟩:=w h1
    obtain ⟨z2,w2⟩:=w h2
    exact s.env.apart j k z1 z2 b hjk w1 w2 h3 h4
end
structure Ext (L:Addr→Prop)(H:Hp)(L':Addr→Prop)(H':Hp):Prop where
  off:Off L H H'
  sub:∀b,L b→L' b
  new:∀b,L' b→L b∨H b=none
theorem Ext.refl {L:Addr→Prop}{H:Hp}:Ext L H L H:=⟨fun _ _ h _=>h,fun _ h=>h,fun _ h=>.inl h⟩
theorem Ext.same {L:Addr→Prop}{H H':Hp}(s:Same H H'):Ext L H L H':=⟨.of s,fun _ h=>h,fun _ h=>.inl h⟩
theorem Ext.trans {L L1 L2:Addr→Prop}{H H1 H2:Hp}(a:Ext L H L1 H1)(b:Ext L1 H1 L2 H2):Ext L H L2 H2:=
  ⟨fun c o h n=>b.off c o (a.off c o h n) fun z=>(a.new c z).elim n fun e=>(by rw [h] at e; cases e),fun c h=>b.sub c (a.sub c h),fun c h=>by
    rcases b.new c h with z | z
    · exact a.new c z
    · by_cases n:L c
      · exact .inl n
      · right
        cases e:H c with
        | none=>rfl
        | some o=>rw [a.off c o e n] at z; cases z⟩
theorem Ext.own {L:Addr→Prop}{H:Hp}{p:Addr}{o:HO}(h:H p=none):Ext L H (fun a=>L a∨a=p) (upd H p o):=
  ⟨.of (same_upd h),fun _ z=>.inl z,fun b z=>z.imp id fun (e:b=p)=>by rw [e]; exact h⟩
theorem Ext.wr {L:Addr→Prop}{H:Hp}{p:Addr}{o:HO}(h:L p):Ext L H L (upd H p o):=
  ⟨fun b u e n=>by rw [upd_ne (by rintro rfl; exact n h)]; exact e,fun _ z=>z,fun _ z=>.inl z⟩
theorem Ext.rep {K:PySem.W.Frag}{L L':Addr→Prop}{H H':Hp}(x:Ext L H L' H'){d:D}{v:V}(r:Rep K H L d v):Rep K H' L' d v:=by
  have le:Less H L L':=fun a o h n z=>(x.new a z).elim n fun e=>by rw [h] at e; cases e
  exact (r.less le).off fun b o h n=>x.off b o h fun z=>n (x.sub b z)
inductive Out where
  | nx (δ:List En) | rt (P:D→Prop) | bk (δ:List En) | ct (δ:List En) | rf (P:List D→Prop)
def OutOk (K:PySem.W.Frag)(H0:Hp)(L0:Addr→Prop)(L:Addr→Prop)(H:Hp)(E:Ends):Out→Prop
  | .nx δ=>∀σ H' L',StR K H0 L0 δ σ H' L'→Ext L H L' H'→E.nx σ H'
  | .bk δ=>∀σ H' L',StR K H0 L0 δ σ H' L'→Ext L H L' H'→E.bk σ H'
  | .ct δ=>∀σ H' L',StR K H0 L0 δ σ H' L'→Ext L H L' H'→E.ct σ H'
  | .rt P=>∀d v H',P d→Same H0 H'→Rep K H' L0 d v→E.rt v H'
  | .rf P=>∀ds p ws H',P ds→H0 p=none→Same H0 H'→H' p=some (.lst ws)→Reps K H' (fun a=>L0 a∨a=p) ds ws→E.rt (.ref p) H'
theorem OutOk.shift {K:PySem.W.Frag}{H0:Hp}{L0 L L1:Addr→Prop}{H H1:Hp}{E:Ends}{o:Out}(h:OutOk K H0 L0 L H E o)(x:Ext L H L1 H1):OutOk K H0 L0 L1 H1 E o:=by
  cases o with
  | nx δ=>exact fun σ H' L' s y=>h σ H' L' s (x.trans y)
  | bk δ=>exact fun σ H' L' s y=>h σ H' L' s (x.trans y)
  | ct δ=>exact fun σ H' L' s y=>h σ H' L' s (x.trans y)
  | rt P=>exact h
  | rf P=>exact h
def Stm (X:Cx)(st:Stmt)(δ:List En)(o:Out):Prop:=∀H0 L0 σ H L E,LOk L0 H0→StR X.K H0 L0 δ σ H L→OutOk X.K H0 L0 L H E o→WS X st E σ H
def Blk (X:Cx)(sts:List Stmt)(δ:List En)(o:Out):Prop:=∀H0 L0 σ H L E,LOk L0 H0→StR X.K H0 L0 δ σ H L→OutOk X.K H0 L0 L H E o→WB X sts E σ H
section
variable {X:Cx}{δ δ':List En}{o:Out}{st:Stmt}{rest sts:List Stmt}{a b c e:Expr}{pos p py:Pos}{x:Str}{P:D→Prop}{i:Nat}{d:D}
theorem blk_nil:Blk X [] δ (.nx δ):=fun H0 L0 σ H L E l s k=>wb_of pss_nil (k σ H L s .refl)
theorem OutOk.nxt {K:PySem.W.Frag}{H0:Hp}{L0 L:Addr→Prop}{H:Hp}{E:Ends}{nx:St→Hp→Prop}(h:OutOk K H0 L0 L H E o)(hn:∀δ,o ≠ .nx δ):OutOk K H0 L0 L H { E with nx:=nx } o:=by
  cases o with
  | nx δ=>exact absurd rfl (hn δ)
  | rt P=>exact h
  | bk δ=>exact h
  | ct δ=>exact h
  | rf P=>exact h
theorem blk_cons (h1:Stm X st δ (.nx δ'))(h2:Blk X rest δ' o):Blk X (st::rest) δ o:=fun H0 L0 σ H L E l s k =>
  wb_of (pss_cons ps_ws pss_wb) (h1 H0 L0 σ H L _ l s fun σ' H' L' s' x=>h2 H0 L0 σ' H' L' E l s' (k.shift x))
theorem blk_stop (h1:Stm X st δ o)(hn:∀δ,o ≠ .nx δ):Blk X (st::rest) δ o:=fun H0 L0 σ H L E l s k =>
  wb_of (pss_cons ps_ws pss_wb) (h1 H0 L0 σ H L _ l s (k.nxt hn))
theorem blk_rt (h1:Stm X st δ (.rt P)):Blk X (st::rest) δ (.rt P):=blk_stop h1 fun _ z=>nomatch z
theorem blk_rf {P:List D→Prop}(h1:Stm X st δ (.rf P)):Blk X (st::rest) δ (.rf P):=blk_stop h1 fun _ z=>nomatch z
theorem blk_one (h1:Stm X st δ o):Blk X [st] δ o:=fun H0 L0 σ H L E l s k=>wb_of (pss_one ps_ws) (h1 H0 L0 σ H L E l s k)
theorem Blk.imp {P':D→Prop}(h:Blk X sts δ (.rt P))(hp:∀d,P d→P' d):Blk X sts δ (.rt P'):=fun H0 L0 σ H L E l s k=>h H0 L0 σ H L E l s fun d v H' p=>k d v H' (hp d p)
theorem st_ret (h:EvP X e (opn δ) P):Stm X (.Return (some e) pos) δ (.rt P):=fun H0 L0 σ H L E l s k =>
  ws_of (ps_ret pe_we) (h σ H L0 _ (s.lok0 l) (s.opnR l) fun d v H' p g r=>k d v H' p (s.same.trans g) r)
theorem st_retE (h:Ev X e (opn δ) d):Stm X (.Return (some e) pos) δ (.rt (· = d)):=st_ret (h.p rfl)
theorem st_ifT {A B:List Stmt}(h:EvT X c (opn δ) true)(ha:Blk X A δ o):Stm X (.If c A B pos) δ o:=fun H0 L0 σ H L E l s k =>
  ws_of (ps_if pt_wt pss_wb pss_wb) (h σ H L0 _ (s.lok0 l) (s.opnR l) fun H' g=>iteT (ha H0 L0 σ H' L E l (s.grow g) (k.shift (.same g))))
theorem st_ifF {A B:List Stmt}(h:EvT X c (opn δ) false)(hb:Blk X B δ o):Stm X (.If c A B pos) δ o:=fun H0 L0 σ H L E l s k =>
  ws_of (ps_if pt_wt pss_wb pss_wb) (h σ H L0 _ (s.lok0 l) (s.opnR l) fun H' g=>iteF (hb H0 L0 σ H' L E l (s.grow g) (k.shift (.same g))))
theorem st_if {A B:List Stmt}{k:Bool}(h:EvT X c (opn δ) k)(ha:k=true→Blk X A δ o)(hb:k=false→Blk X B δ o):Stm X (.If c A B pos) δ o:=by
  cases k with
  | true=>exact st_ifT h (ha rfl)
  | false=>exact st_ifF h (hb rfl)
theorem st_skip {A:List Stmt}(h:EvT X c (opn δ) false):Stm X (.If c A [] pos) δ (.nx δ):=st_ifF h blk_nil
theorem blk_setP (i:Nat)(h:EvP X e (hid δ) P)(hr:∀d,P d→Blk X rest (δ.set i (.da d)) o)(hN:X.N.Nodup)(hi:X.N[i]? = some x:=by rfl)(hx:Loc X.env.scope x:=by first | exact Or.inl rfl | exact Or.inr rfl)(hf:X.fn x=true∨X.env.scope.names.lookup x=some .local:=by first | exact Or.inl rfl | exact Or.inr rfl)(hs:swapsWith e (some (.Name x py)) pos.line X.env=pure false:=by rfl):Blk X (.Assign [.Name x py] e pos::rest) δ o:=fun H0 L0 σ H L E l s k=>by
  refine wb_of (pss_cons (ps_set hN hi hx pe_we hs hf) pss_wb) (h σ H L _ s.lok s.hidR fun d v H' p g r=>?_)
  exact hr d p H0 L0 _ H' L E l ((s.grow g).setD r) (k.shift (.same g))
theorem blk_set (i:Nat)(h:Ev X e (hid δ) d)(hr:Blk X rest (δ.set i (.da d)) o)(hN:X.N.Nodup)(hi:X.N[i]? = some x:=by rfl)(hx:Loc X.env.scope x:=by first | exact Or.inl rfl | exact Or.inr rfl)(hf:X.fn x=true∨X.env.scope.names.lookup x=some .local:=by first | exact Or.inl rfl | exact Or.inr rfl)(hs:swapsWith e (some (.Name x py)) pos.line X.env=pure false:=by rfl):Blk X (.Assign [.Name x py] e pos::rest) δ o:=blk_setP (P:=(· = d)) i (h.p rfl) (fun d' e=>by rw [e]; exact hr) hN hi hx hf hs
def D.flat:D→Bool
  | .non=>true
  | .bl _=>true
  | .int _=>true
  | .str _=>true
  | _=>false
theorem rep_flat {K:PySem.W.Frag}{H H':Hp}{L L':Addr→Prop}{v:V}(hf:d.flat=true)(h:Rep K H L d v):Rep K H' L' d v:=by
  cases d with
  | non=>exact h
  | bl _=>exact h
  | int _=>exact h
  | str _=>exact h
  | _=>cases hf
theorem blk_setF (i:Nat)(h:Ev X e (opn δ) d)(hfl:d.flat=true)(hr:Blk X rest (δ.set i (.da d)) o)(hN:X.N.Nodup)(hi:X.N[i]? = some x:=by rfl)(hx:Loc X.env.scope x:=by first | exact Or.inl rfl | exact Or.inr rfl)(hf:X.fn x=true∨X.env.scope.names.lookup x=some .local:=by first | exact Or.inl rfl | exact Or.inr rfl)(hs:swapsWith e (some (.Name x py)) pos.line X.env=pure false:=by rfl):Blk X (.Assign [.Name x py] e pos::rest) δ o:=fun H0 L0 σ H L E l s k=>by
  refine wb_of (pss_cons (ps_set hN hi hx pe_we hs hf) pss_wb) (h σ H L0 _ (s.lok0 l) (s.opnR l) fun v H' g r=>?_)
  exact hr H0 L0 _ H' L E l ((s.grow g).setD (rep_flat hfl r)) (k.shift (.same g))
theorem blk_own (i:Nat)(hr:Blk X rest (δ.set i (.ow [])) o)(hN:X.N.Nodup)(hi:X.N[i]? = some x:=by rfl)(hx:Loc X.env.scope x:=by first | exact Or.inl rfl | exact Or.inr rfl)(hf:X.fn x=true∨X.env.scope.names.lookup x=some .local:=by first | exact Or.inl rfl | exact Or.inr rfl)(hs:swapsWith (.List [] p) (some (.Name x py)) pos.line X.env=pure false:=by rfl):Blk X (.Assign [.Name x py] (.List [] p) pos::rest) δ o:=fun H0 L0 σ H L E l s k=>by
  refine wb_of (pss_cons (ps_set hN hi hx (pe_lst pa_nil) hs hf) pss_wb) ⟨Nat.zero_le _,fun q hq=>?_⟩
  exact hr H0 L0 _ _ _ E l (s.setO hq) (k.shift (.own hq))
theorem st_app (i:Nat){ds:List D}{apos cpos npos:Pos}(hδ:δ[i]? = some (.ow ds))(h:Ev X e (hid δ) d)(hz:ds.length≤1000)(hN:X.N[i]? = some x:=by rfl)(hv:Vis X.env.scope x:=by first | exact Or.inl rfl | exact Or.inr (Or.inl rfl) | exact Or.inr (Or.inr rfl))(hd:(x == ("__debug__" : Str))=false:=by decide)(hcd:(x == ("__classdict__" : Str))=false:=by decide)(hst:starEach [e] X.env = [(false,eval e X.env)]:=by rfl)(hbase:attributeBase (.Name x npos) "append" X.env (eval (.Name x npos) X.env)=eval (.Name x npos) X.env:=by rfl)(hfew:((backTo cpos (starEach [e] X.env)).all (fun x=>!x.1) && (backToKw cpos (keywordEach [] X.env)).all (fun x=>x.1.isSome)
      && decide ([e].length+([]:List Keyword).length+(if ([]:List Keyword).isEmpty then 0 else 1) < 30))=true:=by rfl)(hline:(apos.endLine == cpos.line)=true:=by rfl)(hplain:(backTo cpos (starEach [] X.env)).any (·.1)=false:=by rfl)(hsw:swapsWith (.Call (.Attribute (.Name x npos) "append" apos) [e] [] cpos) none pos.line X.env=pure false:=by rfl) :
    Stm X (.Expr (.Call (.Attribute (.Name x npos) "append" apos) [e] [] cpos) pos) δ (.nx (δ.set i (.ow (ds ++ [d])))):=fun H0 L0 σ H L E l s k=>by
  obtain ⟨a,vs,q1,q2,q3,q4,q5⟩:=s.env.own i ds hδ
  refine ws_of (ps_expr (pe_bm PySem.F.plainAttrs_list PySem.F.slot_list_append PySem.F.type_list_append mt_append (pe_var hN hv hd hcd) (pa_cons pe_we pa_nil hst) hbase hfew hline hst hplain) hsw) ?_
  refine ⟨_,q1,.inl ⟨rfl,_,.of q4⟩,h σ H L _ s.lok s.hidR fun v H1 g r=>?_⟩
  have s1:=s.grow g
  exact ⟨a,vs,v,rfl,rfl,g _ _ q4,by rw [← q5.length]; exact small1000 hz,k _ _ _ (s1.wr hδ q1 ((q5.same g).append (Reps.cons r Reps.nil))) ((Ext.same g).trans (.wr q2))⟩
theorem st_forG {iter:Expr}{body:List Stmt}{ds:List D}{o:Out}(i:Nat)(n:Nat)(en:Nat→List En)(hi:EvI X (.Name x p) iter (hid δ) ds)(h0:en 0=δ)(hn:n≤ds.length)(ht:∀ (j:Nat) d,j < n→ds[j]? = some d→Blk X body ((en j).set i (.da d)) (.nx (en (j+1))))(hend:(n=ds.length∧o = .nx (en n)) ∨ ∃d P,ds[n]? = some d∧o = .rt P∧Blk X body ((en n).set i (.da d)) (.rt P))(hc:X.calm=true)(hN:X.N.Nodup)(hx0:X.N[i]? = some x:=by rfl)(hx:Loc X.env.scope x:=by first | exact Or.inl rfl | exact Or.inr rfl)(hf:X.fn x=true∨X.env.scope.names.lookup x=some .local:=by first | exact Or.inl rfl | exact Or.inr rfl)(hxe:PassesOwn (model X.prog X.w) X.A X.env X.xe:=by exact PassesOwn.never)(hs:∀x,foldedSetIterable iter X.env x=pure x:=by intro _; rfl):Stm X (.For (.Name x p) iter body [] pos) δ o:=fun H0 L0 σ H L E l s k=>by
  refine ws_of (ps_for hxe hc pi_wi (pg_name hN hx0 hx hf) pss_wb hs) (hi σ H L _ s.lok s.hidR fun J H1 g it=>?_)
  refine ⟨fun j m σ' H'=>j≤n∧m=ds.length - j ∧ ∃L',Ext L H1 L' H'∧StR X.K H0 L0 (en j) σ' H' L',⟨ds.length,Nat.zero_le _,by simp,L,.refl,h0 ▸ s.grow g⟩,?_⟩
  rintro j m σ' H' ⟨hj,rfl,L',x',s'⟩
  have k':OutOk X.K H0 L0 L' H' E o:=(k.shift (.same g)).shift x'
  have go:∀d,ds[j]? = some d→J.go j H' ∧ ∀v H3,J.yld j H' v H3→H3=H'∧Rep X.K H' L' d v:=fun d hd=>by
    obtain ⟨a1,a2⟩:=(it H' x'.off j).1 d hd
    refine ⟨a1,fun v H3 y=>?_⟩
    obtain ⟨e3,rv⟩:=a2 v H3 y
    exact ⟨e3,x'.rep rv⟩
  by_cases hlt:j < n
  · have hd:ds[j]? = some (ds[j]'(by omega)):=List.getElem?_eq_getElem (by omega)
    obtain ⟨g1,g2⟩:=go _ hd
    refine .inr ⟨g1,fun σ2 H2=>∃L2,Ext L H1 L2 H2∧StR X.K H0 L0 (en (j+1)) σ2 H2 L2,fun σ2 H2 ⟨L2,x2,s2⟩=>⟨ds.length - (j+1),by omega,hlt,rfl,L2,x2,s2⟩,fun v H3 y=>?_⟩
    obtain ⟨e3,rv⟩:=g2 v H3 y
    subst e3
    exact ht j _ hlt hd H0 L0 _ H3 L' _ l (s'.setD rv) fun σ2 H2 L2 s2 x2=>⟨L2,x'.trans x2,s2⟩
  · have e:j=n:=by omega
    subst e
    rcases hend with ⟨e1,e2⟩ | ⟨d,P,hd,e2,hb⟩
    · subst e2
      refine .inl ⟨(it H' x'.off j).2 (by omega),k' σ' H' L' s' .refl⟩
    · subst e2
      obtain ⟨g1,g2⟩:=go d hd
      have hjl:j < ds.length:=(List.getElem?_eq_some_iff.mp hd).1
      refine .inr ⟨g1,fun σ2 H2=>False,fun _ _ z=>z.elim,fun v H3 y=>?_⟩
      obtain ⟨e3,rv⟩:=g2 v H3 y
      subst e3
      exact hb H0 L0 _ H3 L' _ l (s'.setD rv) k'
theorem st_for {iter:Expr}{body:List Stmt}{ds:List D}(i:Nat)(en:Nat→List En)(hi:EvI X (.Name x p) iter (hid δ) ds)(h0:en 0=δ)(ht:∀ (j:Nat) d,ds[j]? = some d→Blk X body ((en j).set i (.da d)) (.nx (en (j+1))))(hc:X.calm=true)(hN:X.N.Nodup)(hx0:X.N[i]? = some x:=by rfl)(hx:Loc X.env.scope x:=by first | exact Or.inl rfl | exact Or.inr rfl)(hf:X.fn x=true∨X.env.scope.names.lookup x=some .local:=by first | exact Or.inl rfl | exact Or.inr rfl)(hxe:PassesOwn (model X.prog X.w) X.A X.env X.xe:=by exact PassesOwn.never)(hs:∀x,foldedSetIterable iter X.env x=pure x:=by intro _; rfl):Stm X (.For (.Name x p) iter body [] pos) δ (.nx (en ds.length)):=
  st_forG i ds.length en hi h0 (Nat.le_refl _) (fun j d _ hd=>ht j d hd) (.inl ⟨rfl,rfl⟩) hc hN hx0 hx hf hxe hs
theorem blk_comp {α:Type}{ks:List α}{g f:α→D}{q:α→Bool}{elt iter:Expr}{y:Str}{px cpos:Pos}{ifs:List Expr}{scope:Scope}{N₁:List Str}{δ₁:List (Option D)}(i:Nat)(O:CompOk X scope y N₁)(hw:Weak X N₁ (hid δ) δ₁)(hi:EvI X (.Name y px) iter (hid δ) (ks.map g))(hz:ks.length≤1000)(ht:∀k∈ks,∀cl C s₀ H₀ fp,EvTs (cxComp X scope (y::N₁) cl C s₀ H₀ fp) ifs (some (g k)::δ₁) (q k))(he:∀k∈ks,q k=true→∀cl C s₀ H₀ fp,Ev (cxComp X scope (y::N₁) cl C s₀ H₀ fp) elt (some (g k)::δ₁) (f k))(hr:Blk X rest (δ.set i (.da (.lst ((ks.filter q).map f)))) o)(hN:X.N.Nodup)(hx0:X.N[i]? = some x:=by rfl)(hx:X.env.scope.names.lookup x=some .local:=by rfl)(hsw:swapsWith (.ListComp elt [⟨.Name y px,iter,ifs,0⟩] scope cpos) (some (.Name x py)) pos.line X.env=pure true:=by rfl)(hs:∀x,foldedSetIterable iter X.env x=pure x:=by intro _; rfl) :
    Blk X (.Assign [.Name x py] (.ListComp elt [⟨.Name y px,iter,ifs,0⟩] scope cpos) pos::rest) δ o:=fun H0 L0 σ H L E l s k=>by
  refine wb_of (pss_cons ps_ws pss_wb) fun pins sh I=>?_
  obtain ⟨σ₁,h1,h2,h3⟩:=hw σ I.len
  refine ps_comp O pi_wi hN hx0 hx hsw hs h1 h3 (hi σ H L _ s.lok s.hidR fun J H' s' it=>comp_w (H0:=H) hz ht he (s.lok.same s') (h2 _ _ _ (s.hidR.same s')) it fun v H2 s2 r2=>?_) pins sh I
  exact hr H0 L0 _ H2 L E l (((s.grow s').grow s2).setD r2) (k.shift (.same (s'.trans s2)))
end
end DL
namespace DL
open PySem PySem.Spec PyProof.Rows L2
section
variable {X:Cx}{δ:List En}{e:Expr}{pos:Pos}{d:D}
theorem st_expr (h:Ev X e (opn δ) d)(hs:swapsWith e none pos.line X.env=pure false:=by rfl):Stm X (.Expr e pos) δ (.nx δ):=fun H0 L0 σ H L E l s k =>
  ws_of (ps_expr pe_we hs) (h σ H L0 _ (s.lok0 l) (s.opnR l) fun v H' g r=>k σ H' L (s.grow g) (.same g))
end
def startD (N:List Str)(ds:List D):List En:=ds.map En.da++List.replicate (N.length - ds.length) .no
theorem start_ok {K:PySem.W.Frag}{H:Hp}{L:Addr→Prop}{N:List Str}{ds:List D}{vs:List V}(l:LOk L H)(r:Reps K H L ds vs):StR K H L (startD N ds) (start N vs) H L:=by
  have hl:=r.length
  have gt:∀ (i:Nat) e,(startD N ds)[i]? = some e→(∃d,ds[i]? = some d∧e = .da d)∨e = .no:=fun i e h=>by
    unfold startD at h
    by_cases hi:i < ds.length
    · rw [List.getElem?_append_left (by simpa using hi),List.getElem?_map,List.getElem?_eq_getElem hi] at h
      cases h
      exact .inl ⟨_,List.getElem?_eq_getElem hi,rfl⟩
    · rw [List.getElem?_append_right (by simpa using hi),List.getElem?_replicate] at h
      split at h
      · cases h; exact .inr rfl
      · cases h
  refine ⟨fun _ h=>h,fun _ h=>.inl h,l,.refl _,⟨?_,fun i d h=>?_,fun i ds' h=>?_,fun i j d1 d2 a _ h1 _ _=>?_⟩⟩
  · unfold startD L2.start
    rw [List.length_append,List.length_append,List.length_map,List.length_map,List.length_replicate,List.length_replicate,hl]
  · rcases gt i _ h with ⟨d',h1,h2⟩ | h2
    · cases h2
      obtain ⟨v,h3,h4⟩:=r.get h1
      refine ⟨v,?_,h4⟩
      have hi:i < vs.length:=(List.getElem?_eq_some_iff.mp h3).1
      unfold L2.start
      rw [List.getElem?_append_left (by simpa using hi),List.getElem?_map,h3]
      rfl
    · cases h2
  · rcases gt i _ h with ⟨d',h1,h2⟩ | h2 <;> cases h2
  · rcases gt i _ h1 with ⟨d',_,h2⟩ | h2 <;> cases h2
section
variable {P:Program}{w:World}{K:PySem.W.Frag}{mg:Str→Option Value}{base:Heap}{ι:Type}{Ar:ι→List D}{Pre:ι→Prop}{Post:ι→D→Prop}
theorem fn_pure {x qual:Str}{st:Stmt}{f:Addr}{fd:FuncData}{N ps:List Str}{k:Nat}(F:Fun K x qual st f fd)(S:FnScope N ps (defScope st))(hl:∀i,(Ar i).length=ps.length)(body:∀ (cdv:Value) (A:Around) (outer:List Env) (s:Shared) (H:Hp) (E:XK),Room k (A.deeper (envOfC qual (defScope st) s.heap.objs.size f cdv))→∀i,Pre i →
      Blk (cxOf CX0 P w K mg base N qual (defScope st) f cdv A outer s H E).nox (defBody st) (startD N (Ar i)) (.rt (Post i))):FnOk P w K mg base CX0 (k+1) f fd ps (PureSp K Ar Pre Post):=by
  refine F.ok S (fun vs H Q E ⟨L,i,_,r,p,_⟩=>by rw [← r.length]; exact hl i) fun cdv A outer s H vs Q E hr ⟨L,i,l,r,p,q⟩=>⟨_,pss_wb,?_⟩
  exact body cdv A outer s H E hr i p H L _ H L _ l (start_ok l r) fun d v H' po g r'=>q d v H' po g r'
theorem fn_none {x qual:Str}{st:Stmt}{f:Addr}{fd:FuncData}{N ps:List Str}{k:Nat}(F:Fun K x qual st f fd)(S:FnScope N ps (defScope st))(hl:∀i,(Ar i).length=ps.length)(body:∀ (cdv:Value) (A:Around) (outer:List Env) (s:Shared) (H:Hp) (E:XK),Room k (A.deeper (envOfC qual (defScope st) s.heap.objs.size f cdv))→∀i,Pre i →
      ∃δ',Blk (cxOf CX0 P w K mg base N qual (defScope st) f cdv A outer s H E).nox (defBody st) (startD N (Ar i)) (.nx δ')):FnOk P w K mg base CX0 (k+1) f fd ps (PureSp K Ar Pre fun _ d=>d = .non):=by
  refine F.ok S (fun vs H Q E ⟨L,i,_,r,p,_⟩=>by rw [← r.length]; exact hl i) fun cdv A outer s H vs Q E hr ⟨L,i,l,r,p,q⟩=>⟨_,pss_wb,?_⟩
  obtain ⟨δ',hb⟩:=body cdv A outer s H E hr i p
  exact hb H L _ H L _ l (start_ok l r) fun σ H' L' s' x'=>q .non .non H' rfl s'.same (rep_non.mpr rfl)
end
mutual
def toPy:D→PyData
  | .non=>.none
  | .bl b=>.bool b
  | .int i=>.int i
  | .str x=>.str x
  | .tup ds=>.tuple (toPys ds)
  | .lst ds=>.list (toPys ds)
  | .ins _ _ _=>.none
def toPys:List D→List PyData
  | []=>[]
  | d::ds=>toPy d::toPys ds
end
mutual
def noIns:D→Bool
  | .ins _ _ _=>false
  | .tup ds=>noInss ds
  | .lst ds=>noInss ds
  | _=>true
def noInss:List D→Bool
  | []=>true
  | d::ds=>noIns d && noInss ds
end
section
variable {X:Cx}{pins:List (Addr×Obj)}{σ:St}{H:Hp}{s:Shared}{L:Addr→Prop}
mutual
theorem reads_of (I:Inv X pins σ H s):∀ {d:D}{v:V}{u:Value},noIns d=true→Rep X.K H L d v→RelV v u→∃as,Reads s.heap u (toPy d) as
  | .non,v,u,_,h,r=>by rw [rep_non] at h; subst h; cases r; exact ⟨_,.none⟩
  | .bl b,v,u,_,h,r=>by rw [rep_bl] at h; subst h; cases r; exact ⟨_,.bool b⟩
  | .int i,v,u,_,h,r=>by rw [rep_int] at h; subst h; obtain ⟨t,rfl⟩:=r; exact ⟨_,.int i t⟩
  | .str i,v,u,_,h,r=>by rw [rep_str] at h; subst h; obtain ⟨t,rfl⟩:=r; exact ⟨_,.str i t⟩
  | .tup ds,v,u,n,h,r=>by
    obtain ⟨a,vs,rfl,hq,hr⟩:=rep_tup.mp h
    cases r
    obtain ⟨its,rv,⟨o,e,c,k,dd⟩,_⟩:=I.tuple hq.sq
    obtain ⟨as,ra⟩:=readss_of I (by unfold noIns at n; exact n) hr rv
    exact ⟨_,by unfold toPy; exact .tuple e c dd (by simpa using ra)⟩
  | .lst ds,v,u,n,h,r=>by
    obtain ⟨a,vs,rfl,hq,hr⟩:=rep_lst.mp h
    cases r
    obtain ⟨its,rv,⟨o,k,e,c,_,dd⟩,_⟩:=I.list hq.sq
    obtain ⟨as,ra⟩:=readss_of I (by unfold noIns at n; exact n) hr rv
    exact ⟨_,by unfold toPy; exact .list e c dd (by simpa using ra)⟩
  | .ins _ _ _,_,_,n,_,_=>by unfold noIns at n; cases n
theorem readss_of (I:Inv X pins σ H s):∀ {ds:List D}{vs:List V}{us:List Value},noInss ds=true→Reps X.K H L ds vs→Vals vs us→∃as,ReadsAll s.heap us (toPys ds) as
  | [],_,_,_,h,r=>by rw [reps_nil] at h; subst h; cases r; exact ⟨_,by unfold toPys; exact .nil⟩
  | d::ds,_,_,n,h,r=>by
    obtain ⟨v,vs,rfl,h1,h2⟩:=reps_cons.mp h
    unfold noInss at n
    rw [Bool.and_eq_true] at n
    cases r with
    | cons r1 r2 =>
      obtain ⟨as,ra⟩:=reads_of I n.1 h1 r1
      obtain ⟨bs,rb⟩:=readss_of I n.2 h2 r2
      exact ⟨_,by unfold toPys; exact .cons ra rb⟩
end
end
section
variable {X:Cx}{δ:List (Option D)}{a b:Expr}{pos:Pos}{d d':D}
def rEqD (K:PySem.W.Frag)(d d':D)(neg:Bool):R2:=fun x y H Q=>∃L,LOk L H∧Rep K H L d x∧Rep K H L d' y∧Q (.bl (if neg then !PyData.eqv (toPy d) (toPy d') else PyData.eqv (toPy d) (toPy d'))) H
theorem op_eqD (hu:X.A.units+64 < cLine)(n1:noIns d=true)(n2:noIns d'=true)(s1:SeqAt.shaped (toPy d)=true)(s2:SeqAt.shaped (toPy d')=true):OpR X (compareOp .Eq) (rEqD X.K d d' false):=by
  intro pins s σ H x y v u Q I rx ry h
  obtain ⟨L,l,r1,r2,q⟩:=h
  obtain ⟨as,ra⟩:=reads_of I n1 r1 rx
  obtain ⟨bs,rb⟩:=reads_of I n2 r2 ry
  exact eq_dataH ra rb s1 s2 hu ⟨.bl _,H,I,rfl,q⟩
theorem op_neD (hu:X.A.units+64 < cLine)(n1:noIns d=true)(n2:noIns d'=true)(s1:SeqAt.shaped (toPy d)=true)(s2:SeqAt.shaped (toPy d')=true):OpR X (compareOp .NotEq) (rEqD X.K d d' true):=by
  intro pins s σ H x y v u Q I rx ry h
  obtain ⟨L,l,r1,r2,q⟩:=h
  obtain ⟨as,ra⟩:=reads_of I n1 r1 rx
  obtain ⟨bs,rb⟩:=reads_of I n2 r2 ry
  exact ne_dataH ra rb s1 s2 hu ⟨.bl _,H,I,rfl,q⟩
theorem et_eqD {k:Bool}(hu:X.A.units+64 < cLine)(ha:Ev X a δ d)(hb:Ev X b δ d')(n1:noIns d=true)(n2:noIns d'=true)(s1:SeqAt.shaped (toPy d)=true)(s2:SeqAt.shaped (toPy d')=true)(hk:PyData.eqv (toPy d) (toPy d')=k):EvT X (.Compare a [.Eq] [b] pos) δ k:=
  ev_tst (op_eqD hu n1 n2 s1 s2) ha hb (nomark _) fun x y H L Q l r1 r2 q=>⟨L,l,r1,r2,q _ H (.refl _) (rep_bl.mpr (by simp [hk]))⟩
theorem et_neD {k:Bool}(hu:X.A.units+64 < cLine)(ha:Ev X a δ d)(hb:Ev X b δ d')(n1:noIns d=true)(n2:noIns d'=true)(s1:SeqAt.shaped (toPy d)=true)(s2:SeqAt.shaped (toPy d')=true)(hk:PyData.eqv (toPy d) (toPy d')=k):EvT X (.Compare a [.NotEq] [b] pos) δ (!k):=
  ev_tst (op_neD hu n1 n2 s1 s2) ha hb (nomark _) fun x y H L Q l r1 r2 q=>⟨L,l,r1,r2,q _ H (.refl _) (rep_bl.mpr (by simp [hk]))⟩
end
end DL
namespace Srt
open PySem PySem.W PyProof.Rows
def ev (lt:Nat→Nat→Bool){α:Type}:KasT α→α
  | .ret a=>a
  | .ask i j k=>ev lt (k (lt i j))
theorem ev_bind {lt:Nat→Nat→Bool}{α β:Type}(g:α→KasT β):∀t:KasT α,ev lt (t.bind g)=ev lt (g (ev lt t))
  | .ret _=>rfl
  | .ask i j k=>ev_bind g (k (lt i j))
section
variable (f:Nat→Nat)
abbrev lf:Nat→Nat→Bool:=fun i j=>decide (f i < f j)
def ky (p:Array Nat)(i:Nat):Nat:=f (p.getD i 0)
def Up (p:Array Nat)(n:Nat):Prop:=∀i j,i≤j→j < n→ky f p i≤ky f p j
def Dn (p:Array Nat)(n:Nat):Prop:=∀i j,i≤j→j < n→ky f p j≤ky f p i
variable {f}
theorem ky_congr {p q:Array Nat}{i j:Nat}(h:p[i]? = q[j]?):ky f p i=ky f q j:=by
  unfold ky
  rw [Array.getD_eq_getD_getElem?,Array.getD_eq_getD_getElem?,h]
theorem Up.more {p:Array Nat}{n:Nat}(h:Up f p n)(hn:1≤n)(hl:ky f p (n - 1)≤ky f p n):Up f p (n+1):=fun i j hij hj=>by
  by_cases e:j=n
  · subst e
    by_cases e2:i=j
    · subst e2; exact Nat.le_refl _
    · exact Nat.le_trans (h i (j - 1) (by omega) (by omega)) hl
  · exact h i j hij (by omega)
theorem Dn.more {p:Array Nat}{n:Nat}(h:Dn f p n)(hn:1≤n)(hl:ky f p n≤ky f p (n - 1)):Dn f p (n+1):=fun i j hij hj=>by
  by_cases e:j=n
  · subst e
    by_cases e2:i=j
    · subst e2; exact Nat.le_refl _
    · exact Nat.le_trans hl (h i (j - 1) (by omega) (by omega))
  · exact h i j hij (by omega)
theorem ky_rev {p:Array Nat}{i j:Nat}(hj:j≤p.size)(k:Nat):ky f (kas_rev p i j) k=if i≤k∧k < j then ky f p (i+j - 1 - k) else ky f p k:=by
  have e:=getElem?_mirror_all (xs:=p) (i:=i) hj k
  unfold kas_rev
  split <;> rename_i h
  · rw [if_pos h] at e; exact ky_congr e
  · rw [if_neg h] at e; exact ky_congr e
theorem ky_rev_eq {p:Array Nat}{i j:Nat}(hj:j≤p.size)(he:∀k,i≤k→k < j→ky f p k=ky f p (j - 1))(k:Nat):ky f (kas_rev p i j) k=ky f p k:=by
  rw [ky_rev hj]
  split
  · rw [he _ (by omega) (by omega),he k (by omega) (by omega)]
  · rfl
theorem Dn.of_eq {p q:Array Nat}{n:Nat}(h:Dn f p n)(e:∀k,ky f q k=ky f p k):Dn f q n:=fun i j a b=>by rw [e,e]; exact h i j a b
theorem rev_size (p:Array Nat)(i j:Nat):(kas_rev p i j).size=p.size:=mirror_size _ _ _ _
theorem rev_perm (p:Array Nat)(i j:Nat):(kas_rev p i j).Perm p:=mirror_perm _ _ _ _
theorem asc_ok {p:Array Nat}:∀ (fu n:Nat),1≤n→Up f p n →
    n≤ev (lf f) (kas_asc p fu n)∧ev (lf f) (kas_asc p fu n)≤n+fu∧Up f p (ev (lf f) (kas_asc p fu n)) ∧
    (ev (lf f) (kas_asc p fu n)=n+fu∨ky f p (ev (lf f) (kas_asc p fu n)) < ky f p (ev (lf f) (kas_asc p fu n) - 1))
  | 0,n,_,hu=>⟨Nat.le_refl _,Nat.le_refl _,hu,.inl rfl⟩
  | fu+1,n,hn,hu=>by
    have e0:ev (lf f) (kas_asc p (fu+1) n)=ev (lf f) (if decide (ky f p n < ky f p (n - 1))=true then .ret n else kas_asc p fu (n+1)):=rfl
    rw [e0]
    by_cases h:ky f p n < ky f p (n - 1)
    · rw [if_pos (decide_eq_true h)]
      exact ⟨Nat.le_refl _,by show n≤_; omega,hu,.inr h⟩
    · rw [if_neg (by simpa using h)]
      obtain ⟨a,b,c,d⟩:=asc_ok fu (n+1) (by omega) (hu.more hn (by omega))
      exact ⟨by omega,by omega,c,d.imp (fun e=>by omega) id⟩
structure DescOk (f:Nat→Nat)(p:Array Nat)(n lim:Nat)(r:Array Nat×Nat×Nat):Prop where
  perm:r.1.Perm p
  size:r.1.size=p.size
  key:∀k,ky f r.1 k=ky f p k
  lo:n≤r.2.1
  hi:r.2.1≤lim
  q:r.2.2+1≤r.2.1
  dn:Dn f p r.2.1
  eq:∀k,r.2.1 - (r.2.2+1)≤k→k < r.2.1→ky f p k=ky f p (r.2.1 - 1)
theorem DescOk.trans {p p':Array Nat}{n n' lim:Nat}{r:Array Nat×Nat×Nat}(h:DescOk f p' n' lim r)(hp:p'.Perm p)(hs:p'.size=p.size)(hk:∀k,ky f p' k=ky f p k)(hn:n≤n'):DescOk f p n lim r:=
  ⟨h.perm.trans hp,h.size.trans hs,fun k=>(h.key k).trans (hk k),Nat.le_trans hn h.lo,h.hi,h.q,h.dn.of_eq fun k=>(hk k).symm,fun k a b=>by rw [← hk,← hk]; exact h.eq k a b⟩
theorem desc_ok:∀ (fu:Nat) (p:Array Nat) (n q:Nat),1≤n→q+1≤n→n+fu≤p.size→Dn f p n→(∀k,n - (q+1)≤k→k < n→ky f p k=ky f p (n - 1)) →
    DescOk f p n (n+fu) (ev (lf f) (kas_desc fu p n q))
  | 0,p,n,q,_,hq,_,hd,he=>⟨.refl _,rfl,fun _=>rfl,Nat.le_refl _,Nat.le_refl _,hq,hd,he⟩
  | fu+1,p,n,q,hn,hq,hz,hd,he=>by
    have e0:ev (lf f) (kas_desc (fu+1) p n q)=ev (lf f) (if decide (ky f p n < ky f p (n - 1))=true then (if q > 0 then kas_desc fu (kas_rev p (n - (q+1)) n) (n+1) 0 else kas_desc fu p (n+1) 0)
      else if decide (ky f p (n - 1) < ky f p n)=true then .ret (p,n,q) else kas_desc fu p (n+1) (q+1)):=by
      show ev (lf f) (if decide (ky f p n < ky f p (n - 1))=true then _ else _)=_
      by_cases h:ky f p n < ky f p (n - 1)
      · rw [if_pos (decide_eq_true h),if_pos (decide_eq_true h)]
      · rw [if_neg (by simpa using h),if_neg (by simpa using h)]; rfl
    rw [e0]
    have one:∀k,n+1 - (0+1)≤k→k < n+1→k=n:=fun k a b=>by omega
    by_cases h:ky f p n < ky f p (n - 1)
    · rw [if_pos (decide_eq_true h)]
      have hd':=hd.more hn (by omega)
      split
      · have hk:=ky_rev_eq (f:=f) (p:=p) (i:=n - (q+1)) (j:=n) (by omega) he
        have ih:=desc_ok fu (kas_rev p (n - (q+1)) n) (n+1) 0 (by omega) (by omega) (by rw [rev_size]; omega) (hd'.of_eq hk) (fun k a b=>by rw [one k a b]; rfl)
        rw [show n+1+fu=n+(fu+1) by omega] at ih
        exact ih.trans (rev_perm _ _ _) (rev_size _ _ _) hk (by omega)
      · have ih:=desc_ok fu p (n+1) 0 (by omega) (by omega) (by omega) hd' (fun k a b=>by rw [one k a b]; rfl)
        rw [show n+1+fu=n+(fu+1) by omega] at ih
        exact ih.trans (.refl _) rfl (fun _=>rfl) (by omega)
    · rw [if_neg (by simpa using h)]
      by_cases h2:ky f p (n - 1) < ky f p n
      · rw [if_pos (decide_eq_true h2)]
        exact ⟨.refl _,rfl,fun _=>rfl,Nat.le_refl _,by show n≤_; omega,hq,hd,he⟩
      · rw [if_neg (by simpa using h2)]
        have ee:ky f p n=ky f p (n - 1):=by omega
        have ih:=desc_ok fu p (n+1) (q+1) (by omega) (by omega) (by omega) (hd.more hn (by omega)) (fun k a b=>by
          by_cases e:k=n
          · rw [e]; rfl
          · rw [he k (by omega) (by omega)]; exact ee.symm)
        rw [show n+1+fu=n+(fu+1) by omega] at ih
        exact ih.trans (.refl _) rfl (fun _=>rfl) (by omega)
structure RunOk (f:Nat→Nat)(p:Array Nat)(nrem:Nat)(r:Nat×Array Nat):Prop where
  perm:r.2.Perm p
  size:r.2.size=p.size
  hi:r.1≤nrem
  up:Up f r.2 r.1
theorem tail3_ok {p:Array Nat}{n nrem:Nat}(h1:1≤n)(hn:n≤nrem)(hz:nrem≤p.size)(hd:Dn f p n):RunOk f p nrem (ev (lf f) (kas_tail3 n nrem p)):=by
  unfold kas_tail3
  rw [ev_bind]
  have hu:Up f (kas_rev p 0 n) n:=fun i j hij hj=>by
    rw [ky_rev (by omega),ky_rev (by omega),if_pos ⟨by omega,by omega⟩,if_pos ⟨by omega,by omega⟩]
    exact hd _ _ (by omega) (by omega)
  obtain ⟨a,b,c,_⟩:=asc_ok (f:=f) (nrem - n) n h1 hu
  exact ⟨rev_perm _ _ _,rev_size _ _ _,by show _≤nrem; exact Nat.le_trans b (by omega),c⟩
theorem descPart_ok {p:Array Nat}{n nrem:Nat}(h1:1≤n)(hn:n+1≤nrem)(hz:nrem≤p.size)(hd:Dn f p (n+1)):RunOk f p nrem (ev (lf f) (kas_descPart n nrem p)):=by
  unfold kas_descPart
  rw [ev_bind]
  have D:=desc_ok (f:=f) (nrem - (n+1)) p (n+1) 0 (by omega) (by omega) (by omega) hd (fun k a b=>by
    have:k=n:=by omega
    rw [this]; rfl)
  rw [show n+1+(nrem - (n+1))=nrem by omega] at D
  generalize ev (lf f) (kas_desc (nrem - (n+1)) p (n+1) 0)=r at D
  have lo:=D.lo
  have hi:=D.hi
  have hs:=D.size
  have hq:=D.q
  have hd1:Dn f r.1 r.2.1:=D.dn.of_eq D.key
  split
  · have hk:=ky_rev_eq (f:=f) (p:=r.1) (i:=r.2.1 - (r.2.2+1)) (j:=r.2.1) (by omega) (fun k a b=>by rw [D.key,D.key]; exact D.eq k a b)
    have T:=tail3_ok (f:=f) (p:=kas_rev r.1 (r.2.1 - (r.2.2+1)) r.2.1) (n:=r.2.1) (nrem:=nrem) (by omega) hi (by rw [rev_size]; omega) (hd1.of_eq hk)
    exact ⟨T.perm.trans ((rev_perm _ _ _).trans D.perm),T.size.trans ((rev_size _ _ _).trans hs),T.hi,T.up⟩
  · have T:=tail3_ok (f:=f) (p:=r.1) (n:=r.2.1) (nrem:=nrem) (by omega) hi (by omega) hd1
    exact ⟨T.perm.trans D.perm,T.size.trans hs,T.hi,T.up⟩
theorem count_ok {p:Array Nat}{nrem:Nat}(h1:1≤nrem)(hz:nrem≤p.size):RunOk f p nrem (ev (lf f) (kas_count nrem p)):=by
  unfold kas_count
  rw [ev_bind]
  obtain ⟨a,b,c,d⟩:=asc_ok (f:=f) (p:=p) (nrem - 1) 1 (Nat.le_refl _) (fun i j hij hj=>by
    have:i=j:=by omega
    rw [this]; exact Nat.le_refl _)
  generalize ev (lf f) (kas_asc p (nrem - 1) 1)=n at a b c d
  by_cases e:n=nrem
  · rw [if_pos (by simpa using e)]
    exact ⟨.refl _,rfl,by show n≤nrem; omega,c⟩
  · rw [if_neg (by simpa using e)]
    have dd:ky f p n < ky f p (n - 1):=d.resolve_left (by omega)
    by_cases h:n > 1
    · rw [if_pos h]
      show RunOk f p nrem (ev (lf f) (if decide (ky f p 0 < ky f p (n - 1))=true then .ret (n,p) else kas_descPart n nrem (kas_rev p 0 n)))
      by_cases h2:ky f p 0 < ky f p (n - 1)
      · rw [if_pos (decide_eq_true h2)]
        exact ⟨.refl _,rfl,by show n≤nrem; omega,c⟩
      · rw [if_neg (by simpa using h2)]
        have eqs:∀k,k < n→ky f p k=ky f p (n - 1):=fun k hk=>by
          have:=c 0 k (Nat.zero_le _) hk
          have:=c k (n - 1) (by omega) (by omega)
          omega
        have hk:=ky_rev_eq (f:=f) (p:=p) (i:=0) (j:=n) (by omega) (fun k _ b=>eqs k b)
        have hd:Dn f p (n+1):=(show Dn f p n from fun i j hij hj=>by rw [eqs j hj,eqs i (by omega)]; exact Nat.le_refl _).more (by omega) (by omega)
        have T:=descPart_ok (f:=f) (p:=kas_rev p 0 n) (n:=n) (nrem:=nrem) a (by omega) (by rw [rev_size]; omega) (hd.of_eq hk)
        exact ⟨T.perm.trans (rev_perm _ _ _),T.size.trans (rev_size _ _ _),T.hi,T.up⟩
    · rw [if_neg h]
      have hn1:n=1:=by omega
      subst hn1
      have hd:Dn f p 2:=(show Dn f p 1 from fun i j hij hj=>by
        have:i=j:=by omega
        rw [this]; exact Nat.le_refl _).more (Nat.le_refl _) (by omega)
      exact descPart_ok (f:=f) (p:=p) (n:=1) (nrem:=nrem) (by omega) (by omega) hz hd
theorem place_ok {p:Array Nat}{k:Nat}(hu:Up f p k):∀ (fu l r:Nat),l≤r→r≤k→r - l≤fu→(∀i,i < l→ky f p i≤ky f p k)→(∀i,r≤i→i < k→ky f p k≤ky f p i) →
    ev (lf f) (kas_place p k fu l r)≤k∧(∀i,i < ev (lf f) (kas_place p k fu l r)→ky f p i≤ky f p k)∧(∀i,ev (lf f) (kas_place p k fu l r)≤i→i < k→ky f p k≤ky f p i)
  | 0,l,r,h1,h2,h3,lo,hi=>by
    have:l=r:=by omega
    subst this
    exact ⟨h2,lo,hi⟩
  | fu+1,l,r,h1,h2,h3,lo,hi=>by
    unfold kas_place
    by_cases e:l ≥ r
    · rw [if_pos e]
      have:l=r:=by omega
      subst this
      exact ⟨h2,lo,hi⟩
    · rw [if_neg e]
      show ev (lf f) (if decide (ky f p k < ky f p ((l+r) / 2))=true then kas_place p k fu l ((l+r) / 2) else kas_place p k fu ((l+r) / 2+1) r)≤k∧(∀i,i < ev (lf f) (if decide (ky f p k < ky f p ((l+r) / 2))=true then kas_place p k fu l ((l+r) / 2) else kas_place p k fu ((l+r) / 2+1) r)→ky f p i≤ky f p k) ∧
        (∀i,ev (lf f) (if decide (ky f p k < ky f p ((l+r) / 2))=true then kas_place p k fu l ((l+r) / 2) else kas_place p k fu ((l+r) / 2+1) r)≤i→i < k→ky f p k≤ky f p i)
      by_cases h:ky f p k < ky f p ((l+r) / 2)
      · rw [if_pos (decide_eq_true h)]
        exact place_ok hu fu l ((l+r) / 2) (by omega) (by omega) (by omega) lo (fun i a b=>Nat.le_trans (Nat.le_of_lt h) (hu _ _ a b))
      · rw [if_neg (by simpa using h)]
        exact place_ok hu fu ((l+r) / 2+1) r (by omega) h2 (by omega) (fun i a=>Nat.le_trans (hu i ((l+r) / 2) (by omega) (by omega)) (by omega)) hi
theorem ky_bubble {p:Array Nat}{src d:Nat}(hs:src < p.size)(hd:d≤src)(k:Nat):ky f (bubble p src d) k=if k=src - d then ky f p src else if src - d < k∧k≤src then ky f p (k - 1) else ky f p k:=by
  have e:=getElem?_bubble hs d hd k
  by_cases h1:k=src - d
  · rw [if_pos h1] at e ⊢; exact ky_congr e
  · rw [if_neg h1] at e ⊢
    by_cases h2:src - d < k∧k≤src
    · rw [if_pos h2] at e ⊢; exact ky_congr e
    · rw [if_neg h2] at e ⊢; exact ky_congr e
theorem bin_ok:∀ (fu:Nat) (p:Array Nat) (k:Nat),k+fu≤p.size→Up f p k→(ev (lf f) (kas_bin fu p k)).Perm p∧Up f (ev (lf f) (kas_bin fu p k)) (k+fu)
  | 0,p,k,_,hu=>⟨.refl _,hu⟩
  | fu+1,p,k,hz,hu=>by
    unfold kas_bin
    rw [ev_bind]
    obtain ⟨hl,lo,hi⟩:=place_ok (f:=f) hu k 0 k (Nat.zero_le _) (Nat.le_refl _) (by omega) (fun i h=>absurd h (by omega)) (fun i a b=>absurd b (by omega))
    generalize ev (lf f) (kas_place p k k 0 k)=l at hl lo hi
    have hub:Up f (bubble p k (k - l)) (k+1):=fun i j hij hj=>by
      rw [ky_bubble (by omega) (by omega),ky_bubble (by omega) (by omega)]
      have e:k - (k - l)=l:=by omega
      rw [e]
      by_cases hi1:i=l
      · rw [if_pos hi1]
        by_cases hj1:j=l
        · rw [if_pos hj1]; exact Nat.le_refl _
        · rw [if_neg hj1,if_pos ⟨by omega,by omega⟩]
          exact hi _ (by omega) (by omega)
      · rw [if_neg hi1]
        by_cases hi2:l < i∧i≤k
        · rw [if_pos hi2,if_neg (by omega),if_pos ⟨by omega,by omega⟩]
          exact hu _ _ (by omega) (by omega)
        · rw [if_neg hi2]
          by_cases hj1:j=l
          · rw [if_pos hj1]; exact lo i (by omega)
          · rw [if_neg hj1]
            by_cases hj2:l < j∧j≤k
            · rw [if_pos hj2]; exact hu _ _ (by omega) (by omega)
            · rw [if_neg hj2]; exact hu _ _ (by omega) (by omega)
    obtain ⟨a,b⟩:=bin_ok fu (bubble p k (k - l)) (k+1) (by rw [bubble_size]; omega) hub
    exact ⟨a.trans (bubble_perm _ _ _),by rw [show k+(fu+1)=k+1+fu by omega]; exact b⟩
theorem sort_ok (f:Nat→Nat){n:Nat}(h1:1≤n):(ev (lf f) (kas_sort n)).toList.Perm (List.range n)∧((ev (lf f) (kas_sort n)).toList.map f).Pairwise (· ≤ ·):=by
  have key:(ev (lf f) (kas_sort n)).Perm (List.toArray (List.range n))∧Up f (ev (lf f) (kas_sort n)) n:=by
    unfold kas_sort
    rw [ev_bind]
    have C:=count_ok (f:=f) (p:=List.toArray (List.range n)) (nrem:=n) h1 (by simp)
    generalize ev (lf f) (kas_count n (List.toArray (List.range n)))=r at C
    have hs:r.2.size=n:=C.size.trans (by simp)
    have hi:=C.hi
    split
    · have hu:Up f r.2 (max r.1 1):=fun i j hij hj=>by
        by_cases e:i=j
        · rw [e]; exact Nat.le_refl _
        · exact C.up i j hij (by omega)
      obtain ⟨a,b⟩:=bin_ok (f:=f) (n - max r.1 1) r.2 (max r.1 1) (by omega) hu
      rw [show max r.1 1+(n - max r.1 1)=n by omega] at b
      exact ⟨a.trans C.perm,b⟩
    · have e:r.1=n:=by omega
      exact ⟨C.perm,e ▸ C.up⟩
  obtain ⟨a,b⟩:=key
  refine ⟨by simpa using Array.perm_iff_toList_perm.mp a,?_⟩
  have hsz:(ev (lf f) (kas_sort n)).size=n:=by
    have:=(Array.perm_iff_toList_perm.mp a).length_eq
    simpa using this
  rw [List.pairwise_iff_getElem]
  intro i j hi hj hij
  simp only [List.length_map,Array.length_toList] at hi hj
  have:=b i j (Nat.le_of_lt hij) (by omega)
  unfold ky at this
  simpa [Array.getD,hi,hj] using this
end
def InR (n:Nat){α:Type}:KasT α→Prop
  | .ret _=>True
  | .ask i j k=>i < n∧j < n ∧ ∀b,InR n (k b)
theorem wp_evR {n:Nat}{lt:Nat→Nat→Bool}{cmp:Nat→Nat→(Bool→Shared→Prop)→Shared→Prop}{J:Shared→Prop}(hc:∀i j (C:Bool→Shared→Prop) s,i < n→j < n→J s→(∀s',J s'→C (lt i j) s')→cmp i j C s){α:Type}{Q:α→Shared→Prop} :
    ∀ (t:KasT α) (s:Shared),InR n t→J s→(∀s',J s'→Q (ev lt t) s')→t.kasWp cmp Q s
  | .ret _,s,_,hj,h=>h s hj
  | .ask i j k,s,r,hj,h=>hc i j _ s r.1 r.2.1 hj fun s' hj'=>wp_evR hc (k (lt i j)) s' (r.2.2 _) hj' h
def InB (n:Nat){α:Type}(P:α→Prop):KasT α→Prop
  | .ret a=>P a
  | .ask i j k=>i < n∧j < n ∧ ∀b,InB n P (k b)
theorem InB.bind {n:Nat}{α β:Type}{P:α→Prop}{R:β→Prop}{g:α→KasT β}:∀ {t:KasT α},InB n P t→(∀a,P a→InB n R (g a))→InB n R (t.bind g)
  | .ret a,h,k=>k a h
  | .ask i j t,h,k=>⟨h.1,h.2.1,fun b=>InB.bind (h.2.2 b) k⟩
theorem InB.toR {n:Nat}{α:Type}{P:α→Prop}:∀ {t:KasT α},InB n P t→InR n t
  | .ret _,_=>trivial
  | .ask i j k,h=>⟨h.1,h.2.1,fun b=>(h.2.2 b).toR⟩
def El (n:Nat)(p:Array Nat):Prop:=∀x∈p.toList,x < n
section
variable {n:Nat}
theorem El.at {p:Array Nat}(h0:0 < n)(h:El n p)(k:Nat):p.getD k 0 < n:=by
  rw [Array.getD_eq_getD_getElem?]
  cases e:p[k]? with
  | none=>exact h0
  | some x =>
    obtain ⟨hk,rfl⟩:=Array.getElem?_eq_some_iff.mp e
    exact h _ (by simp)
theorem El.perm {p q:Array Nat}(h:El n p)(e:q.Perm p):El n q:=fun x hx=>h x ((Array.perm_iff_toList_perm.mp e).mem_iff.mp hx)
theorem in_asc {p:Array Nat}(h0:0 < n)(h:El n p):∀ (f m:Nat),InB n (fun _=>True) (kas_asc p f m)
  | 0,_=>trivial
  | f+1,m=>⟨h.at h0 _,h.at h0 _,fun b=>by
    cases b with
    | true=>exact trivial
    | false=>exact in_asc h0 h f (m+1)⟩
theorem in_desc (h0:0 < n):∀ (f:Nat) (p:Array Nat) (m q:Nat),El n p→InB n (fun r=>El n r.1) (kas_desc f p m q)
  | 0,p,_,_,h=>h
  | f+1,p,m,q,h=>⟨h.at h0 _,h.at h0 _,fun b=>by
    cases b with
    | true =>
      show InB n _ (if q > 0 then _ else _)
      split
      · exact in_desc h0 f _ _ _ (h.perm (rev_perm _ _ _))
      · exact in_desc h0 f _ _ _ h
    | false =>
      refine ⟨h.at h0 _,h.at h0 _,fun b=>?_⟩
      cases b with
      | true=>exact h
      | false=>exact in_desc h0 f _ _ _ h⟩
theorem in_tail3 (h0:0 < n){p:Array Nat}(h:El n p)(m r:Nat):InB n (fun r=>El n r.2) (kas_tail3 m r p):=
  InB.bind (in_asc h0 (h.perm (rev_perm _ _ _)) _ _) fun a _=>h.perm (rev_perm _ _ _)
theorem in_descPart (h0:0 < n){p:Array Nat}(h:El n p)(m r:Nat):InB n (fun r=>El n r.2) (kas_descPart m r p):=
  InB.bind (in_desc h0 _ _ _ _ h) fun a ha=>by
    split
    · exact in_tail3 h0 (ha.perm (rev_perm _ _ _)) _ _
    · exact in_tail3 h0 ha _ _
theorem in_count (h0:0 < n){p:Array Nat}(h:El n p)(r:Nat):InB n (fun r=>El n r.2) (kas_count r p):=
  InB.bind (in_asc h0 h _ _) fun a _=>by
    split
    · exact h
    · split
      · refine ⟨h.at h0 _,h.at h0 _,fun b=>?_⟩
        cases b with
        | true=>exact h
        | false=>exact in_descPart h0 (h.perm (rev_perm _ _ _)) _ _
      · exact in_descPart h0 h _ _
theorem in_place (h0:0 < n){p:Array Nat}(h:El n p)(k:Nat):∀ (f l r:Nat),InB n (fun _=>True) (kas_place p k f l r)
  | 0,_,_=>trivial
  | f+1,l,r=>by
    unfold kas_place
    split
    · exact trivial
    · refine ⟨h.at h0 _,h.at h0 _,fun b=>?_⟩
      cases b with
      | true=>exact in_place h0 h k f _ _
      | false=>exact in_place h0 h k f _ _
theorem in_bin (h0:0 < n):∀ (f:Nat) (p:Array Nat) (k:Nat),El n p→InB n (fun _=>True) (kas_bin f p k)
  | 0,_,_,_=>trivial
  | f+1,p,k,h=>InB.bind (in_place h0 h k _ _ _) fun l _=>in_bin h0 f _ _ (h.perm (bubble_perm _ _ _))
theorem in_sort (h0:0 < n):InR n (kas_sort n):=by
  have h:El n (List.toArray (List.range n)):=fun x hx=>by simpa using hx
  refine InB.toR (P:=fun _=>True) (InB.bind (in_count h0 h n) fun r hr=>?_)
  split
  · exact in_bin h0 _ _ _ hr
  · exact trivial
end
end Srt
namespace DL
open PySem PySem.Spec PyProof.Rows L2 PySem.W
abbrev Ky:=Int×List Int
def kd (k:Ky):D:=.tup [.int k.1,.tup (k.2.map D.int)]
def ltK (k k':Ky):Bool:=if k.1=k'.1 then (if k.2=k'.2 then false else HT.lexLt k.2 k'.2) else decide (k.1 < k'.1)
def KeyAt (h:Heap)(u:Value)(k:Ky):Prop:=∃ (a c:Addr) (t:Tok) (its:List Value),u = .ref a∧IsTup h a [.int k.1 t,.ref c].toArray∧IsTup h c its.toArray∧IntsAre its k.2
section
variable {X:Cx}{pins:List (Addr×Obj)}{σ:St}{H:Hp}{s:Shared}{L:Addr→Prop}
theorem key_of (I:Inv X pins σ H s){k:Ky}{v:V}{u:Value}(r:Rep X.K H L (kd k) v)(rv:RelV v u):KeyAt s.heap u k:=by
  obtain ⟨a,vs,rfl,hq,hr⟩:=rep_tup.mp r
  cases rv
  obtain ⟨v1,v2,rfl,h1,h2⟩:=reps2 hr
  rw [rep_int] at h1
  subst h1
  obtain ⟨c,ws,rfl,hqc,hrc⟩:=rep_tup.mp h2
  rw [reps_ints] at hrc
  subst hrc
  obtain ⟨its,rvs,p,_⟩:=I.tuple hq.sq
  obtain ⟨u1,u2,rfl,⟨t,rfl⟩,q2⟩:=vals2 rvs
  obtain rfl:u2=Value.ref c:=q2
  obtain ⟨itc,rvc,pc,_⟩:=I.tuple hqc.sq
  exact ⟨a,c,t,itc,rfl,p,pc,intsAre_of rvc⟩
end
section
variable {prog:Program}{w:World}{A:Around}{E:Value→Shared→Prop}{s:Shared}
theorem key_lt {u u':Value}{k k':Ky}{C:Bool→Shared→Prop}(h1:KeyAt s.heap u k)(h2:KeyAt s.heap u' k')(hu:A.units+64 < cLine)(h:C (ltK k k') s):wpAny (model prog w) A (keyLt' (tuples' true) u u') C E s:=by
  obtain ⟨a,c,t,its,rfl,p1,p2,i1⟩:=h1
  obtain ⟨a',c',t',its',rfl,q1,q2,i2⟩:=h2
  obtain ⟨o,e,_,n,d⟩:=id p1
  obtain ⟨o',e',_,n',d'⟩:=id q1
  refine kat_lt e d e' d' ?_
  show KatLex prog w A true _ C [(.int k.1 t,.int k'.1 t'),(.ref c,.ref c')] 0 s
  refine kat_cons (SeqAt.EqAt.int_int k.1 t k'.1 t' prog w _ _ ?_)
  by_cases hk:k.1=k'.1
  · rw [show (k.1 == k'.1)=true from beq_iff_eq.mpr hk]
    refine kat_yes (kat_cons ?_)
    have rd1:Reads s.heap (.ref c) (.tuple (k.2.map PyData.int)) []:=by
      obtain ⟨o,e,hc,n,d⟩:=id p2
      exact .tuple e hc d (by simpa using readsAll_of_ints i1)
    have rd2:Reads s.heap (.ref c') (.tuple (k'.2.map PyData.int)) []:=by
      obtain ⟨o,e,hc,n,d⟩:=id q2
      exact .tuple e hc d (by simpa using readsAll_of_ints i2)
    have sh:∀ns:List Int,SeqAt.shaped (.tuple (ns.map PyData.int))=true:=fun ns=>by
      unfold SeqAt.shaped
      have h1:(PyData.tuple (ns.map PyData.int)).canLay0=true:=by
        show PyData.canLayAll0 (ns.map PyData.int)=true
        exact canLayAll0_ints ns
      have h2:(PyData.tuple (ns.map PyData.int)).depth≤64:=by
        have:=PyProof.Rows.depthAll_ints ns
        unfold PyData.depth
        omega
      rw [h1,decide_eq_true h2]; rfl
    have eqA:=SeqAt.eqAt_reads _ _ A s _ _ _ _ rd1 rd2 (SeqAt.canLay_of_shaped (sh _)) (SeqAt.canLay_of_shaped (sh _)) (SeqAt.room_of_shaped (sh _) hu)
    refine eqA prog w _ _ ?_
    have ee:PyData.eqv (.tuple (k.2.map PyData.int)) (.tuple (k'.2.map PyData.int))=decide (k.2=k'.2):=by
      rw [← ked_eqvAll]; rfl
    rw [ee]
    unfold ltK at h
    rw [if_pos hk] at h
    by_cases h2:k.2=k'.2
    · rw [decide_eq_true h2]
      rw [if_pos h2] at h
      refine kat_yes (kat_nil ?_)
      exact h
    · rw [decide_eq_false h2]
      rw [if_neg h2] at h
      refine kat_no (kat_one _ _ (HT.lt_tupInts p2 q2 (by simpa using i1) (by simpa using i2) (by omega) ?_))
      exact h
  · rw [show (k.1 == k'.1)=false from beq_eq_false_iff_ne.mpr hk]
    unfold ltK at h
    rw [if_neg hk] at h
    exact kat_no (oneLt_int h)
end
theorem pick_map {α:Type}(ks:List α)(rank:α→Nat):∀l:List Nat,(∀i∈l,i < ks.length)→(l.filterMap fun i=>ks[i]?).map rank=l.map fun i=>((ks[i]?).map rank).getD 0
  | [],_=>rfl
  | i::l,h=>by
    have hi:i < ks.length:=h i List.mem_cons_self
    rw [List.filterMap_cons,List.getElem?_eq_getElem hi,List.map_cons,List.map_cons,pick_map ks rank l fun j hj=>h j (List.mem_cons_of_mem _ hj),List.getElem?_eq_getElem hi]
    rfl
theorem pick_range {α:Type}(ks:List α):((List.range ks.length).filterMap fun i=>ks[i]?)=ks:=by
  induction ks with
  | nil=>rfl
  | cons a r ih =>
    rw [List.length_cons,List.range_succ_eq_map,List.filterMap_cons]
    show a::_=_
    congr 1
    rw [List.filterMap_map]
    exact ih
theorem pair_get {α:Type}{R:α→Value→Prop}:∀ {ks:List α}{vs:List Value},Paired R ks vs→∀ (i:Nat) (h:i < ks.length),R (ks[i]) (vs.getD i .none)
  | _,_,.cons r t,0,_=>r
  | _,_,.cons r t,i+1,h=>pair_get t i (by simpa using h)
theorem pick_pair {α:Type}{R:α→Value→Prop}{ks:List α}{vs:List Value}(hp:Paired R ks vs):∀l:List Nat,(∀i∈l,i < ks.length)→Paired R (l.filterMap fun i=>ks[i]?) (l.map fun i=>vs.getD i .none)
  | [],_=>.nil
  | i::l,h=>by
    have hi:i < ks.length:=h i List.mem_cons_self
    rw [List.filterMap_cons,List.getElem?_eq_getElem hi,List.map_cons]
    exact .cons (pair_get hp i hi) (pick_pair hp l fun j hj=>h j (List.mem_cons_of_mem _ hj))
theorem katTups_of {h:Heap}:∀ {kv:List Value}{ky:List Ky},Paired (fun k u=>KeyAt h u k) ky kv→∃fs,KatTups h kv fs∧fs.length=ky.length ∧ ∀v∈fs,∃i t,v=Value.int i t
  | _,_,.nil=>⟨[],trivial,rfl,fun _ z=>by cases z⟩
  | _,_,.cons r t=>by
    obtain ⟨fs,h1,h2,h3⟩:=katTups_of t
    obtain ⟨a,c,tk,its,rfl,⟨o,e,hc,n,d⟩,_⟩:=r
    refine ⟨_,KatTups.cons e hc d rfl h1,by rw [List.length_cons,List.length_cons,h2],fun v hv=>?_⟩
    rcases List.mem_cons.mp hv with rfl | hv
    · exact ⟨_,_,rfl⟩
    · exact h3 v hv
section
variable {prog:Program}{w:World}{A:Around}{E:Value→Shared→Prop}{s:Shared}
theorem kind_keys {kv:List Value}{ky:List Ky}{Q:SortKind→Shared→Prop}(hp:Paired (fun k u=>KeyAt s.heap u k) ky kv)(hne:0 < ky.length)(h:Q (tuples' true) s):wpAny (model prog w) A (keyKind' kv.toArray) Q E s:=by
  obtain ⟨fs,h1,h2,h3⟩:=katTups_of hp
  refine kat_kind (T:=.type "int") h1 (by omega) (fun v hv=>?_) (by decide +kernel) ?_
  · obtain ⟨i,t,rfl⟩:=h3 v hv
    exact Looks.of_pure rfl
  · rw [show (Value.type "int" != Value.type "tuple")=true by decide +kernel]
    exact h
theorem run_keys {α:Type}{ks:List α}{key:α→Ky}{rank:α→Nat}{R:α→Value→Prop}{kv vs:List Value}{Q:SortSt→Shared→Prop}(hk:Paired (fun a u=>KeyAt s.heap u (key a)) ks kv)(hv:Paired R ks vs)(hr:∀a∈ks,∀b∈ks,ltK (key a) (key b)=decide (rank a < rank b))(h2:2≤ks.length)(h64:ks.length < 64)(hu:A.units+64 < cLine)(h:∀st' qs out,qs.Perm ks→(qs.map rank).Pairwise (· ≤ ·)→Paired R qs out→(arrOf st').map (·.2)=out.toArray→failedOf st'=none→Q st' s) :
    wpAny (model prog w) A ((sortRuns').run (SortSt.mk' (tuples' true) (kv.toArray.zip vs.toArray) #[] 7 none)) (fun r s'=>Q r.2 s') E s:=by
  have hlk:=hk.length
  have hlv:=hv.length
  refine kat_run (vs:=vs) (ks:=kv) (G:=fun p s'=>s'=s∧p=Srt.ev (Srt.lf fun i=>((ks[i]?).map rank).getD 0) (kas_sort vs.length)) (by omega) (by omega) (by omega) (fun p st' s' hps har hf hG=>?_) ?_
  · obtain ⟨rfl,rfl⟩:=hG
    rw [← hlv] at har
    obtain ⟨S1,S2⟩:=Srt.sort_ok (fun i=>((ks[i]?).map rank).getD 0) (n:=ks.length) (by omega)
    have hin:∀i∈(Srt.ev (Srt.lf fun i=>((ks[i]?).map rank).getD 0) (kas_sort ks.length)).toList,i < ks.length:=fun i hi=>List.mem_range.mp (S1.mem_iff.mp hi)
    refine h st' (((Srt.ev (Srt.lf fun i=>((ks[i]?).map rank).getD 0) (kas_sort ks.length)).toList).filterMap fun i=>ks[i]?) _ ?_ ?_ (pick_pair hv _ hin) (kat_snds (by omega) har) hf
    · have:=S1.filterMap (fun i=>ks[i]?)
      rw [pick_range] at this
      exact this
    · rw [pick_map ks rank _ hin]
      exact S2
  · refine Srt.wp_evR (n:=vs.length) (J:=fun s'=>s'=s) (fun i j C s' hi hj hs hC=>?_) _ s (Srt.in_sort (by omega)) rfl (fun s' hs=>⟨hs,rfl⟩)
    subst hs
    have hi':i < ks.length:=by omega
    have hj':j < ks.length:=by omega
    show wpAny (model prog w) A (keyLt' (tuples' true) (kv.getD i .none) (kv.getD j .none)) C (fun _ _=>False) s'
    refine key_lt (pair_get hk i hi') (pair_get hk j hj') hu ?_
    have:=hC s' rfl
    rw [hr _ (List.getElem_mem hi') _ (List.getElem_mem hj')]
    have e:Srt.lf (fun i=>((ks[i]?).map rank).getD 0) i j=decide (rank ks[i] < rank ks[j]):=by
      show decide (((ks[i]?).map rank).getD 0 < ((ks[j]?).map rank).getD 0)=_
      rw [List.getElem?_eq_getElem hi',List.getElem?_eq_getElem hj']
      rfl
    rw [e] at this
    exact this
end
end DL
namespace DL
open PySem PySem.Spec PyProof.Rows L2 PySem.W
structure NewA (X:Cx)(pins:List (Addr×Obj))(a:Addr):Prop where
  up:X.s₀.heap.objs.size≤a
  neL:a ≠ X.env.locals
  cells:∀y c,X.env.cells.lookup y=some c→c ≠ a
  pins:∀p∈X.pn++pins,p.1 ≠ a
  fs:a ∉ X.fs
section
variable {X:Cx}{pins:List (Addr×Obj)}{σ:St}{H:Hp}{s:Shared}
theorem newA (I:L2.Inv X pins σ H s){a:Addr}(h:s.heap.objs.size≤a):NewA X pins a where
  up:=Nat.le_trans I.sz h
  neL:=Nat.ne_of_gt (Nat.lt_of_lt_of_le I.lt h)
  cells:=fun y c e=>by
    obtain ⟨v,o,ho,_⟩:=I.cell y c e
    exact Nat.ne_of_lt (Nat.lt_of_lt_of_le (Heap.lt_size ho) h)
  pins:=fun p hp=>Nat.ne_of_lt (Nat.lt_of_lt_of_le (Heap.lt_size (I.pin p hp).1) h)
  fs:=I.nofs h
theorem inv_track {a:Addr}{o:HO}(I:L2.Inv X pins σ H s)(n:NewA X pins a)(hn:H a=none)(new:ObjOk X.prog X.w (upd H a o) s.heap a o):L2.Inv X pins σ (upd H a o) s:=by
  refine ⟨I.ok,I.os,I.bare,⟨I.base.keep,I.base.slot,fun b u e m hx=>?_,I.base.there,fun b xs e=>?_,fun b u v e=>?_,fun b ps e=>?_⟩,I.loc,I.cell,?_,fun y c e=>?_,fun p hp=>?_,HOk.track I.hok (fun b u _ e=>e) hn new,I.len⟩
  · rw [upd_ne (Nat.ne_of_lt (Nat.lt_of_lt_of_le (Heap.lt_size e) n.up))]
    exact I.base.free b u e m hx
  · have:=I.base.tups b xs e
    rw [upd_ne (ne_of_none this hn)]; exact this
  · have:=I.base.frzs b u v e
    rw [upd_ne (ne_of_none this hn)]; exact this
  · obtain ⟨m,q⟩:=I.base.tbls b ps e
    exact ⟨m,by rw [upd_ne (ne_of_none q hn)]; exact q⟩
  · rw [upd_ne n.neL.symm]; exact I.free
  · rw [upd_ne (n.cells y c e)]; exact I.freeC y c e
  · obtain ⟨q1,q2,q3⟩:=I.pin p hp
    exact ⟨q1,by rw [upd_ne (n.pins p hp)]; exact q2,q3⟩
theorem inv_pin {P:List (Addr×Obj)}{a:Addr}{o:Obj}(I:L2.Inv X (pins++P) σ H s)(n:NewA X pins a)(hn:H a=none)(ho:s.heap.get? a=some o)(hc:∀v,o.data ≠ .cell v):L2.Inv X (pins++P ++ [(a,o)]) σ H s:=
  I.pins_of fun p hp=>(List.mem_append.mp hp).elim (fun z=>I.pin p (List.mem_append_right _ z)) fun z=>by
    rw [List.mem_singleton.mp z]
    exact ⟨ho,hn,n.neL,n.fs,hc⟩
theorem inv_turn {a:Addr}{its its':List Value}{e:Nat}(I:L2.Inv X pins σ H s)(n:NewA X pins a)(hn:H a=none)(ho:s.heap.get? a=some (seqObj "list" its.toArray e)):L2.Inv X pins σ H { s with heap:=s.heap.update a (Obj.mapSeq fun _=>its'.toArray) } ∧
    ∃e',(s.heap.update a (Obj.mapSeq fun _=>its'.toArray)).get? a=some (seqObj "list" its'.toArray e'):=
  ⟨I.turned (t':=s.toks) (it:=a) (fun b u hb q=>(Heap.get?_update_other s.heap _ (Ne.symm hb)).trans q) hn n.neL (.inr n.up) n.cells n.pins,⟨_,get?_update_seq ho fun _=>its'.toArray⟩⟩
variable {α:Type}{ks:List α}{g:α→D}{key:α→Ky}{rank:α→Nat}{L:Addr→Prop}{l:Addr}{Q:VK}
def RI (K:PySem.W.Frag)(H:Hp)(L:Addr→Prop)(g:α→D)(a:α)(u:Value):Prop:=∃v,Rep K H L (g a) v∧RelV v u
theorem ri_of {K:PySem.W.Frag}:∀ {ks:List α}{vs:List V}{us:List Value},Reps K H L (ks.map g) vs→Vals vs us→Paired (RI K H L g) ks us
  | [],_,_,h,r=>by rw [List.map_nil,reps_nil] at h; subst h; cases r; exact .nil
  | a::ks,_,_,h,r=>by
    rw [List.map_cons,reps_cons] at h
    obtain ⟨v,vs,rfl,h1,h2⟩:=h
    cases r with
    | cons r1 r2=>exact .cons ⟨v,h1,r1⟩ (ri_of h2 r2)
theorem of_ri {K:PySem.W.Frag}:∀ {ks:List α}{us:List Value},Paired (RI K H L g) ks us→∃vs,Reps K H L (ks.map g) vs∧Vals vs us
  | _,_,.nil=>⟨[],Reps.nil,.nil⟩
  | _,_,.cons ⟨v,h1,r1⟩ t=>by
    obtain ⟨vs,h2,r2⟩:=of_ri t
    exact ⟨v::vs,Reps.cons h1 h2,.cons r1 r2⟩
theorem keys_ri (I:L2.Inv X pins σ H s):∀ {ks:List α}{us:List Value},(∀a∈ks,g a=kd (key a))→Paired (RI X.K H L g) ks us→Paired (fun a u=>KeyAt s.heap u (key a)) ks us
  | _,_,_,.nil=>.nil
  | a::ks,_,hg,.cons ⟨v,h1,r1⟩ t=>.cons (key_of I (L:=L) (by rw [← hg a List.mem_cons_self]; exact h1) r1) (keys_ri I (fun b hb=>hg b (List.mem_cons_of_mem _ hb)) t)
theorem sort_end {a:Addr}{its:List Value}{e:Nat}{qs:List α}{out:List Value}(J:L2.Inv X pins σ H s)(n:NewA X pins a)(hn:H a=none)(lk:LOk L H)(ho:s.heap.get? a=some (seqObj "list" its.toArray e))(hp:Paired (RI X.K H L g) qs out)(hz:qs.length≤1000)(k:∀v H',Same H H'→Rep X.K H' L (.lst (qs.map g)) v→Q v H'):EP X pins σ Q (.ref a) { s with heap:=s.heap.update a (Obj.mapSeq fun _=>out.toArray) }:=by
  obtain ⟨J1,e',ho'⟩:=inv_turn (its':=out) J n hn ho
  obtain ⟨ws,rw1,rv⟩:=of_ri hp
  have hl:=rw1.length
  rw [List.length_map] at hl
  refine ⟨.ref a,upd H a (.lst ws),inv_track J1 n hn ⟨Nat.le_of_lt (small1000 (by omega)),out,e',rv,ho'⟩,rfl,k _ _ (same_upd hn) (rep_lst.mpr ⟨a,ws,rfl,.of (lk.fresh hn) upd_same,rw1.same (same_upd hn)⟩)⟩
theorem wp_sorted (hg:∀a∈ks,g a=kd (key a))(hr:∀a∈ks,∀b∈ks,ltK (key a) (key b)=decide (rank a < rank b))(h2:2≤ks.length)(h64:ks.length < 64)(hu:X.A.units+100 < cLine)(I:L2.Inv X pins σ H s)(lk:LOk L H)(r:Rep X.K H L (.lst (ks.map g)) (.ref l))(k:∀ (qs:List α) (v:V) (H':Hp),qs.Perm ks→(qs.map rank).Pairwise (· ≤ ·)→Same H H'→Rep X.K H' L (.lst (qs.map g)) v→Q v H'):wpAny (model X.prog X.w) X.A (call (.builtin "sorted") [.ref l]) (EP X pins σ Q) X.xe s:=by
  obtain ⟨l',xs,e0,hq,hrs⟩:=rep_lst.mp r
  cases e0
  obtain ⟨vs,rv,pl,_⟩:=I.list hq.sq
  have hl:=pl.isList
  have hp:=ri_of hrs rv
  have hlen:ks.length=vs.length:=hp.length
  have hsl:sizeLine=16777216:=sizeLine_eq
  refine Calls.call_function_entry kind_sorted plain_sorted entry_sorted (args_sorted1 _) ?_
  unfold Builtin.«sorted»
  refine wpAny_bind (m:=checkCount "sorted" 1 1 _) (wpAny_pure ?_)
  refine wpAny_bind (collect_list hl ?_ (by omega))
  refine wpAny_bind (wpAny_newList ?_ (by omega))
  have hsz:((s.heap.push (seqObj "list" #[] 0)).update s.heap.objs.size (Obj.mapSeq (· ++ vs.toArray))).objs.size=s.heap.objs.size+1:=by
    rw [Heap.size_update,size_push']
  have hoL:(((s.heap.push (seqObj "list" #[] 0)).update s.heap.objs.size (Obj.mapSeq (· ++ vs.toArray))).push (seqObj "list" vs.toArray 0)).get? (s.heap.objs.size+1)=some (seqObj "list" vs.toArray 0):=by
    rw [← hsz]; exact Heap.get?_push_size _ rfl
  have keep:∀b o,s.heap.get? b=some o→(((s.heap.push (seqObj "list" #[] 0)).update s.heap.objs.size (Obj.mapSeq (· ++ vs.toArray))).push (seqObj "list" vs.toArray 0)).get? b=some o:=fun b o q=>by
    have hlt:b < s.heap.objs.size:=Heap.lt_size q
    rw [Heap.get?_push_ne _ _ _ (by rw [hsz]; exact Nat.ne_of_lt (Nat.lt_succ_of_lt hlt)),Heap.get?_update_ne _ _ _ _ (Nat.ne_of_lt hlt),Heap.get?_push_ne _ _ _ (Nat.ne_of_lt hlt)]
    exact q
  have I1:L2.Inv X pins σ H { s with heap:=((s.heap.push (seqObj "list" #[] 0)).update s.heap.objs.size (Obj.mapSeq (· ++ vs.toArray))).push (seqObj "list" vs.toArray 0) }:=I.kept (t':=s.toks) keep
  have nD:NewA X pins (s.heap.objs.size+1):=newA I (Nat.le_succ _)
  have fD:H (s.heap.objs.size+1)=none:=I.hok.fresh (Nat.le_succ _)
  show wpAny _ _ _ _ _ { s with heap:=((s.heap.push (seqObj "list" #[] 0)).update s.heap.objs.size (Obj.mapSeq (· ++ vs.toArray))).push (seqObj "list" vs.toArray 0) }
  rw [hsz]
  generalize hs1:({ s with heap:=((s.heap.push (seqObj "list" #[] 0)).update s.heap.objs.size (Obj.mapSeq (· ++ vs.toArray))).push (seqObj "list" vs.toArray 0) }:Shared)=s1 at I1 ⊢
  have hoL:s1.heap.get? (s.heap.objs.size+1)=some (seqObj "list" vs.toArray 0):=by rw [← hs1]; exact hoL
  refine wpAny_bind (wpAny_holding (wpAny_call_entry slot_list_sort ⟨_,hoL,rfl⟩ entry_list_sort ?body (args_list_sort _)))
  case body =>
    rw [list_sort_plain]
    refine wpAny_bind (listItems_at hoL rfl ?_)
    refine wpAny_bind (listUpdate_at hoL rfl ?_ (by rw [List.size_toArray]; omega) (Nat.zero_le _))
    obtain ⟨I2,e1,ho1⟩:=inv_turn (its':=[]) I1 nD fD hoL
    refine wpAny_bind (seqEpoch_at ho1 rfl ?_)
    refine wpAny_bind (wpAny_newTuple ?_ (by show vs.length≤_; omega))
    refine wpAny_bind (wpAny_newList ?_ (Nat.zero_le _))
    refine wpAny_holding ?_
    dsimp only
    have hn2:¬ vs.toArray.size < 2:=by rw [List.size_toArray]; omega
    rw [if_neg hn2,if_neg hn2]
    have I3:L2.Inv X pins σ H { s1 with heap:=((s1.heap.update (s.heap.objs.size+1) (Obj.mapSeq fun _=>([]:List Value).toArray)).push { cls:=.type "tuple",data:=.seq vs.toArray.toList.toArray }).push { cls:=.type "list",data:=.seq ([]:List Value).toArray } }:=
      I2.kept (t':=s1.toks) fun b o q=>Heap.get?_push_of_some _ (Heap.get?_push_of_some _ q)
    have ho3:(((s1.heap.update (s.heap.objs.size+1) (Obj.mapSeq fun _=>([]:List Value).toArray)).push { cls:=.type "tuple",data:=.seq vs.toArray.toList.toArray }).push { cls:=.type "list",data:=.seq ([]:List Value).toArray }).get? (s.heap.objs.size+1)=some (seqObj "list" ([]:List Value).toArray e1):=
      Heap.get?_push_of_some _ (Heap.get?_push_of_some _ ho1)
    have kp:=keys_ri I3 hg hp
    refine wpAny_bind (kind_keys (ky:=ks.map key) (by
      have:∀ {ks:List α}{us:List Value}{h:Heap},Paired (fun a u=>KeyAt h u (key a)) ks us→Paired (fun k u=>KeyAt h u k) (ks.map key) us:=fun {ks us h} p=>by
        induction p with
        | nil=>exact .nil
        | cons r _ ih=>exact .cons r ih
      exact this kp) (by rw [List.length_map]; omega) ?_)
    refine wpAny_bind (wpAny_mono (run_keys (Q:=fun st' s'=>s'=_ ∧ ∃ (qs:List α) (out:List Value),qs.Perm ks∧(qs.map rank).Pairwise (· ≤ ·)∧Paired (RI X.K H L g) qs out∧(arrOf st').map (·.2)=out.toArray∧failedOf st'=none) kp hp hr h2 h64 (by show X.A.units+1+1+64 < cLine; omega)
      (fun st' qs out a1 a2 a3 a4 a5=>⟨rfl,qs,out,a1,a2,a3,a4,a5⟩)) ?_ fun _ _ x=>x)
    rintro ⟨⟨⟩,st'⟩ s' ⟨rfl,qs,out,a1,a2,a3,a4,a5⟩
    dsimp only at a4 a5 ⊢
    rw [a4]
    have hlo:qs.length=out.length:=a3.length
    have hlq:=a1.length_eq
    refine wpAny_bind (seqEpoch_at ho3 rfl ?_)
    refine wpAny_bind (listUpdate_at ho3 rfl ?_ (Nat.zero_le _) (by show out.toArray.size≤_; rw [List.size_toArray]; omega))
    rw [a5]
    simp only [bne_self_eq_false,Bool.false_eq_true,if_false]
    refine wpAny_pure ⟨_,rfl,wpAny_pure ⟨_,rfl,?_⟩⟩
    exact sort_end I3 nD fD lk ho3 a3 (by omega) fun v H' sm rp=>k qs v H' a1 a2 sm rp
variable {kk:Nat}{f:Addr}{fd:FuncData}{ps:List Str}{ι:Type}{Ar:ι→List D}{Pre:ι→Prop}{Post:ι→D→Prop}{ia:α→ι}
theorem key_call {P:List (Addr×Obj)}{a:α}{u:Value}{A':Around}{E':Value→Shared→Prop}{C:Value→Shared→Prop}{L2':Addr→Prop}(F:FnOk X.prog X.w X.K X.mg X.base CX0 kk f fd ps (PureSp X.K Ar Pre Post))(hb:Binds X.K fd ps [])(hr:Room kk A')(he:Env0 X.prog X.w X.K X.mg X.base A' X.stack s H)(I:L2.Inv X P σ H s)(lk:LOk L2' H)(hA:Ar (ia a) = [g a])(hp:Pre (ia a))(hpo:∀d,Post (ia a) d→d=kd (key a))(ri:RI X.K H L2' g a u)(k:∀v uk H' s',L2.Inv X P σ H' s'→Same H H'→Rep X.K H' L2' (kd (key a)) v→RelV v uk→C uk s'):wpAny (model X.prog X.w) A' (call (.ref f) [u]) C E' s:=by
  obtain ⟨v,rp,rv⟩:=ri
  have sp:PureSp X.K Ar Pre Post [v] H (fun x H'=>Same H H'∧Rep X.K H' L2' (kd (key a)) x) E0:=⟨L2',ia a,lk,by rw [hA]; exact Reps.cons rp Reps.nil,hp,fun d x H' po sm r=>⟨sm,hpo d po ▸ r⟩⟩
  have hl:[u].length=ps.length:=by have:=F.len _ _ _ _ sp; exact this
  refine wpAny_call (codeAny_mono (F.run A' X.stack s H ⟨[u],[]⟩ [u] [v] _ E0 hr he (by have:=hb s [u] I.kIn (by rw [List.append_nil]; exact hl); rw [List.append_nil] at this; exact this) (.cons rv .nil) sp) fun r s' hq=>?_)
  cases r with
  | error e=>exact False.elim hq
  | ok fl =>
    cases fl with
    | ret uk =>
      obtain ⟨x,H',I',rx,sm,rr⟩:=I.after hq
      exact k x uk H' s' I' sm rr rx
    | next=>exact False.elim hq
    | brk=>exact False.elim hq
    | cont=>exact False.elim hq
structure KLoop (X:Cx)(P:List (Addr×Obj))(σ:St)(H:Hp)(L2':Addr→Prop)(kS:Addr)(ds:List D)(kv:List Value)(H':Hp)(s':Shared):Prop where
  inv:L2.Inv X P σ H' s'
  same:∀b o,H b=some o→H' b=some o
  lok:LOk L2' H'
  store:∃kvV,H' kS=some (.lst kvV)∧Reps X.K H' L2' ds kvV∧Vals kvV kv
  obj:∃n,s'.heap.get? kS=some (seqObj "list" kv.toArray n)
theorem key_loop {P:List (Addr×Obj)}{A':Around}{E':Value→Shared→Prop}{L2':Addr→Prop}{kS:Addr}{Qf:Shared→Prop}{body:Value→PUnit→Sem (ForInStep PUnit)}(F:FnOk X.prog X.w X.K X.mg X.base CX0 kk f fd ps (PureSp X.K Ar Pre Post))(hb:Binds X.K fd ps [])(hr:Room kk A')(he:∀ {H:Hp}{s:Shared},L2.Inv X P σ H s→Env0 X.prog X.w X.K X.mg X.base A' X.stack s H)(hkS:L2' kS)(hHk:H kS=none)(hbody:∀u s (C:Value→Shared→Prop) (R:ForInStep PUnit→Shared→Prop),wpAny (model X.prog X.w) A' (call (.ref f) [u]) (fun k s'=>wpAny (model X.prog X.w) A' (Builtin.List.listUpdate (.ref kS) (·.push k)) (fun _ s''=>R (.yield ⟨⟩) s'') E' s') (fun _ _=>False) s→wpAny (model X.prog X.w) A' (body u ⟨⟩) R E' s) :
    ∀ (r:List α) (us:List Value) (dn:List D) (kv:List Value) (H':Hp) (s':Shared),dn.length+r.length < 64→(∀a∈r,Ar (ia a) = [g a])→(∀a∈r,Pre (ia a))→(∀a∈r,∀d,Post (ia a) d→d=kd (key a))→Paired (RI X.K H L2' g) r us→KLoop X P σ H L2' kS dn kv H' s' →
      (∀kv2 H2 s2,KLoop X P σ H L2' kS (dn++r.map fun a=>kd (key a)) kv2 H2 s2→Qf s2)→wpAny (model X.prog X.w) A' (forIn us PUnit.unit body) (fun _ s2=>Qf s2) E' s'
  | [],_,dn,kv,H',s',_,_,_,_,.nil,J,k=>by
    rw [List.forIn_nil]
    exact wpAny_pure (k kv H' s' (by simpa using J))
  | a::r,u::us,dn,kv,H',s',hz,h0,h1,h2,.cons ri t,J,k=>by
    rw [List.forIn_cons]
    refine wpAny_bind (hbody u s' (fun _ _=>True) _ ?_)
    have ri':RI X.K H' L2' g a u:=by
      obtain ⟨v,rp,rv⟩:=ri
      exact ⟨v,rp.same J.same,rv⟩
    rw [List.length_cons] at hz
    refine key_call F hb hr (he J.inv) J.inv J.lok (h0 a List.mem_cons_self) (h1 a List.mem_cons_self) (h2 a List.mem_cons_self) ri' fun v uk H2 s2 I2 sm rr rv=>?_
    obtain ⟨kvV,q1,q2,q3⟩:=J.store
    have q1':=sm _ _ q1
    obtain ⟨z,its,n,rvs,hl,e⟩:=I2.lstM q1'
    have hlk:=q2.length
    have hsl:sizeLine=16777216:=sizeLine_eq
    refine listUpdate_at e rfl ?_ (by rw [List.size_toArray]; omega) (by show (its.toArray.push uk).size≤_; rw [Array.size_push,List.size_toArray]; omega)
    have off:Off L2' H2 (upd H2 kS (.lst (kvV ++ [v]))):=fun b o h nb=>by rw [upd_ne (by rintro rfl; exact nb hkS)]; exact h
    have I3:=I2.lset (its':=its ++ [uk]) (ys:=kvV ++ [v]) (f:=fun b=>b.push uk) (t':=s2.toks) q1' e (by simp) (rvs.append (.cons rv .nil)) (by rw [List.length_append,List.length_singleton]; omega)
    have q:=PySem.IsL.update e (fun b=>b.push uk)
    rw [show its.toArray.push uk=(its ++ [uk]).toArray by simp] at q
    show wpAny (model X.prog X.w) A' (forIn us PUnit.unit body) _ E' _
    refine key_loop F hb hr he hkS hHk hbody r us (dn ++ [kd (key a)]) (its ++ [uk]) (upd H2 kS (.lst (kvV ++ [v]))) _ (by rw [List.length_append,List.length_singleton]; omega) (fun b hb'=>h0 b (List.mem_cons_of_mem _ hb')) (fun b hb'=>h1 b (List.mem_cons_of_mem _ hb')) (fun b hb'=>h2 b (List.mem_cons_of_mem _ hb')) t
      ⟨I3,fun b o h=>by rw [upd_ne (ne_of_none h hHk)]; exact sm b o (J.same b o h),fun b hb'=>?_,⟨_,upd_same,((q2.same sm).append (Reps.cons rr Reps.nil)).off off,rvs.append (.cons rv .nil)⟩,⟨_,q⟩⟩ fun kv2 H3 s3 J3=>k kv2 H3 s3 (by rw [List.map_cons]; simpa using J3)
    by_cases eb:b=kS
    · rw [eb,upd_same]; exact fun z=>nomatch z
    · rw [upd_ne eb]; exact J.lok.same sm b hb'
end
end DL
namespace DL
open PySem PySem.Spec PyProof.Rows L2 PySem.W
section
variable {X:Cx}{pins:List (Addr×Obj)}{σ:St}{H:Hp}{s:Shared}{α:Type}{ks:List α}{g:α→D}{key:α→Ky}{rank:α→Nat}{L:Addr→Prop}{l:Addr}{Q:VK}{kk:Nat}{f:Addr}{fd:FuncData}{ps:List Str}{ι:Type}{Ar:ι→List D}{Pre:ι→Prop}{Post:ι→D→Prop}{ia:α→ι}
theorem wp_kend {A':Around}{E':Value→Shared→Prop}{L2':Addr→Prop}{kS a:Addr}{kv vs:List Value}{e1:Nat}{H':Hp}{R:PySem.Fin→Shared→Prop}(hr:∀a∈ks,∀b∈ks,ltK (key a) (key b)=decide (rank a < rank b))(h64:ks.length < 64)(hu:A'.units+64 < cLine)(nD:NewA X pins a)(lk:LOk L H)(hL:∀b,L b→L2' b)(hp:Paired (RI X.K H L g) ks vs)(hHk:H kS=none)(J:KLoop X (pins ++ [(a,seqObj "list" #[] e1)]) σ H L2' kS (ks.map fun a=>kd (key a)) kv H' s)(fin:∀ (qs:List α) (s':Shared),qs.Perm ks→(qs.map rank).Pairwise (· ≤ ·)→(∀Q:VK,(∀v H',Same H H'→Rep X.K H' L (.lst (qs.map g)) v→Q v H')→EP X pins σ Q (.ref a) s')→R (.done (.ret .none)) s') :
    wpAny (model X.prog X.w) A' (ksk_end a false vs.toArray e1 (.ref kS) kv.toArray) R E' s:=by
  obtain ⟨kvV,q1,q2,q3⟩:=J.store
  obtain ⟨nk,hok⟩:=J.obj
  have hlen:ks.length=vs.length:=hp.length
  have hsl:sizeLine=16777216:=sizeLine_eq
  have hkl:kv.length=ks.length:=by have:=q3.length; have:=q2.length; rw [List.length_map] at this; omega
  have pD:=J.inv.pin (a,seqObj "list" #[] e1) (List.mem_append_right _ (List.mem_append_right _ (List.mem_singleton.mpr rfl)))
  have Iu:L2.Inv X pins σ H' s:=J.inv.pins_of fun p hp=>J.inv.pin p (List.mem_append_right _ (List.mem_append_left _ hp))
  have tail:∀st' (qs:List α) out,qs.Perm ks→(qs.map rank).Pairwise (· ≤ ·)→Paired (RI X.K H L g) qs out→(arrOf st').map (·.2)=out.toArray→failedOf st'=none→wpAny (model X.prog X.w) A' (ksk_tail a false e1 (.ref kS) st') R E' s:=by
    intro st' qs out a1 a2 a3 a4 a5
    have hlq:=a1.length_eq
    have hlo:qs.length=out.length:=a3.length
    unfold ksk_tail
    dsimp only
    refine wpAny_bind (listUpdate_at hok rfl ?_ (by rw [List.size_toArray]; omega) (Nat.zero_le _))
    have I2:=Iu.lset (its':=[]) (ys:=[]) (f:=fun _=>#[]) (t':=s.toks) q1 hok rfl .nil (Nat.zero_le _)
    have ne:a ≠ kS:=fun z=>by rw [z,q1] at pD; cases pD.2.1
    have hD2:(s.heap.update kS (Obj.mapSeq fun _=>#[])).get? a=some (seqObj "list" #[] e1):=(Heap.get?_update_other s.heap _ (Ne.symm ne)).trans pD.1
    refine wpAny_bind (wpAny_letGo ?_)
    refine wpAny_bind (seqEpoch_at hD2 rfl ?_)
    rw [a4]
    refine wpAny_bind (listUpdate_at hD2 rfl ?_ (Nat.zero_le _) (by show (if false=true then out.toArray.reverse else out.toArray).size≤_; rw [if_neg Bool.false_ne_true,List.size_toArray]; omega))
    rw [a5]
    simp only [bne_self_eq_false,Bool.false_eq_true,if_false]
    refine wpAny_pure (fin qs _ a1 a2 fun Q' hQ=>?_)
    have sm:Same H (upd H' kS (.lst [])):=fun b o h=>by rw [upd_ne (ne_of_none h hHk)]; exact J.same b o h
    refine sort_end (L:=L) (its:=[]) (e:=e1) (qs:=qs) I2 nD (by rw [upd_ne ne]; exact pD.2.1) (lk.same sm) hD2 ?_ (by omega) fun v H2 s2 r2=>hQ v H2 (sm.trans s2) r2
    exact Paired.imp' (fun x u ⟨v,r1,r2⟩=>⟨v,r1.same sm,r2⟩) a3
  unfold ksk_end
  dsimp only
  simp only [Bool.false_eq_true,if_false]
  by_cases hn:ks.length < 2
  · have hn2:vs.toArray.size < 2:=by rw [List.size_toArray]; omega
    rw [if_pos hn2,if_pos hn2]
    refine wpAny_bind (wpAny_pure (wpAny_bind ?_))
    show wpAny (model X.prog X.w) A' (StateT.run (pure ()) _) _ E' s
    rw [StateT.run_pure]
    refine wpAny_pure ?_
    refine tail _ ks vs (.refl _) ?_ hp ?_ rfl
    · match ks,hn with
      | [],_=>exact List.Pairwise.nil
      | [_],_=>exact List.pairwise_singleton _ _
    · show ((kv.toArray.zip vs.toArray).map (·.2))=vs.toArray
      apply Array.toList_inj.mp
      rw [Array.toList_map,ksk_zip]
      show (List.zipWith Prod.mk kv vs).map Prod.snd=vs
      rw [List.map_zipWith]
      have:∀ (x y:List Value),x.length=y.length→List.zipWith (fun a b=>(a,b).snd) x y=y:=by
        intro x
        induction x with
        | nil=>intro y h; cases y with
          | nil=>rfl
          | cons _ _=>cases h
        | cons a x ih=>intro y h; cases y with
          | nil=>cases h
          | cons b y=>rw [List.zipWith_cons_cons,ih y (by simpa using h)]
      exact this kv vs (by omega)
  · have hn2:¬ vs.toArray.size < 2:=by rw [List.size_toArray]; omega
    rw [if_neg hn2,if_neg hn2]
    have kp:Paired (fun a u=>KeyAt s.heap u (key a)) ks kv:=by
      have r:=ri_of (g:=fun a=>kd (key a)) (ks:=ks) q2 q3
      exact keys_ri J.inv (fun _ _=>rfl) r
    refine wpAny_bind (kind_keys (ky:=ks.map key) (by
      have:∀ {ks:List α}{us:List Value}{h:Heap},Paired (fun a u=>KeyAt h u (key a)) ks us→Paired (fun k u=>KeyAt h u k) (ks.map key) us:=fun {ks us h} p=>by
        induction p with
        | nil=>exact .nil
        | cons r _ ih=>exact .cons r ih
      exact this kp) (by rw [List.length_map]; omega) ?_)
    refine wpAny_bind (wpAny_mono (run_keys (Q:=fun st' s'=>s'=s ∧ ∃ (qs:List α) (out:List Value),qs.Perm ks∧(qs.map rank).Pairwise (· ≤ ·)∧Paired (RI X.K H L g) qs out∧(arrOf st').map (·.2)=out.toArray∧failedOf st'=none) kp hp hr (by omega) h64 hu
      (fun st' qs out a1 a2 a3 a4 a5=>⟨rfl,qs,out,a1,a2,a3,a4,a5⟩)) ?_ fun _ _ x=>x)
    rintro ⟨⟨⟩,st'⟩ s' ⟨rfl,qs,out,a1,a2,a3,a4,a5⟩
    exact tail st' qs out a1 a2 a3 a4 a5
theorem wp_sortedK (F:FnOk X.prog X.w X.K X.mg X.base CX0 kk f fd ps (PureSp X.K Ar Pre Post))(hb:Binds X.K fd ps [])(hrm:Room (kk+2) X.A)(h0:∀a∈ks,Ar (ia a) = [g a])(h1:∀a∈ks,Pre (ia a))(h2:∀a∈ks,∀d,Post (ia a) d→d=kd (key a))(hr:∀a∈ks,∀b∈ks,ltK (key a) (key b)=decide (rank a < rank b))(h64:ks.length < 64)(I:L2.Inv X pins σ H s)(lk:LOk L H)(r:Rep X.K H L (.lst (ks.map g)) (.ref l))(k:∀ (qs:List α) (v:V) (H':Hp),qs.Perm ks→(qs.map rank).Pairwise (· ≤ ·)→Same H H'→Rep X.K H' L (.lst (qs.map g)) v→Q v H'):wpAny (model X.prog X.w) X.A (call (.builtin "sorted") [.ref l] [(Str.ofString "key",.ref f)]) (EP X pins σ Q) X.xe s:=by
  obtain ⟨l',xs,e0,hq,hrs⟩:=rep_lst.mp r
  cases e0
  obtain ⟨vs,rv,pl,_⟩:=I.list hq.sq
  have hl:=pl.isList
  have hp:=ri_of hrs rv
  have hlen:ks.length=vs.length:=hp.length
  have hsl:sizeLine=16777216:=sizeLine_eq
  have hrA:Room kk X.A.in1.in1:=(hrm.in1).in1
  refine call_function_entry_kw kind_sorted plain_sorted entry_sorted (ksk_s1 _ _) ?_
  unfold Builtin.«sorted»
  refine wpAny_bind (m:=checkCount "sorted" 1 1 _) (wpAny_pure ?_)
  refine wpAny_bind (collect_list hl ?_ (by omega))
  refine wpAny_bind (wpAny_newList ?_ (by omega))
  have hsz:((s.heap.push (seqObj "list" #[] 0)).update s.heap.objs.size (Obj.mapSeq (· ++ vs.toArray))).objs.size=s.heap.objs.size+1:=by
    rw [Heap.size_update,size_push']
  have hoL:(((s.heap.push (seqObj "list" #[] 0)).update s.heap.objs.size (Obj.mapSeq (· ++ vs.toArray))).push (seqObj "list" vs.toArray 0)).get? (s.heap.objs.size+1)=some (seqObj "list" vs.toArray 0):=by
    rw [← hsz]; exact Heap.get?_push_size _ rfl
  have keep:∀b o,s.heap.get? b=some o→(((s.heap.push (seqObj "list" #[] 0)).update s.heap.objs.size (Obj.mapSeq (· ++ vs.toArray))).push (seqObj "list" vs.toArray 0)).get? b=some o:=fun b o q=>by
    have hlt:b < s.heap.objs.size:=Heap.lt_size q
    rw [Heap.get?_push_ne _ _ _ (by rw [hsz]; exact Nat.ne_of_lt (Nat.lt_succ_of_lt hlt)),Heap.get?_update_ne _ _ _ _ (Nat.ne_of_lt hlt),Heap.get?_push_ne _ _ _ (Nat.ne_of_lt hlt)]
    exact q
  have I1:L2.Inv X pins σ H { s with heap:=((s.heap.push (seqObj "list" #[] 0)).update s.heap.objs.size (Obj.mapSeq (· ++ vs.toArray))).push (seqObj "list" vs.toArray 0) }:=I.kept (t':=s.toks) keep
  have nD:NewA X pins (s.heap.objs.size+1):=newA I (Nat.le_succ _)
  have fD:H (s.heap.objs.size+1)=none:=I.hok.fresh (Nat.le_succ _)
  show wpAny _ _ _ _ _ { s with heap:=((s.heap.push (seqObj "list" #[] 0)).update s.heap.objs.size (Obj.mapSeq (· ++ vs.toArray))).push (seqObj "list" vs.toArray 0) }
  rw [hsz]
  generalize hs1:({ s with heap:=((s.heap.push (seqObj "list" #[] 0)).update s.heap.objs.size (Obj.mapSeq (· ++ vs.toArray))).push (seqObj "list" vs.toArray 0) }:Shared)=s1 at I1 ⊢
  have hoL:s1.heap.get? (s.heap.objs.size+1)=some (seqObj "list" vs.toArray 0):=by rw [← hs1]; exact hoL
  refine wpAny_bind (wpAny_holding (wpAny_call_entry_kw slot_list_sort ⟨_,hoL,rfl⟩ entry_list_sort ?body (ksk_l1 _ _)))
  case body =>
    show wpAny (model X.prog X.w) X.A.in1.in1 (Builtin.«list.sort» ⟨[.ref (s.heap.objs.size+1)],[(Str.ofString "key",.ref f)]⟩) _ _ _
    rw [ksk_t1]
    unfold ksk_tree
    refine wpAny_bind (listItems_at hoL rfl ?_)
    refine wpAny_bind (listUpdate_at hoL rfl ?_ (by rw [List.size_toArray]; omega) (Nat.zero_le _))
    obtain ⟨I2,e1,ho1⟩:=inv_turn (its':=[]) I1 nD fD hoL
    refine wpAny_bind (seqEpoch_at ho1 rfl ?_)
    refine wpAny_bind (wpAny_newTuple ?_ (by show vs.length≤_; omega))
    refine wpAny_bind (wpAny_newList ?_ (Nat.zero_le _))
    refine wpAny_holding ?_
    generalize hs2:({ s1 with heap:=(s1.heap.update (s.heap.objs.size+1) (Obj.mapSeq fun _=>([]:List Value).toArray)).push { cls:=.type "tuple",data:=.seq vs.toArray.toList.toArray } }:Shared)=s2
    have I3:L2.Inv X pins σ H s2:=by
      rw [← hs2]
      exact I2.kept (t':=s1.toks) fun b o q=>Heap.get?_push_of_some _ q
    have ho3:s2.heap.get? (s.heap.objs.size+1)=some (seqObj "list" ([]:List Value).toArray e1):=by
      rw [← hs2]
      exact Heap.get?_push_of_some _ ho1
    show wpAny (model X.prog X.w) X.A.in1.in1 (ksk_rest (s.heap.objs.size+1) (.ref f) false vs.toArray e1 (.ref _)) _ _ _
    have hks:((s1.heap.update (s.heap.objs.size+1) (Obj.mapSeq fun _=>(#[]:Array Value))).push { cls:=.type "tuple",data:=.seq vs.toArray.toList.toArray }).objs.size=s2.heap.objs.size:=by rw [← hs2]
    have hst:({ s1 with heap:=((s1.heap.update (s.heap.objs.size+1) (Obj.mapSeq fun _=>(#[]:Array Value))).push { cls:=.type "tuple",data:=.seq vs.toArray.toList.toArray }).push { cls:=.type "list",data:=.seq ([]:List Value).toArray } }:Shared) = { s2 with heap:=s2.heap.push { cls:=.type "list",data:=.seq ([]:List Value).toArray } }:=by rw [← hs2]
    have goal:wpAny (model X.prog X.w) X.A.in1.in1 (ksk_rest (s.heap.objs.size+1) (.ref f) false vs.toArray e1 (.ref s2.heap.objs.size)) (fun fin s'=>∃v,fin = .done (.ret v)∧wpAny (model X.prog X.w) X.A.in1 (ret (.ref (s.heap.objs.size+1))) (fun fin s'=>∃v,fin = .done (.ret v)∧EP X pins σ Q v s') X.xe s') X.xe { s2 with heap:=s2.heap.push { cls:=.type "list",data:=.seq ([]:List Value).toArray } }:=by
      have hkS:H s2.heap.objs.size=none:=I3.hok.fresh (Nat.le_refl _)
      have I4:L2.Inv X pins σ (upd H s2.heap.objs.size (.lst [])) { s2 with heap:=s2.heap.push { cls:=.type "list",data:=.seq ([]:List Value).toArray } }:=I3.lnew (t':=s2.toks) .nil (Nat.zero_le _)
      have neD:s.heap.objs.size+1 ≠ s2.heap.objs.size:=Nat.ne_of_lt (Heap.lt_size ho3)
      have I5:=inv_pin (P:=[]) (a:=s.heap.objs.size+1) (by rw [List.append_nil]; exact I4) nD (by rw [upd_ne neD]; exact fD) (Heap.get?_push_of_some _ ho3) (fun v z=>by cases z)
      rw [List.append_nil] at I5
      have sm4:Same H (upd H s2.heap.objs.size (.lst [])):=same_upd hkS
      have le:Less H L (fun b=>L b∨b=s2.heap.objs.size):=fun b o h n z=>z.elim n fun e=>by rw [e,hkS] at h; cases h
      unfold ksk_rest
      refine wpAny_bind (wpAny_rule ?_)
      first
        | rw [List.forIn_toArray]
        | (rw [← Array.forIn_toList]; simp only [List.toList_toArray])
      refine wpAny_bind (key_loop (H:=H) (L2':=fun b=>L b∨b=s2.heap.objs.size) (kS:=s2.heap.objs.size) (P:=pins ++ [(s.heap.objs.size+1,seqObj "list" #[] e1)])
        (Qf:=fun s5=>wpAny (model X.prog X.w) X.A.in1.in1 (Builtin.List.listItems (.ref s2.heap.objs.size) >>= fun keys=>ksk_end (s.heap.objs.size+1) false vs.toArray e1 (.ref s2.heap.objs.size) keys) (fun fin s'=>∃v,fin = .done (.ret v)∧wpAny (model X.prog X.w) X.A.in1 (ret (.ref (s.heap.objs.size+1))) (fun fin s'=>∃v,fin = .done (.ret v)∧EP X pins σ Q v s') X.xe s') X.xe s5)
        F hb hrA (fun I'=>I'.env0.in1.in1) (.inr rfl) hkS (fun u s6 C R h6=>?_) ks vs [] [] (upd H s2.heap.objs.size (.lst [])) _ (by simpa using h64) h0 h1 h2 (Paired.imp' (fun x u ⟨v,r1,r2⟩=>⟨v,r1.less le,r2⟩) hp)
        ⟨I5,sm4,fun b hb'=>?_,⟨[],upd_same,Reps.nil,.nil⟩,⟨0,Heap.get?_push_size _ rfl⟩⟩ fun kv2 H2 s5 J=>?_)
      · refine wpAny_bind (wpAny_attempt (wpAny_mono h6 (fun k6 s7 h7=>?_) fun _ _ hF=>hF.elim))
        exact wpAny_bind (wpAny_mono h7 (fun _ s8 h8=>wpAny_pure h8) fun _ _ x=>x)
      · rcases hb' with hb' | rfl
        · exact lk.same sm4 b hb'
        · rw [upd_same]; exact fun z=>nomatch z
      · obtain ⟨nk,hok⟩:=J.obj
        refine wpAny_bind (listItems_at hok rfl ?_)
        refine wp_kend (ks:=ks) (H:=H) (L:=L) hr h64 (by show X.A.units+1+1+64 < cLine; have:=hrm.un; omega) nD lk (fun _ z=>Or.inl z) hp hkS (by simpa using J) fun qs s9 a1 a2 a3=>?_
        exact ⟨_,rfl,wpAny_pure ⟨_,rfl,a3 Q fun v H' sm rp=>k qs v H' a1 a2 sm rp⟩⟩
    exact goal
theorem boot_sortedB:bootBuiltins "sorted" = some (.builtin "sorted"):=PyProof.Rows.boot_sorted
variable {δ:List (Option D)}{e:Expr}{p pos p2 kp:Pos}{x:Str}
theorem ev_sorted (hg:∀a∈ks,g a=kd (key a))(hr:∀a∈ks,∀b∈ks,ltK (key a) (key b)=decide (rank a < rank b))(h2:2≤ks.length)(h64:ks.length < 64)(hrm:Room kk X.A)(h:Ev X e δ (.lst (ks.map g)))(hm:X.mg "sorted" = none)(hgl:Gl X "sorted" := by rfl)(he:starEach [e] X.env = [(false,eval e X.env)]:=by rfl) :
    EvP X (.Call (.Name "sorted" p) [e] [] pos) δ (fun d=>∃qs:List α,qs.Perm ks∧(qs.map rank).Pairwise (· ≤ ·)∧d = .lst (qs.map g)):=fun σ H L Q l r k=>by
  have hc:CallR X (.builtin "sorted") (fun vs H Q=>∃L a,LOk L H∧vs = [.ref a]∧Rep X.K H L (.lst (ks.map g)) (.ref a) ∧ ∀ (qs:List α) (v:V) (H':Hp),qs.Perm ks→(qs.map rank).Pairwise (· ≤ ·)→Same H H'→Rep X.K H' L (.lst (qs.map g)) v→Q v H'):=by
    intro pins s σ H vs us Q I rv ⟨L,a,lk,e1,rp,k⟩
    subst e1
    obtain ⟨u,rfl,ru⟩:=vals1 rv
    cases ru
    exact wp_sorted hg hr h2 h64 (by have:=hrm.un; omega) I lk rp k
  refine we_of (pe_callB hc hgl hm boot_sortedB pa_wa (he:=he)) (ea1 h he σ H L _ l r fun vs H1 s1 r1=>?_)
  obtain ⟨v,rfl,h1⟩:=reps1 r1
  obtain ⟨a,us,rfl,_⟩:=rep_lst.mp h1
  exact ⟨L,a,l.same s1,rfl,h1,fun qs v H' a1 a2 sm rp=>k _ v H' ⟨qs,a1,a2,rfl⟩ (s1.trans sm) rp⟩
theorem ev_sortedK (F:PFn X.prog X.w X.K X.mg X.base x kk Ar Pre Post)(hrm:Room (kk+2) X.A)(h0:∀a∈ks,Ar (ia a) = [g a])(h1:∀a∈ks,Pre (ia a))(h2:∀a∈ks,∀d,Post (ia a) d→d=kd (key a))(hr:∀a∈ks,∀b∈ks,ltK (key a) (key b)=decide (rank a < rank b))(h64:ks.length < 64)(h:Ev X e δ (.lst (ks.map g)))(hm:X.mg "sorted" = none)(hgl:Gl X "sorted" := by rfl)(hgx:Gl X x:=by rfl)(hdx:(x == ("__debug__" : Str))=false:=by decide)(he:starEach [e] X.env = [(false,eval e X.env)]:=by rfl)(hk1:(backToKw pos (keywordEach [⟨some (Str.ofString "key"),.Name x p2,kp⟩] X.env)).filterMap (·.1) = [Str.ofString "key"]:=by rfl)(he2:backTo pos (starEach [e] X.env)=(false,eval e X.env)::backTo pos (starEach [] X.env):=by rfl)(hplain:(backTo pos (starEach [e] X.env)).any (·.1)=false:=by rfl)(hall:(backToKw pos (keywordEach [⟨some (Str.ofString "key"),.Name x p2,kp⟩] X.env)).all (·.1.isSome)=true:=by rfl)(hkw:(backToKw pos (keywordEach [⟨some (Str.ofString "key"),.Name x p2,kp⟩] X.env)).any (·.1.isNone)=false:=by rfl) :
    EvP X (.Call (.Name "sorted" p) [e] [⟨some (Str.ofString "key"),.Name x p2,kp⟩] pos) δ (fun d=>∃qs:List α,qs.Perm ks∧(qs.map rank).Pairwise (· ≤ ·)∧d = .lst (qs.map g)):=fun σ H L Q l r k pins s I=>by
  obtain ⟨f,fd,ps,F,hmx,hkx,hb⟩:=F.ex
  refine wpAny_Call_Name_kw (ld_blt I hgl hm boot_sortedB ?_ (by decide) (by decide))
  refine callWith_kw (thn (pa_wa pos pins s σ H _ I (ea1 h he σ H L _ l r fun vs H1 s1 r1=>(show (∃a,vs = [.ref a]∧Same H H1∧Rep X.K H1 L (.lst (ks.map g)) (.ref a)) from ?_))) fun us s1 ⟨vs,H1,I1,rv,a,e1,sm1,rp⟩=>?_) he2 hplain hall hkw
  · obtain ⟨v,rfl,h1⟩:=reps1 r1
    obtain ⟨a,us,rfl,_⟩:=rep_lst.mp h1
    exact ⟨a,rfl,s1,h1⟩
  · subst e1
    obtain ⟨u,rfl,ru⟩:=vals1 rv
    cases ru
    refine thn (pk_cons (pe_glob hgx hmx (v:=.ref f) rfl hdx) pk_nil pos pins s1 σ H1 (fun zs H'=>zs = [.ref f]∧H'=H1) I1 ⟨rfl,rfl⟩) fun ws s2 ⟨zs,H2,I2,rz,e2,e3⟩=>?_
    subst e2; subst e3
    obtain ⟨u2,rfl,ru2⟩:=vals1 rz
    cases ru2
    rw [hk1]
    exact wp_sortedK F hb hrm h0 h1 h2 hr h64 I2 (l.same sm1) rp fun qs v H' a1 a2 sm rp'=>k _ v H' ⟨qs,a1,a2,rfl⟩ (sm1.trans sm) rp'
end
end DL
namespace DL
open PySem PySem.Spec PyProof.Rows L2
def ndB:List Str→Bool
  | []=>true
  | y::r=>!r.contains y && ndB r
theorem nd_of:∀ {l:List Str},ndB l=true→l.Nodup
  | [],_=>List.nodup_nil
  | y::r,h=>by
    unfold ndB at h
    rw [Bool.and_eq_true] at h
    refine List.nodup_cons.mpr ⟨fun m=>?_,nd_of h.2⟩
    have:=h.1
    rw [List.contains_iff_mem.mpr m] at this
    cases this
def cokB (names outer:List (Str×NameKind)):Bool:=names.all fun y=>y.2 != .cell && (y.2 != .local || names.lookup y.1 == some .local) && (y.2 != .free || outer.lookup y.1 == some .cell || outer.lookup y.1 == some .free)
def nolB (names:List (Str×NameKind))(N:List Str):Bool:=N.all fun y=>!(names.lookup y == some .local)
theorem cok {X:Cx}{scope:Scope}{x:Str}{N₁:List Str}(hc:X.calm=true:=by rfl)(hk:scope.kind = .function:=by rfl)(h1:cokB scope.names X.env.scope.names=true:=by rfl)(hx:scope.names.lookup x=some .local:=by rfl)(h2:nolB scope.names N₁=true:=by rfl)(h3:ndB (x::N₁)=true:=by rfl):CompOk X scope x N₁:=by
  have a:=List.all_eq_true.mp h1
  have b:=List.all_eq_true.mp h2
  refine ⟨hc,hk,fun y hy z=>?_,fun y hy z=>?_,hx,fun y hy z=>?_,fun y hy z=>?_,nd_of h3⟩
  · have:=a y hy
    rw [z] at this
    simp at this
  · have:=a y hy
    rw [z] at this
    simpa using this
  · have:=a y hy
    rw [z] at this
    show X.env.scope.names.lookup y.1=some .cell∨X.env.scope.names.lookup y.1=some .free
    simpa using this
  · have:=b y hy
    rw [z] at this
    simp at this
theorem Blk.nxc {X:Cx}{sts:List Stmt}{δ δ1 δ2:List En}(h:Blk X sts δ (.nx δ1))(e:δ1=δ2):Blk X sts δ (.nx δ2):=e ▸ h
theorem ups_get {m j:Nat}{d:D}(h:(ups m)[j]? = some d):j < m∧d = .int j:=by
  unfold ups at h
  rw [List.getElem?_map] at h
  cases q:(List.range m)[j]? with
  | none=>rw [q] at h; cases h
  | some i =>
    rw [q] at h
    obtain ⟨hi,ej⟩:=List.getElem?_eq_some_iff.mp q
    rw [List.length_range] at hi
    rw [List.getElem_range] at ej
    subst ej
    cases h
    exact ⟨hi,rfl⟩
theorem ups_len (m:Nat):(ups m).length=m:=by unfold ups; simp
theorem map_get {α:Type}{g:α→D}{ks:List α}{j:Nat}{d:D}(h:(ks.map g)[j]? = some d):∃ (hj:j < ks.length),d=g ks[j]:=by
  rw [List.getElem?_map] at h
  cases q:ks[j]? with
  | none=>rw [q] at h; cases h
  | some i =>
    rw [q] at h
    obtain ⟨hi,ej⟩:=List.getElem?_eq_some_iff.mp q
    subst ej
    cases h
    exact ⟨hi,rfl⟩
inductive CI:List Expr→List Int→Prop
  | nil:CI [] []
  | cons {i:Int}{j:Nat}{p:Pos}{es:List Expr}{ns:List Int}:CI es ns→CI (.Constant (.int i) j p::es) (i::ns)
theorem ea_ints {X:Cx}{δ:List (Option D)}:∀ {es:List Expr}{ns:List Int},CI es ns→EvA X es δ (ns.map D.int)
  | _,_,.nil=>ea_nil
  | _,_,.cons h=>ea_cons ev_int (ea_ints h) rfl
theorem ev_ints {X:Cx}{δ:List (Option D)}{es:List Expr}{ns:List Int}{pos:Pos}(h:CI es ns)(hz:ns.length≤1000:=by decide):Ev X (.List es pos) δ (.lst (ns.map D.int)):=ev_lst (ea_ints h) (by rw [List.length_map]; exact hz)
end DL
namespace DL
open PySem PySem.Spec PyProof.Rows L2
section
variable {X:Cx}{δ:List (Option D)}{a b e iter elt o:Expr}{es:List Expr}{pos p px apos:Pos}{x m:Str}{P:List D→Prop}{ifs:List Expr}{scope:Scope}{N₁:List Str}{δ₁:List (Option D)}
def EvF (X:Cx)(e:Expr)(δ:List (Option D))(P:List D→Prop):Prop:=
  ∀ (σ:St) (H:Hp) (L:Addr→Prop) (Q:VK),LOk L H→EnvR X.K H L δ σ→(∀ds p ws H',P ds→H p=none→Same H H'→H' p=some (.lst ws)→Reps X.K H' (fun a=>L a∨a=p) ds ws→Q (.ref p) H')→WE X e σ H Q
theorem EvF.toP {R:D→Prop}(h:EvF X e δ P)(k:∀ds,P ds→R (.lst ds)):EvP X e δ R:=fun σ H L Q l r q=>h σ H L Q l r fun ds p ws H' hp hn sm hH rs =>
  q _ _ H' (k ds hp) sm (rep_lst.mpr ⟨p,ws,rfl,.of (l.fresh hn) hH,rs.less (.of fun _ z=>.inl z)⟩)
theorem less_new {H:Hp}{L:Addr→Prop}{p:Addr}(hn:H p=none):Less H L (fun a=>L a∨a=p):=fun a o h n z=>z.elim n fun e=>by rw [e,hn] at h; cases h
theorem ef_list {ds:List D}(h:Ev X a δ (.lst ds))(hm:X.mg "list" = none)(hg:Gl X "list" := by rfl)(he:starEach [a] X.env = [(false,eval a X.env)]:=by rfl):EvF X (.Call (.Name "list" p) [a] [] pos) δ (· = ds):=fun σ H L Q l r k=>by
  refine we_of (pe_callTy call_list_of hg hm boot_list pa_wa (he:=he)) (ea1 h he σ H L _ l r fun vs H1 s1 r1=>?_)
  obtain ⟨v,rfl,h1⟩:=reps1 r1
  obtain ⟨q,us,rfl,hq,hr⟩:=rep_lst.mp h1
  exact ⟨q,us,rfl,.inl hq.sq,fun l' hl=>k ds l' us _ rfl (s1.free hl) (s1.trans (same_upd hl)) upd_same ((hr.less (less_new hl)).same (same_upd hl))⟩
end
def FreshSp {ι:Type}(K:PySem.W.Frag)(Ar:ι→List D)(Pre:ι→Prop)(Post:ι→List D→Prop):Sp:=fun vs H Q _=>∃ (L:Addr→Prop) (i:ι),LOk L H∧Reps K H L (Ar i) vs∧Pre i ∧
  ∀ds p ws H',Post i ds→H p=none→Same H H'→H' p=some (.lst ws)→Reps K H' (fun a=>L a∨a=p) ds ws→Q (.ref p) H'
structure FFn {ι:Type}(P:Program)(w:World)(K:PySem.W.Frag)(mg:Str→Option Value)(base:Heap)(x:Str)(k:Nat)(Ar:ι→List D)(Pre:ι→Prop)(Post:ι→List D→Prop):Prop where
  ex:∃ (f:Addr) (fd:FuncData) (ps:List Str),FnOk P w K mg base CX0 k f fd ps (FreshSp K Ar Pre Post)∧mg x=some (.ref f)∧PySem.W.keepIn K (.ref f)=true∧Binds K fd ps []
structure FMt {ι:Type}(P:Program)(w:World)(K:PySem.W.Frag)(mg:Str→Option Value)(base:Heap)(C:Addr)(m:Str)(k:Nat)(Ar:ι→List D)(Pre:ι→Prop)(Post:ι→List D→Prop):Prop where
  ex:∃ (f:Addr) (fd:FuncData) (ps:List Str),FnOk P w K mg base CX0 k f fd ps (FreshSp K Ar Pre Post)∧Meth K C m f∧Binds K fd ps []
section
variable {X:Cx}{δ:List (Option D)}{a b c e o:Expr}{es:List Expr}{pos p apos:Pos}{x m:Str}{k:Nat}{ι:Type}{Ar:ι→List D}{Pre:ι→Prop}{Post:ι→List D→Prop}{ds:List D}
theorem ef_call (F:FFn X.prog X.w X.K X.mg X.base x k Ar Pre Post)(i:ι)(hr:Room k X.A)(ha:EvA X (e::es) δ ds)(hp:Pre i)(hA:Ar i=ds:=by rfl)(hg:Gl X x:=by rfl)(hdb:(x == ("__debug__" : Str))=false:=by decide)(he:starEach (e::es) X.env=(false,eval e X.env)::starEach es X.env:=by rfl)(hpl:(backTo pos (starEach es X.env)).any (·.1)=false:=by rfl):EvF X (.Call (.Name x p) (e::es) [] pos) δ (Post i):=fun σ H L Q l r q=>by
  obtain ⟨f,fd,ps,F,hm,hk,hb⟩:=F.ex
  refine we_of (pe_call F hr hg hm hk hb .nil pass0 pa_wa hdb he hpl) (ha σ H L _ l r fun vs H1 s1 r1=>?_)
  exact ⟨L,i,l.same s1,by rw [List.append_nil,hA]; exact r1,hp,fun ds' p' ws H' po hn sm hH rs=>q ds' p' ws H' po (s1.free hn) (s1.trans sm) hH rs⟩
theorem ef_meth0 {C:Addr}{ks:List Str}{fs:List D}(F:FMt X.prog X.w X.K X.mg X.base C m k Ar Pre Post)(i:ι)(c:Cls X.K C)(hr:Room k X.A)(ho:Ev X o δ (.ins C ks fs))(hkm:m ∉ ks)(hp:Pre i)(hA:Ar i = [.ins C ks fs]:=by rfl){pl:Sem Bool}(ht:eval (.Call (.Attribute o m apos) [] [] pos) X.env=(do
      let ov ← eval o X.env
      standAt apos.atName
      let (f,first) ← holding [ov] (getMethod ov m pl)
      callWith pos f first (backTo pos (starEach [] X.env)) (backToKw pos (keywordEach [] X.env))):=by rfl):EvF X (.Call (.Attribute o m apos) [] [] pos) δ (Post i):=fun σ H L Q l r q=>by
  obtain ⟨f,fd,ps,F,hm,hb⟩:=F.ex
  refine we_of (pe_meth0 pe_we c hm F hr hb .nil pass0 ht) (ho σ H L _ l r fun v H1 s1 r1=>?_)
  obtain ⟨a,dx,vs,rfl,n,hH,hl,hrs⟩:=rep_ins.mp r1
  refine ⟨a,dx,_,rfl,hH,?_,?_⟩
  · cases z:(ks.zip vs).lookup m with
    | none=>rfl
    | some v=>exact absurd (List.of_mem_zip (PySem.mem_of_lookup z)).1 hkm
  · exact ⟨L,i,l.same s1,by rw [hA]; exact Reps.cons r1 Reps.nil,hp,fun ds' p' ws H' po hn sm hH' rs=>q ds' p' ws H' po (s1.free hn) (s1.trans sm) hH' rs⟩
end
section
variable {X:Cx}{δ:List En}{e:Expr}{pos p py npos:Pos}{P:List D→Prop}{i:Nat}{x:Str}{ds:List D}{rest:List Stmt}{o:Out}
theorem st_retF (h:EvF X e (opn δ) P):Stm X (.Return (some e) pos) δ (.rf P):=fun H0 L0 σ H L E l s k =>
  ws_of (ps_ret pe_we) (h σ H L0 _ (s.lok0 l) (s.opnR l) fun ds p ws H' hp hn sm hH rs=>k ds p ws H' hp (s.same.free hn) (s.same.trans sm) hH rs)
theorem st_retOwn (i:Nat)(hδ:δ[i]? = some (.ow ds))(hN:X.N[i]? = some x:=by rfl)(hv:Vis X.env.scope x:=by first | exact Or.inl rfl | exact Or.inr (Or.inl rfl) | exact Or.inr (Or.inr rfl))(hd:(x == ("__debug__" : Str))=false:=by decide)(hcd:(x == ("__classdict__" : Str))=false:=by decide):Stm X (.Return (some (.Name x npos)) pos) δ (.rf (· = ds)):=fun H0 L0 σ H L E l s k=>by
  obtain ⟨a,vs,q1,q2,q3,q4,q5⟩:=s.env.own i ds hδ
  refine ws_of (ps_ret (pe_var hN hv hd hcd)) ⟨_,q1,k ds a vs H rfl q3 s.same q4 (q5.less (.of fun b z=>z.elim (s.sub b) fun e=>e ▸ q2))⟩
end
section
variable {P:Program}{w:World}{K:PySem.W.Frag}{mg:Str→Option Value}{base:Heap}{ι:Type}{Ar:ι→List D}{Pre:ι→Prop}{Post:ι→List D→Prop}
theorem fn_fresh {x qual:Str}{st:Stmt}{f:Addr}{fd:FuncData}{N ps:List Str}{k:Nat}(F:Fun K x qual st f fd)(S:FnScope N ps (defScope st))(hl:∀i,(Ar i).length=ps.length)(body:∀ (cdv:Value) (A:Around) (outer:List Env) (s:Shared) (H:Hp) (E:XK),Room k (A.deeper (envOfC qual (defScope st) s.heap.objs.size f cdv))→∀i,Pre i →
      Blk (cxOf CX0 P w K mg base N qual (defScope st) f cdv A outer s H E).nox (defBody st) (startD N (Ar i)) (.rf (Post i))):FnOk P w K mg base CX0 (k+1) f fd ps (FreshSp K Ar Pre Post):=by
  refine F.ok S (fun vs H Q E ⟨L,i,_,r,p,_⟩=>by rw [← r.length]; exact hl i) fun cdv A outer s H vs Q E hr ⟨L,i,l,r,p,q⟩=>⟨_,pss_wb,?_⟩
  exact body cdv A outer s H E hr i p H L _ H L _ l (start_ok l r) fun ds p' ws H' po hn sm hH rs=>q ds p' ws H' po hn sm hH rs
end
mutual
def New (K:PySem.W.Frag)(H H':Hp)(L:Addr→Prop):D→V→Prop
  | .non,v=>v = .non
  | .bl b,v=>v = .bl b
  | .int i,v=>v = .int i
  | .str x,v=>v = .str x
  | .tup ds,v=>∃a vs,v = .ref a∧SqTa K H' L a vs∧News' K H H' L ds vs
  | .lst ds,v=>∃a vs,v = .ref a ∧ ¬ L a∧H a=none∧H' a=some (.lst vs)∧News' K H H' L ds vs
  | .ins C ks ds,v=>∃a dx vs,v = .ref a ∧ ¬ L a∧H a=none∧H' a=some (.ins C dx (ks.zip vs))∧ks.length=vs.length∧News' K H H' L ds vs
def News' (K:PySem.W.Frag)(H H':Hp)(L:Addr→Prop):List D→List V→Prop
  | [],vs=>vs = []
  | d::ds,vs=>∃v r,vs=v::r∧New K H H' L d v∧News' K H H' L ds r
end
section
variable {K:PySem.W.Frag}{H H':Hp}{L L':Addr→Prop}
def NewOff (H H':Hp)(L L':Addr→Prop):Prop:=∀a,L' a→L a ∨ ∃xs,H a=some (.lst xs)∧H' a=some (.lst xs)
mutual
theorem New.rep (h:NewOff H H' L L'):∀ {d:D}{v:V},New K H H' L d v→Rep K H' L' d v
  | .non,_,r=>by unfold New at r; exact rep_non.mpr r
  | .bl _,_,r=>by unfold New at r; exact rep_bl.mpr r
  | .int _,_,r=>by unfold New at r; exact rep_int.mpr r
  | .str _,_,r=>by unfold New at r; exact rep_str.mpr r
  | .tup ds,_,r=>by
    unfold New at r
    obtain ⟨a,vs,rfl,q,rs⟩:=r
    refine rep_tup.mpr ⟨a,vs,rfl,?_,News'.reps h rs⟩
    rcases q with ⟨n,q⟩ | q
    · refine .inl ⟨fun z=>?_,q⟩
      rcases h a z with z | ⟨xs,_,e⟩
      · exact n z
      · rcases q with q | ⟨o,q⟩ <;> (rw [e] at q; cases q)
    · exact .inr q
  | .lst ds,_,r=>by
    unfold New at r
    obtain ⟨a,vs,rfl,n,f,q,rs⟩:=r
    refine rep_lst.mpr ⟨a,vs,rfl,.of (fun z=>?_) q,News'.reps h rs⟩
    rcases h a z with z | ⟨xs,e,_⟩
    · exact n z
    · rw [e] at f; cases f
  | .ins C ks ds,_,r=>by
    unfold New at r
    obtain ⟨a,dx,vs,rfl,n,f,q,l,rs⟩:=r
    refine rep_ins.mpr ⟨a,dx,vs,rfl,fun z=>?_,q,l,News'.reps h rs⟩
    rcases h a z with z | ⟨xs,e,_⟩
    · exact n z
    · rw [e] at f; cases f
theorem News'.reps (h:NewOff H H' L L'):∀ {ds:List D}{vs:List V},News' K H H' L ds vs→Reps K H' L' ds vs
  | [],_,r=>by unfold News' at r; exact reps_nil.mpr r
  | d::ds,_,r=>by
    unfold News' at r
    obtain ⟨v,vs,rfl,r1,r2⟩:=r
    exact Reps.cons (New.rep h r1) (News'.reps h r2)
end
end
section
variable {X:Cx}{δ:List En}{e:Expr}{pos p py:Pos}{P:D→Prop}{i:Nat}{x:Str}{rest:List Stmt}{o:Out}
def EvN (X:Cx)(e:Expr)(δ:List (Option D))(P:D→Prop):Prop:=
  ∀ (σ:St) (H:Hp) (L:Addr→Prop) (Q:VK),LOk L H→EnvR X.K H L δ σ→(∀d v H',P d→Same H H'→New X.K H H' L d v→Q v H')→WE X e σ H Q
end
section
variable {K:PySem.W.Frag}{H H1 H':Hp}{L L':Addr→Prop}
mutual
theorem New.mono (h1:∀a,H a=none→H1 a=none)(h2:∀a,L' a→L a):∀ {d:D}{v:V},New K H H' L d v→New K H1 H' L' d v
  | .non,_,r=>by unfold New at r ⊢; exact r
  | .bl _,_,r=>by unfold New at r ⊢; exact r
  | .int _,_,r=>by unfold New at r ⊢; exact r
  | .str _,_,r=>by unfold New at r ⊢; exact r
  | .tup ds,_,r=>by
    unfold New at r ⊢
    obtain ⟨a,vs,rfl,q,rs⟩:=r
    exact ⟨a,vs,rfl,q.imp (fun z=>⟨fun w=>z.1 (h2 a w),z.2⟩) id,News'.mono h1 h2 rs⟩
  | .lst ds,_,r=>by
    unfold New at r ⊢
    obtain ⟨a,vs,rfl,n,f,q,rs⟩:=r
    exact ⟨a,vs,rfl,fun w=>n (h2 a w),h1 a f,q,News'.mono h1 h2 rs⟩
  | .ins C ks ds,_,r=>by
    unfold New at r ⊢
    obtain ⟨a,dx,vs,rfl,n,f,q,l,rs⟩:=r
    exact ⟨a,dx,vs,rfl,fun w=>n (h2 a w),h1 a f,q,l,News'.mono h1 h2 rs⟩
theorem News'.mono (h1:∀a,H a=none→H1 a=none)(h2:∀a,L' a→L a):∀ {ds:List D}{vs:List V},News' K H H' L ds vs→News' K H1 H' L' ds vs
  | [],_,r=>by unfold News' at r ⊢; exact r
  | d::ds,_,r=>by
    unfold News' at r ⊢
    obtain ⟨v,vs,rfl,r1,r2⟩:=r
    exact ⟨v,vs,rfl,New.mono h1 h2 r1,News'.mono h1 h2 r2⟩
end
mutual
def noL:D→Bool
  | .lst _=>false
  | .ins _ _ _=>false
  | .tup ds=>noLs ds
  | _=>true
def noLs:List D→Bool
  | []=>true
  | d::ds=>noL d && noLs ds
end
mutual
theorem Rep.new:∀ {d:D}{v:V},noL d=true→Rep K H' L d v→New K H H' L d v
  | .non,_,_,r=>by unfold New; exact rep_non.mp r
  | .bl _,_,_,r=>by unfold New; exact rep_bl.mp r
  | .int _,_,_,r=>by unfold New; exact rep_int.mp r
  | .str _,_,_,r=>by unfold New; exact rep_str.mp r
  | .tup ds,_,n,r=>by
    obtain ⟨a,vs,rfl,q,rs⟩:=rep_tup.mp r
    unfold New
    exact ⟨a,vs,rfl,q,Reps.new (by unfold noL at n; exact n) rs⟩
  | .lst _,_,n,_=>by unfold noL at n; cases n
  | .ins _ _ _,_,n,_=>by unfold noL at n; cases n
theorem Reps.new:∀ {ds:List D}{vs:List V},noLs ds=true→Reps K H' L ds vs→News' K H H' L ds vs
  | [],_,_,r=>by unfold News'; exact reps_nil.mp r
  | d::ds,_,n,r=>by
    obtain ⟨v,vs,rfl,r1,r2⟩:=reps_cons.mp r
    unfold noLs at n
    rw [Bool.and_eq_true] at n
    unfold News'
    exact ⟨v,vs,rfl,Rep.new n.1 r1,Reps.new n.2 r2⟩
end
end
def InitN {ι:Type}(K:PySem.W.Frag)(C:Addr)(ks:List Str)(Ar:ι→List D)(Pre:ι→Prop)(Post:ι→List D→Prop):Sp:=fun vs H Q _=>∃ (p dx:Addr) (us:List V) (L:Addr→Prop) (i:ι),vs = .ref p::us∧H p=some (.ins C dx [])∧LOk L H∧L p∧Reps K H L (Ar i) us∧Pre i ∧
  ∀ (fs:List D) (ws:List V) (H':Hp),Post i fs→(∀b o,H b=some o→b ≠ p→H' b=some o)→H' p=some (.ins C dx (ks.zip ws))→ks.length=ws.length→News' K H H' L fs ws→Q .non H'
structure NMk {ι:Type}(P:Program)(w:World)(K:PySem.W.Frag)(mg:Str→Option Value)(base:Heap)(x:Str)(C:Addr)(ks:List Str)(k:Nat)(Ar:ι→List D)(Pre:ι→Prop)(Post:ι→List D→Prop):Prop where
  ex:∃ (f:Addr) (fd:FuncData) (ps:List Str),FnOk P w K mg base CX0 k f fd ps (InitN K C ks Ar Pre Post)∧Mk K C f∧mg x=some (.ref C)∧Binds K fd ps []
section
variable {X:Cx}{δ:List (Option D)}{e:Expr}{es:List Expr}{pos p:Pos}{x:Str}{k:Nat}{C:Addr}{ks:List Str}{ι:Type}{Ar:ι→List D}{Pre:ι→Prop}{Post:ι→List D→Prop}{ds:List D}
theorem ev_makeN (F:NMk X.prog X.w X.K X.mg X.base x C ks k Ar Pre Post)(i:ι)(hr:Room (k+1) X.A)(ha:EvA X (e::es) δ ds)(hp:Pre i)(hA:Ar i=ds:=by rfl)(hg:Gl X x:=by rfl)(hdb:(x == ("__debug__" : Str))=false:=by decide)(he:starEach (e::es) X.env=(false,eval e X.env)::starEach es X.env:=by rfl)(hpl:(backTo pos (starEach es X.env)).any (·.1)=false:=by rfl):EvN X (.Call (.Name x p) (e::es) [] pos) δ (fun d=>∃fs,Post i fs∧d = .ins C ks fs):=fun σ H L Q l r q=>by
  obtain ⟨f,fd,ps,F,M,hm,hb⟩:=F.ex
  refine we_of (pe_make M F hr hg hm hb .nil pass0 pa_wa hdb he hpl) (ha σ H L _ l r fun vs H1 s1 r1 a dx ha hdx hne=>?_)
  have g1:Same H1 (upd H1 dx (.own a)):=same_upd hdx
  have g2:Same (upd H1 dx (.own a)) (upd (upd H1 dx (.own a)) a (.ins C dx [])):=same_upd (by rw [upd_ne hne.symm]; exact ha)
  have g:=g1.trans g2
  have l1:=l.same s1
  have le:Less H1 L (fun b=>L b∨b=a):=fun b o h n z=>z.elim n fun e=>by rw [e,ha] at h; cases h
  refine ⟨a,dx,_,fun b=>L b∨b=a,i,rfl,upd_same,fun b h=>?_,.inr rfl,by rw [List.append_nil,hA]; exact (r1.less le).same g,hp,fun fs ws H' po kp hH hl rs=>⟨rfl,q _ _ H' ⟨fs,po,rfl⟩ (fun b o h=>?_) ?_⟩⟩
  · rcases h with h | rfl
    · exact l1.same g b h
    · rw [upd_same]; exact fun z=>nomatch z
  · have h1:=s1 b o h
    exact kp b o (g b o h1) (ne_of_none h1 ha)
  · unfold New
    exact ⟨a,dx,ws,rfl,l1.fresh ha,s1.free ha,hH,hl,News'.mono (fun b z=>s1.free (g.free z)) (fun b z=>.inl z) rs⟩
end
end DL
namespace DL
open PySem PySem.Spec PyProof.Rows L2 PySem.W
theorem StR.forget {K:PySem.W.Frag}{H0 H:Hp}{L0 L:Addr→Prop}{δ:List En}{σ:St}(i:Nat)(s:StR K H0 L0 δ σ H L):StR K H0 L0 (δ.set i .no) σ H L:=by
  refine ⟨s.sub,s.new,s.lok,s.same,⟨by rw [List.length_set]; exact s.env.len,fun j d h=>?_,fun j ds h=>?_,fun j k ds ds' a hjk h1 h2=>?_⟩⟩
  · rcases set_get h with ⟨_,z,_⟩ | ⟨_,z⟩
    · cases z
    · exact s.env.dat j d z
  · rcases set_get h with ⟨_,z,_⟩ | ⟨_,z⟩
    · cases z
    · exact s.env.own j ds z
  · rcases set_get h1 with ⟨_,z,_⟩ | ⟨_,z1⟩
    · cases z
    · rcases set_get h2 with ⟨_,z,_⟩ | ⟨_,z2⟩
      · cases z
      · exact s.env.apart j k ds ds' a hjk z1 z2
theorem Blk.forget {X:Cx}{sts:List Stmt}{δ δ1:List En}(i:Nat)(h:Blk X sts δ (.nx δ1)):Blk X sts δ (.nx (δ1.set i .no)):=fun H0 L0 σ H L E l s k =>
  h H0 L0 σ H L E l s fun σ' H' L' s' x'=>k σ' H' L' (s'.forget i) x'
theorem hu64 {A:Around}{k:Nat}(hr:Room k A):A.units+64 < cLine:=by have:=hr.un; omega
section
variable {X:Cx}{pins:List (Addr×Obj)}{σ:St}{H:Hp}{s:Shared}{L:Addr→Prop}{l:Addr}{Q:VK}{ns:List Int}
theorem ints_vals:∀ {us:List Value}{ns:List Int},IntsAre us ns→Vals (ns.map V.int) us
  | _,_,.nil=>.nil
  | _,_,.cons n t h=>.cons ⟨t,rfl⟩ (ints_vals h)
variable {δ:List (Option D)}{a b e:Expr}{p pos:Pos}
end
end DL
namespace DL
open PySem PySem.Spec PyProof.Rows L2 PySem.W
section
variable {X:Cx}{δ:List En}{iter:Expr}{body:List Stmt}{pos p:Pos}{x:Str}{P:D→Prop}{α:Type}{ks:List α}{g:α→D}{q:α→Bool}
theorem Blk.oc {sts:List Stmt}{o o':Out}(h:Blk X sts δ o)(e:o=o'):Blk X sts δ o':=e ▸ h
theorem st_search (i:Nat)(hi:EvI X (.Name x p) iter (hid δ) (ks.map g))(hB:∀k∈ks,Blk X body (δ.set i (.da (g k))) (if q k=true then .rt P else .nx δ))(hc:X.calm=true)(hN:X.N.Nodup)(hx0:X.N[i]? = some x:=by rfl)(hx:Loc X.env.scope x:=by first | exact Or.inl rfl | exact Or.inr rfl)(hf:X.fn x=true∨X.env.scope.names.lookup x=some .local:=by first | exact Or.inl rfl | exact Or.inr rfl)(hxe:PassesOwn (model X.prog X.w) X.A X.env X.xe:=by exact PassesOwn.never)(hs:∀x,foldedSetIterable iter X.env x=pure x:=by intro _; rfl) :
    Stm X (.For (.Name x p) iter body [] pos) δ (if ks.any q=true then .rt P else .nx δ):=by
  cases h:ks.any q with
  | false =>
    rw [if_neg (by decide)]
    refine st_for i (fun _=>δ) hi rfl (fun j d hd=>?_) hc hN hx0 hx hf hxe hs
    obtain ⟨hj,rfl⟩:=map_get hd
    exact (hB _ (List.getElem_mem hj)).oc (if_neg (List.any_eq_false.mp h _ (List.getElem_mem hj)))
  | true =>
    rw [if_pos rfl]
    have hlt:ks.findIdx q < ks.length:=by
      rw [List.findIdx_lt_length]
      simpa using h
    have hat:q (ks[ks.findIdx q])=true:=List.findIdx_getElem (w:=hlt)
    refine st_forG i (ks.findIdx q) (fun _=>δ) hi rfl (by rw [List.length_map]; omega) (fun j d hj hd=>?_) (.inr ⟨g ks[ks.findIdx q],P,by rw [List.getElem?_map,List.getElem?_eq_getElem hlt]; rfl,rfl,(hB _ (List.getElem_mem hlt)).oc (if_pos hat)⟩) hc hN hx0 hx hf hxe hs
    obtain ⟨hj',rfl⟩:=map_get hd
    exact (hB _ (List.getElem_mem hj')).oc (if_neg (by rw [List.not_of_lt_findIdx hj]; decide))
end
end DL
namespace Mth
def mb (a:Nat):List Nat:=(List.range 5).filter fun i=>a.testBit i
def ord:List Nat:=[0,1,2,4,8,16,3,5,9,17,6,10,18,12,20,24,7,11,19,13,21,25,14,22,26,28,15,23,27,29,30,31]
def rk (a:Nat):Nat:=ord.idxOf a
def sub (a b:Nat):Bool:=(a &&& b) == a
def cs (m:Nat):List Nat:=ord.filter fun a=>decide (a < 2 ^ m)
theorem sub_refl (a:Nat):sub a a=true:=by simp [sub]
theorem sub_trans {a b c:Nat}(h1:sub a b=true)(h2:sub b c=true):sub a c=true:=by
  simp only [sub,beq_iff_eq] at *
  rw [← h1,Nat.and_assoc,h2]
theorem sub_antisymm {a b:Nat}(h1:sub a b=true)(h2:sub b a=true):a=b:=by
  simp only [sub,beq_iff_eq] at *
  rw [Nat.and_comm] at h2
  exact h1.symm.trans h2
theorem ord_mem:∀a,a < 32→a∈ord:=by decide +kernel
theorem rk_inj {a b:Nat}(ha:a < 32)(hb:b < 32)(h:rk a=rk b):a=b:=by
  have:∀x,x < 32→∀y,y < 32→rk x=rk y→x=y:=by decide +kernel
  exact this a ha b hb h
theorem rk_sub {a b:Nat}(ha:a < 32)(hb:b < 32)(h:sub a b=true):rk a≤rk b:=by
  have:∀x,x < 32→∀y,y < 32→sub x y=true→rk x≤rk y:=by decide +kernel
  exact this a ha b hb h
theorem ord_sorted:ord.Pairwise fun a b=>rk a < rk b:=by decide +kernel
theorem cs_sorted (m:Nat):(cs m).Pairwise fun a b=>rk a < rk b:=List.Pairwise.filter _ ord_sorted
theorem cs_mem {m a:Nat}(hm:m≤5):a∈cs m↔a < 2 ^ m:=by
  unfold cs
  rw [List.mem_filter]
  constructor
  · rintro ⟨_,h⟩; simpa using h
  · intro h
    have:2 ^ m≤2 ^ 5:=Nat.pow_le_pow_right (by decide) hm
    exact ⟨ord_mem a (by omega),by simpa using h⟩
def car (t:List Nat)(c:Nat):Bool:=t.any fun a=>sub a c
def lst:List Nat→List Nat→List Nat
  | acc,[]=>acc
  | acc,c::r=>if acc.any (fun a=>sub a c) then lst acc r else lst (acc ++ [c]) r
theorem lst_inv:∀ (t acc:List Nat),(∀a∈acc,a < 32)→(∀a∈t,a < 32)→t.Pairwise (fun a b=>rk a≤rk b)→acc.Pairwise (fun a b=>rk a < rk b)→(∀a∈acc,∀b∈t,rk a≤rk b) →
    (∀a∈acc,∀b∈acc,sub a b=true→a=b) →
    (lst acc t).Pairwise (fun a b=>rk a < rk b)∧(∀a∈lst acc t,a∈acc∨a∈t)∧(∀a,a∈acc∨a∈t→∃b∈lst acc t,sub b a=true)∧(∀a∈lst acc t,∀b∈lst acc t,sub a b=true→a=b)
  | [],acc,_,_,_,hs,_,hm=>⟨hs,fun a h=>.inl h,fun a h=>⟨a,h.resolve_right (by simp),sub_refl a⟩,hm⟩
  | c::t,acc,ha,ht,hp,hs,hat,hm=>by
    have hp':=List.pairwise_cons.mp hp
    have hc:c < 32:=ht c List.mem_cons_self
    unfold lst
    split <;> rename_i h
    · obtain ⟨h1,h2,h3,h4⟩:=lst_inv t acc ha (fun a m=>ht a (List.mem_cons_of_mem _ m)) hp'.2 hs (fun a m b m'=>hat a m b (List.mem_cons_of_mem _ m')) hm
      refine ⟨h1,fun a m=>(h2 a m).imp id (List.mem_cons_of_mem _),fun a m=>?_,h4⟩
      rcases m with m | m
      · exact h3 a (.inl m)
      · rcases List.mem_cons.mp m with rfl | m
        · obtain ⟨b,mb,hb⟩:=List.any_eq_true.mp h
          obtain ⟨b',mb',hb'⟩:=h3 b (.inl mb)
          exact ⟨b',mb',sub_trans hb' hb⟩
        · exact h3 a (.inr m)
    · have hno:∀a∈acc,sub a c=false:=fun a m=>by
        cases e:sub a c with
        | false=>rfl
        | true=>exact absurd (show (acc.any fun a=>sub a c)=true from List.any_eq_true.mpr ⟨a,m,e⟩) h
      have ne:∀a∈acc,rk a < rk c:=fun a m=>by
        rcases Nat.lt_or_eq_of_le (hat a m c List.mem_cons_self) with q | q
        · exact q
        · have:=rk_inj (ha a m) hc q
          subst this
          have:=hno a m
          rw [sub_refl] at this; cases this
      obtain ⟨h1,h2,h3,h4⟩:=lst_inv t (acc ++ [c]) (fun a m=>(List.mem_append.mp m).elim (ha a) fun m=>by rw [List.mem_singleton.mp m]; exact hc) (fun a m=>ht a (List.mem_cons_of_mem _ m)) hp'.2
        (List.pairwise_append.mpr ⟨hs,List.pairwise_singleton _ _,fun a m b m'=>by rw [List.mem_singleton.mp m']; exact ne a m⟩)
        (fun a m b m'=>(List.mem_append.mp m).elim (fun m=>hat a m b (List.mem_cons_of_mem _ m')) fun m=>by rw [List.mem_singleton.mp m]; exact hp'.1 b m')
        (fun a m b m' hab=>by
          rcases List.mem_append.mp m with m | m <;> rcases List.mem_append.mp m' with m' | m'
          · exact hm a m b m' hab
          · rw [List.mem_singleton.mp m',hno a m] at hab; cases hab
          · rw [List.mem_singleton.mp m] at hab ⊢
            have q1:=rk_sub hc (ha b m') hab
            have q2:=ne b m'
            omega
          · rw [List.mem_singleton.mp m,List.mem_singleton.mp m'])
      refine ⟨h1,fun a m=>?_,fun a m=>?_,h4⟩
      · rcases h2 a m with m | m
        · rcases List.mem_append.mp m with m | m
          · exact .inl m
          · rw [List.mem_singleton.mp m]; exact .inr List.mem_cons_self
        · exact .inr (List.mem_cons_of_mem _ m)
      · rcases m with m | m
        · exact h3 a (.inl (List.mem_append_left _ m))
        · rcases List.mem_cons.mp m with rfl | m
          · exact h3 a (.inl (List.mem_append_right _ (List.mem_singleton.mpr rfl)))
          · exact h3 a (.inr m)
theorem sorted_ext:∀ {l l':List Nat},l.Pairwise (fun a b=>rk a < rk b)→l'.Pairwise (fun a b=>rk a < rk b)→(∀a,a∈l↔a∈l')→l=l'
  | [],[],_,_,_=>rfl
  | [],b::_,_,_,h=>absurd ((h b).mpr List.mem_cons_self) (by simp)
  | a::_,[],_,_,h=>absurd ((h a).mp List.mem_cons_self) (by simp)
  | a::l,b::l',h1,h2,h=>by
    have p1:=List.pairwise_cons.mp h1
    have p2:=List.pairwise_cons.mp h2
    have e:a=b:=by
      rcases List.mem_cons.mp ((h a).mp List.mem_cons_self) with e | m
      · exact e
      · rcases List.mem_cons.mp ((h b).mpr List.mem_cons_self) with e | m'
        · exact e.symm
        · have:=p2.1 a m
          have:=p1.1 b m'
          omega
    subst e
    congr 1
    refine sorted_ext p1.2 p2.2 fun x=>⟨fun m=>?_,fun m=>?_⟩
    · rcases List.mem_cons.mp ((h x).mp (List.mem_cons_of_mem _ m)) with e | m'
      · subst e; have:=p1.1 x m; omega
      · exact m'
    · rcases List.mem_cons.mp ((h x).mpr (List.mem_cons_of_mem _ m)) with e | m'
      · subst e; have:=p2.1 x m; omega
      · exact m'
def due (t:List Nat)(m:Nat):List Nat:=(cs m).filter fun c=>car t c && ((cs m).filter fun o=>car t o).all fun o=>o == c || !sub o c
structure Srtd (t s:List Nat):Prop where
  perm:s.Perm t
  up:s.Pairwise fun a b=>rk a≤rk b
section
variable {t s:List Nat}{m:Nat}
theorem lst_car (S:Srtd t s)(ht:∀a∈t,a < 32)(c:Nat):car (lst [] s) c=car t c:=by
  obtain ⟨_,h2,h3,_⟩:=lst_inv s [] (by simp) (fun a m=>ht a (S.perm.mem_iff.mp m)) S.up .nil (by simp) (by simp)
  rw [Bool.eq_iff_iff]
  unfold car
  rw [List.any_eq_true,List.any_eq_true]
  constructor
  · rintro ⟨a,ma,ha⟩
    exact ⟨a,S.perm.mem_iff.mp ((h2 a ma).resolve_left (by simp)),ha⟩
  · rintro ⟨a,ma,ha⟩
    obtain ⟨b,mb,hb⟩:=h3 a (.inr (S.perm.mem_iff.mpr ma))
    exact ⟨b,mb,sub_trans hb ha⟩
theorem lst_due (S:Srtd t s)(hm:m≤5)(ht:∀a∈t,a < 2 ^ m):lst [] s=due t m:=by
  have h32:2 ^ m≤2 ^ 5:=Nat.pow_le_pow_right (by decide) hm
  have ht':∀a∈t,a < 32:=fun a ma=>by have:=ht a ma; omega
  obtain ⟨h1,h2,h3,h4⟩:=lst_inv s [] (by simp) (fun a ma=>ht' a (S.perm.mem_iff.mp ma)) S.up .nil (by simp) (by simp)
  refine sorted_ext h1 (List.Pairwise.filter _ (cs_sorted m)) fun c=>?_
  have hin:∀a,a∈lst [] s→a∈t:=fun a ma=>S.perm.mem_iff.mp ((h2 a ma).resolve_left (by simp))
  have car_iff:∀c,car t c=true ↔ ∃b∈lst [] s,sub b c=true:=fun c=>by
    rw [← lst_car S ht' c]; unfold car; rw [List.any_eq_true]
  unfold due
  rw [List.mem_filter,cs_mem hm,Bool.and_eq_true,List.all_eq_true]
  constructor
  · intro mc
    refine ⟨ht c (hin c mc),(car_iff c).mpr ⟨c,mc,sub_refl c⟩,fun o mo=>?_⟩
    obtain ⟨mo1,mo2⟩:=List.mem_filter.mp mo
    rw [Bool.or_eq_true]
    cases e:sub o c with
    | false=>exact .inr rfl
    | true =>
      left
      obtain ⟨b,mb,hb⟩:=(car_iff o).mp mo2
      have e1:=h4 b mb c mc (sub_trans hb e)
      subst e1
      simpa using sub_antisymm e hb
  · rintro ⟨hc,hcar,hall⟩
    obtain ⟨b,mb,hb⟩:=(car_iff c).mp hcar
    have hbt:=ht b (hin b mb)
    have:=hall b (List.mem_filter.mpr ⟨(cs_mem hm).mpr hbt,(car_iff b).mpr ⟨b,mb,sub_refl b⟩⟩)
    rw [hb] at this
    have e:b=c:=by simpa using this
    exact e ▸ mb
end
end Mth
namespace V
open PySem PySem.Spec L2 DL Mth
def cell (ns:List Int)(k:Nat):Int:=ns.getD k 0
def bits (n:Int)(m:Nat):List Int:=((List.range m).filter fun i=>n / 2 ^ i % 2 == 1).map fun (i:Nat)=>(i:Int)
theorem bits_succ (n:Int)(m:Nat):bits n (m+1)=bits n m++(if n / 2 ^ m % 2=1 then [(m:Int)] else []):=by
  unfold bits
  rw [List.range_succ,List.filter_append,List.map_append]
  congr 1
  by_cases h:n / 2 ^ m % 2=1
  · rw [if_pos h]; simp [h]
  · rw [if_neg h]; simp [h]
theorem div_succ (n:Int)(m:Nat):n / 2 ^ (m+1)=n / 2 ^ m / 2:=by
  rw [Int.pow_succ,Int.ediv_ediv_of_nonneg (by exact two_pow_nn m)]
theorem bits_len (n:Int)(m:Nat):(bits n m).length≤m:=by
  unfold bits
  rw [List.length_map]
  exact Nat.le_trans (List.length_filter_le _ _) (by simp)
def mi (a:Nat):List Int:=(mb a).map fun (i:Nat)=>(i:Int)
def cr (a:Nat):D:=.tup ((mi a).map D.int)
def key (a:Nat):Ky:=(((mi a).length:Int),mi a)
def crs (t:List Nat):D:=.lst (t.map cr)
theorem bits_mi {m k:Nat}(hm:m≤5)(hk:k < 32):bits (k:Int) m=mi (k % 2 ^ m):=by
  have:∀m:Nat,m < 6→∀k:Nat,k < 32→bits (k:Int) m=mi (k % 2 ^ m):=by decide +kernel
  exact this m (by omega) k hk
theorem bits_mi' {m:Nat}{x:Int}(hm:m≤5)(h0:0≤x)(h1:x < 32):bits x m=mi (x.toNat % 2 ^ m):=by
  have e:x=((x.toNat:Nat):Int):=by omega
  rw [e]
  exact bits_mi hm (by omega)
theorem key_lt' {a b:Nat}(ha:a < 32)(hb:b < 32):ltK (key a) (key b)=decide (rk a < rk b):=by
  have:∀a,a < 32→∀b,b < 32→ltK (key a) (key b)=decide (rk a < rk b):=by decide +kernel
  exact this a ha b hb
theorem in_sub {a b:Nat}(ha:a < 32)(hb:b < 32):decide ((((mi a).filter fun i=>(mi b).contains i).length:Int)=((mi a).length:Int))=sub a b:=by
  have:∀a,a < 32→∀b,b < 32→decide ((((mi a).filter fun i=>(mi b).contains i).length:Int)=((mi a).length:Int))=sub a b:=by decide +kernel
  exact this a ha b hb
theorem all_sub {a b:Nat}(ha:a < 32)(hb:b < 32):((mi a).map fun i=>(mi b).contains i).all id=sub a b:=by
  have:∀a,a < 32→∀b,b < 32→((mi a).map fun i=>(mi b).contains i).all id=sub a b:=by decide +kernel
  exact this a ha b hb
theorem mi_lt {m a:Nat}(hm:m≤5)(ha:a < 2 ^ m):∀i∈mi a,0≤i∧i < m:=by
  have:∀m:Nat,m < 6→∀a:Nat,a < 2 ^ m→∀i∈mi a,0≤i∧i < (m:Int):=by decide +kernel
  exact this m (by omega) a ha
theorem mi_up {a:Nat}(ha:a < 32):(mi a).Pairwise (· < ·):=by
  have:∀a,a < 32→(mi a).Pairwise (· < ·):=by decide +kernel
  exact this a ha
theorem mi_inj {a b:Nat}(ha:a < 32)(hb:b < 32)(h:mi a=mi b):a=b:=by
  have:∀a,a < 32→∀b,b < 32→mi a=mi b→a=b:=by decide +kernel
  exact this a ha b hb h
theorem mi_len {a:Nat}:(mi a).length≤5:=by
  unfold mi mb
  rw [List.length_map]
  exact Nat.le_trans (List.length_filter_le _ _) (by simp)
theorem pow5 {m:Nat}(hm:m≤5):2 ^ m≤32:=Nat.pow_le_pow_right (by decide) hm
theorem lt32 {m a:Nat}(hm:m≤5)(ha:a < 2 ^ m):a < 32:=Nat.lt_of_lt_of_le ha (pow5 hm)
theorem cs_len (m:Nat):(cs m).length≤32:=by
  unfold cs
  exact Nat.le_trans (List.length_filter_le _ _) (by decide)
theorem cs_of {m:Nat}(hm:m≤5){qs:List Nat}(hp:qs.Perm (List.range (2 ^ m)))(hs:(qs.map rk).Pairwise (· ≤ ·)):qs=cs m:=by
  have hin:∀a,a∈qs↔a < 2 ^ m:=fun a=>by rw [hp.mem_iff,List.mem_range]
  have nd:qs.Nodup:=hp.nodup_iff.mpr List.nodup_range
  refine sorted_ext ?_ (cs_sorted m) fun a=>by rw [hin,cs_mem hm]
  rw [List.pairwise_map] at hs
  refine (hs.and nd).imp_of_mem fun {a b} ha hb ⟨h1,h2⟩=>?_
  rcases Nat.lt_or_eq_of_le h1 with z | z
  · exact z
  · exact absurd (rk_inj (lt32 hm ((hin a).mp ha)) (lt32 hm ((hin b).mp hb)) z) h2
theorem srtd_of {t qs:List Nat}(hp:qs.Perm t)(hs:(qs.map rk).Pairwise (· ≤ ·)):Srtd t qs:=⟨hp,by rwa [List.pairwise_map] at hs⟩
def manyOf (c:Int):Nat:=[5,1,2,3,4,5,4,5].getD (c % 8).toNat 5
theorem many_ok (c:Int):1≤manyOf c∧manyOf c≤5:=by
  have h0:0≤c % 8:=Int.emod_nonneg _ (by decide)
  have h1:c % 8 < 8:=Int.emod_lt_of_pos _ (by decide)
  unfold manyOf
  generalize c % 8=r at h0 h1
  have:r=0∨r=1∨r=2∨r=3∨r=4∨r=5∨r=6∨r=7:=by omega
  rcases this with rfl | rfl | rfl | rfl | rfl | rfl | rfl | rfl <;> decide
theorem car_any (t:List Nat)(c:Nat):decide ((0:Int) < ((t.filter fun a=>sub a c).length:Int))=car t c:=by
  unfold car
  rw [Bool.eq_iff_iff,decide_eq_true_eq,List.any_eq_true]
  constructor
  · intro h
    have:0 < (t.filter fun a=>sub a c).length:=by omega
    obtain ⟨a,ha⟩:=List.exists_mem_of_length_pos this
    exact ⟨a,(List.mem_filter.mp ha).1,(List.mem_filter.mp ha).2⟩
  · rintro ⟨a,h1,h2⟩
    have:0 < (t.filter fun a=>sub a c).length:=List.length_pos_of_mem (List.mem_filter.mpr ⟨h1,h2⟩)
    omega
theorem toPys_map:∀ns:List Int,toPys (ns.map D.int)=ns.map PyData.int
  | []=>by rfl
  | n::ns=>by
    rw [List.map_cons,List.map_cons,← toPys_map ns]
    rfl
theorem toPy_cr (a:Nat):toPy (cr a) = .tuple ((mi a).map PyData.int):=by
  unfold cr
  rw [← toPys_map]
  rfl
theorem noIns_ints:∀ns:List Int,noInss (ns.map D.int)=true
  | []=>rfl
  | n::ns=>by
    rw [List.map_cons]
    unfold noInss
    rw [noIns_ints ns]
    rfl
theorem noL_ints:∀ns:List Int,noLs (ns.map D.int)=true
  | []=>rfl
  | n::ns=>by
    rw [List.map_cons]
    unfold noLs
    rw [noL_ints ns]
    rfl
theorem noIns_cr (a:Nat):noIns (cr a)=true:=by unfold cr noIns; exact noIns_ints _
theorem noL_cr (a:Nat):noL (cr a)=true:=by unfold cr noL; exact noL_ints _
theorem noL_crs:∀t:List Nat,noLs (t.map cr)=true
  | []=>rfl
  | a::t=>by
    rw [List.map_cons]
    unfold noLs
    rw [noL_cr,noL_crs t]
    rfl
theorem noInss_crs:∀t:List Nat,noInss (t.map cr)=true
  | []=>rfl
  | a::t=>by
    rw [List.map_cons]
    unfold noInss
    rw [noIns_cr,noInss_crs t]
    rfl
theorem shaped_ints (ns:List Int):SeqAt.shaped (.tuple (ns.map PyData.int))=true:=by
  unfold SeqAt.shaped
  have h1:(PyData.tuple (ns.map PyData.int)).canLay0=true:=by
    show PyData.canLayAll0 (ns.map PyData.int)=true
    exact PySem.W.canLayAll0_ints ns
  have h2:(PyData.tuple (ns.map PyData.int)).depth≤64:=by
    have:=PyProof.Rows.depthAll_ints ns
    unfold PyData.depth
    omega
  rw [h1,decide_eq_true h2]; rfl
theorem shaped_cr (a:Nat):SeqAt.shaped (toPy (cr a))=true:=by rw [toPy_cr]; exact shaped_ints _
theorem toPys_crs:∀t:List Nat,toPys (t.map cr)=t.map fun a=>toPy (cr a)
  | []=>rfl
  | a::t=>by rw [List.map_cons,List.map_cons,← toPys_crs t]; rfl
theorem lay_crs:∀t:List Nat,PyData.canLayAll0 (t.map fun a=>toPy (cr a))=true∧PyData.depthAll (t.map fun a=>toPy (cr a))≤60
  | []=>⟨by rfl,by decide⟩
  | a::t=>by
    obtain ⟨h1,h2⟩:=lay_crs t
    rw [List.map_cons]
    have hs:=shaped_cr a
    have c1:=SeqAt.canLay_of_shaped hs
    have d1:(toPy (cr a)).depth≤60:=by
      rw [toPy_cr]
      have:=PyProof.Rows.depthAll_ints (mi a)
      unfold PyData.depth
      omega
    constructor
    · unfold PyData.canLayAll0
      rw [c1,h1]; rfl
    · unfold PyData.depthAll
      omega
theorem shaped_crs (t:List Nat):SeqAt.shaped (toPy (crs t))=true:=by
  unfold crs toPy SeqAt.shaped
  rw [toPys_crs]
  obtain ⟨h1,h2⟩:=lay_crs t
  have c:(PyData.list (t.map fun a=>toPy (cr a))).canLay0=true:=h1
  have d:(PyData.list (t.map fun a=>toPy (cr a))).depth≤64:=by
    unfold PyData.depth
    omega
  rw [c,decide_eq_true d]; rfl
theorem eqv_cr {a b:Nat}(ha:a < 32)(hb:b < 32):PyData.eqv (toPy (cr a)) (toPy (cr b))=decide (a=b):=by
  rw [toPy_cr,toPy_cr]
  show PyData.eqvAll _ _=_
  rw [PySem.W.ked_eqvAll]
  by_cases h:a=b
  · subst h; simp
  · rw [decide_eq_false h,decide_eq_false fun z=>h (mi_inj ha hb z)]
theorem eqv_crs:∀ (t:List Nat),(∀a∈t,a < 32)→PyData.eqvAll (t.map fun a=>toPy (cr a)) (t.map fun a=>toPy (cr a))=true
  | [],_=>by rfl
  | a::t,h=>by
    rw [List.map_cons]
    unfold PyData.eqvAll
    rw [eqv_cr (h a List.mem_cons_self) (h a List.mem_cons_self),eqv_crs t fun b hb=>h b (List.mem_cons_of_mem _ hb)]
    simp
end V
namespace V
open PySem PySem.Spec L2 DL Mth
def top (i:Nat):Stmt:=PySem.Challenge.pw_votesway_k10_texts_read.main.body.getD i (.Pass ⟨0,0,0,0⟩)
abbrev sChkSize:Stmt:=top 11
abbrev sChkCrowd:Stmt:=top 12
abbrev sPlace:Stmt:=top 13
abbrev sInOrder:Stmt:=top 14
abbrev sLiesIn:Stmt:=top 15
abbrev sOneIn:Stmt:=top 16
abbrev sLeastOf:Stmt:=top 17
abbrev sInit:Stmt:=inClass (top 19) 0
abbrev sCMany:Stmt:=inClass (top 19) 1
abbrev sCLeast:Stmt:=inClass (top 19) 3
abbrev sCrowdShown:Stmt:=top 23
abbrev sShown:Stmt:=top 24
abbrev sNumberRead:Stmt:=top 25
abbrev sCrowdRead:Stmt:=top 26
abbrev sCrowdsRead:Stmt:=top 27
abbrev sCouncilRead:Stmt:=top 28
abbrev sRead:Stmt:=top 29
abbrev sCell:Stmt:=top 31
abbrev sBits:Stmt:=top 32
abbrev sCrowds:Stmt:=top 33
abbrev sMany:Stmt:=top 34
abbrev sSome:Stmt:=top 35
abbrev sWeighed:Stmt:=top 36
abbrev sTold:Stmt:=top 37
abbrev sIn:Stmt:=top 38
abbrev sCarries:Stmt:=top 39
abbrev sLeast:Stmt:=top 40
abbrev sLawShown:Stmt:=top 41
abbrev sLawSpoiled:Stmt:=top 42
abbrev sLawOdd:Stmt:=top 43
abbrev sLawCrowd:Stmt:=top 44
abbrev sLawDue:Stmt:=top 45
abbrev sLawToldBy:Stmt:=top 46
abbrev sLawRight:Stmt:=top 47
abbrev sLaw:Stmt:=top 48
end V
namespace V
open PySem PySem.Spec L2 DL Mth
abbrev aLaw:List Int→List D:=fun ns=>[.lst (ns.map D.int)]
theorem crs_map {α:Type}(l:List α)(g:α→Nat):D.lst (l.map fun k=>cr (g k))=crs (l.map g):=by
  unfold crs
  rw [List.map_map]
  rfl
theorem md_nn (x:Int){n:Int}(h:0 < n):0≤x % n:=Int.emod_nonneg _ (by omega)
theorem md_lt (x:Int){n:Int}(h:0 < n):x % n < n:=Int.emod_lt_of_pos _ h
theorem sum_nn:∀ (l:List Int),(∀x∈l,0≤x)→0≤l.sum
  | [],_=>Int.le_refl 0
  | x::l,h=>by
    rw [List.sum_cons]
    have:=h x List.mem_cons_self
    have:=sum_nn l fun y hy=>h y (List.mem_cons_of_mem _ hy)
    omega
theorem take_succ_filter {α:Type}(l:List α)(q:α→Bool)(j:Nat)(h:j < l.length):(l.take (j+1)).filter q=(l.take j).filter q++(if q l[j]=true then [l[j]] else []):=by
  rw [List.take_succ_eq_append_getElem h,List.filter_append]
  congr 1
  by_cases e:q l[j]=true
  · rw [if_pos e]; simp [e]
  · rw [if_neg e]; simp [e]
theorem due_eq (t:List Nat)(m:Nat):due t m=((cs m).filter fun c=>car t c).filter fun c=>decide ((((cs m).filter fun c=>car t c).filter fun o=>!decide (o=c) && sub o c).length=0):=by
  unfold due
  rw [List.filter_filter]
  refine List.filter_congr fun c _=>?_
  rw [Bool.and_comm]
  congr 1
  rw [Bool.eq_iff_iff,decide_eq_true_eq,List.length_eq_zero_iff,List.filter_eq_nil_iff,List.all_eq_true]
  refine forall_congr' fun o=>forall_congr' fun _=>?_
  by_cases e:o=c
  · simp [e]
  · cases sub o c <;> simp [e]
def ins1 (a:Nat):List Nat→List Nat
  | []=>[a]
  | b::l=>if rk a≤rk b then a::b::l else b::ins1 a l
def srt:List Nat→List Nat
  | []=>[]
  | a::t=>ins1 a (srt t)
theorem ins1_perm (a:Nat):∀l:List Nat,(ins1 a l).Perm (a::l)
  | []=>.refl _
  | b::l=>by
    unfold ins1
    split
    · exact .refl _
    · exact ((ins1_perm a l).cons b).trans (.swap a b l)
theorem ins1_up (a:Nat):∀l:List Nat,l.Pairwise (fun x y=>rk x≤rk y)→(ins1 a l).Pairwise fun x y=>rk x≤rk y
  | [],_=>List.pairwise_singleton _ _
  | b::l,h=>by
    have h':=List.pairwise_cons.mp h
    unfold ins1
    split
    · refine List.pairwise_cons.mpr ⟨fun c hc=>?_,h⟩
      rcases List.mem_cons.mp hc with rfl | hc
      · assumption
      · exact Nat.le_trans (by assumption) (h'.1 c hc)
    · refine List.pairwise_cons.mpr ⟨fun c hc=>?_,ins1_up a l h'.2⟩
      rcases List.mem_cons.mp ((ins1_perm a l).mem_iff.mp hc) with rfl | hc
      · omega
      · exact h'.1 c hc
theorem srt_ok:∀t:List Nat,Srtd t (srt t)
  | []=>⟨.refl _,.nil⟩
  | a::t=>⟨(ins1_perm a _).trans ((srt_ok t).perm.cons a),ins1_up a _ (srt_ok t).up⟩
theorem up_uniq:∀ {l l':List Nat},l.Perm l'→(∀a∈l,a < 32)→l.Pairwise (fun x y=>rk x≤rk y)→l'.Pairwise (fun x y=>rk x≤rk y)→l=l'
  | [],l',hp,_,_,_=>hp.nil_eq
  | a::l,[],hp,_,_,_=>by have:=hp.length_eq; simp at this
  | a::l,b::l',hp,ha,h1,h2=>by
    have e:a=b:=by
      have m1:a∈b::l':=hp.mem_iff.mp List.mem_cons_self
      have m2:b∈a::l:=hp.mem_iff.mpr List.mem_cons_self
      have q1:rk b≤rk a:=by
        rcases List.mem_cons.mp m1 with z | z
        · rw [z]; exact Nat.le_refl _
        · exact (List.pairwise_cons.mp h2).1 a z
      have q2:rk a≤rk b:=by
        rcases List.mem_cons.mp m2 with z | z
        · rw [z]; exact Nat.le_refl _
        · exact (List.pairwise_cons.mp h1).1 b z
      exact rk_inj (ha a List.mem_cons_self) (ha b m2) (Nat.le_antisymm q2 q1)
    subst e
    rw [up_uniq (List.Perm.cons_inv hp) (fun c hc=>ha c (List.mem_cons_of_mem _ hc)) (List.pairwise_cons.mp h1).2 (List.pairwise_cons.mp h2).2]
theorem srt_eq {t qs:List Nat}(ht:∀a∈t,a < 32)(S:Srtd t qs):qs=srt t:=
  up_uniq (S.perm.trans (srt_ok t).perm.symm) (fun a ha=>ht a (S.perm.mem_iff.mp ha)) S.up (srt_ok t).up
theorem lst_app (c:Nat):∀ (s acc:List Nat),lst acc (s ++ [c])=if (lst acc s).any (fun a=>sub a c) then lst acc s else lst acc s ++ [c]
  | [],acc=>by
    show lst acc [c]=_
    unfold lst
    split <;> rename_i h <;> simp [h,lst]
  | d::s,acc=>by
    rw [List.cons_append]
    unfold lst
    split
    · exact lst_app c s acc
    · exact lst_app c s _
theorem lst_len:∀ (s acc:List Nat),(lst acc s).length≤acc.length+s.length
  | [],acc=>by unfold lst; simp
  | d::s,acc=>by
    unfold lst
    split
    · have:=lst_len s acc; simp only [List.length_cons]; omega
    · have:=lst_len s (acc ++ [d]); simp only [List.length_append,List.length_cons,List.length_nil] at this ⊢; omega
theorem lst_mem:∀ (s acc:List Nat) (a:Nat),a∈lst acc s→a∈acc∨a∈s
  | [],acc,a,h=>.inl (by unfold lst at h; exact h)
  | d::s,acc,a,h=>by
    unfold lst at h
    split at h
    · exact (lst_mem s acc a h).imp id (List.mem_cons_of_mem _)
    · rcases lst_mem s _ a h with z | z
      · rcases List.mem_append.mp z with y | y
        · exact .inl y
        · rw [List.mem_singleton] at y; subst y; exact .inr List.mem_cons_self
      · exact .inr (List.mem_cons_of_mem _ z)
theorem mi_step {a m j:Nat}(hm:m≤5)(ha:a < 2 ^ m)(hj:j < (mi a).length):(if j=0 then -1 else (mi a).getD (j - 1) 0) < (mi a)[j]∧(mi a)[j] < m:=by
  have h1:=mi_lt hm ha _ (List.getElem_mem hj)
  refine ⟨?_,h1.2⟩
  split
  · omega
  · have hj1:j - 1 < (mi a).length:=by omega
    rw [List.getD_eq_getElem?_getD,List.getElem?_eq_getElem hj1]
    exact List.pairwise_iff_getElem.mp (mi_up (lt32 hm ha)) (j - 1) j hj1 hj (by omega)
theorem car_due {t:List Nat}{m:Nat}(hm:m≤5)(ht:∀a∈t,a < 2 ^ m)(c:Nat):car (due t m) c=car t c:=by
  rw [← lst_due (srt_ok t) hm ht]
  exact lst_car (srt_ok t) (fun a ha=>lt32 hm (ht a ha)) c
theorem due_len (t:List Nat)(m:Nat):(due t m).length≤32:=by
  unfold due
  exact Nat.le_trans (List.length_filter_le _ _) (cs_len m)
theorem due_lt {t:List Nat}{m:Nat}(hm:m≤5):∀a∈due t m,a < 2 ^ m:=fun a ha=>by
  unfold due at ha
  exact (cs_mem hm).mp (List.mem_filter.mp ha).1
theorem due_lt32 {t:List Nat}{m:Nat}(hm:m≤5):∀a∈due t m,a < 32:=fun a ha=>lt32 hm (due_lt hm a ha)
theorem eqv_crsT {t:List Nat}(ht:∀a∈t,a < 32):PyData.eqv (toPy (crs t)) (toPy (crs t))=true:=by
  unfold crs toPy
  rw [toPys_crs]
  show PyData.eqvAll _ _=true
  exact eqv_crs t ht
theorem noIns_crs (t:List Nat):noIns (crs t)=true:=by
  unfold crs noIns
  exact noInss_crs t
end V
namespace V
open PySem PySem.Spec L2 DL Mth
structure Blt (mg:Str→Option Value):Prop where
  len:mg "len" = none
  range:mg "range" = none
  srt:mg "sorted" = none
  sum:mg "sum" = none
  max:mg "max" = none
  int:mg "int" = none
  bool:mg "bool" = none
  list:mg "list" = none
  tuple:mg "tuple" = none
  all:mg "all" = none
  any:mg "any" = none
  isi:mg "isinstance" = none
  str:mg "str" = none
  enum:mg "enumerate" = none
  set:mg "set" = none
  rev:mg "reversed" = none
abbrev aCell:List Int×Nat→List D:=fun i=>[.lst (i.1.map D.int),.int i.2]
abbrev aBits:Int×Nat→List D:=fun i=>[.int i.1,.int i.2]
abbrev aNat:Nat→List D:=fun m=>[.int m]
abbrev aInt:Int→List D:=fun m=>[.int m]
abbrev aSome:List Int×Nat×Nat×Nat→List D:=fun i=>[.lst (i.1.map D.int),.int i.2.1,.int i.2.2.1,.int i.2.2.2]
abbrev aTold:List Int×Nat×Nat→List D:=fun i=>[.lst (i.1.map D.int),.int i.2.1,.int i.2.2]
abbrev aTwo:Nat×Nat→List D:=fun i=>[cr i.1,cr i.2]
abbrev aCar:List Nat×Nat→List D:=fun i=>[crs i.1,cr i.2]
abbrev aLeast:List Nat×Nat→List D:=fun i=>[crs i.1,.int i.2]
def Crds (m:Nat)(t:List Nat):Prop:=t.length≤32 ∧ ∀a∈t,a < 2 ^ m
def wsum (w:List Int)(a:Nat):Int:=((mi a).map fun i=>w.getD i.toNat 0).sum
def Wtd (m:Nat)(t:List Nat):Prop:=∃ (w:List Int) (b:Int),w.length=m∧(∀x∈w,0≤x)∧0≤b∧t=(cs m).filter fun c=>decide (b≤wsum w c)
abbrev C5 (m:Nat):Prop:=1≤m∧m≤5
section
variable {P:Program}{w:World}{K:PySem.W.Frag}{mg:Str→Option Value}{base:Heap}{f:Addr}{fd:FuncData}
abbrev pCell (P:Program)(w:World)(K:PySem.W.Frag)(mg:Str→Option Value)(base:Heap):Prop:=PFn P w K mg base "_law_cell_at" 1 aCell (fun _=>True) fun i d=>d = .int (cell i.1 i.2)
abbrev pBits (P:Program)(w:World)(K:PySem.W.Frag)(mg:Str→Option Value)(base:Heap):Prop:=PFn P w K mg base "_law_bits" 1 aBits (fun i=>i.2≤10) fun i d=>d = .tup ((bits i.1 i.2).map D.int)
abbrev pCrowds (P:Program)(w:World)(K:PySem.W.Frag)(mg:Str→Option Value)(base:Heap):Prop:=PFn P w K mg base "_law_crowds" 4 aNat C5 fun m d=>d=crs (cs m)
abbrev pMany (P:Program)(w:World)(K:PySem.W.Frag)(mg:Str→Option Value)(base:Heap):Prop:=PFn P w K mg base "_law_many" 1 aInt (fun _=>True) fun c d=>d = .int (manyOf c)
abbrev pSome (P:Program)(w:World)(K:PySem.W.Frag)(mg:Str→Option Value)(base:Heap):Prop:=PFn P w K mg base "_law_some" 2 aSome (fun i=>C5 i.2.2.1∧i.2.2.2≤7) fun i d=>∃t,Crds i.2.2.1 t∧d=crs t
abbrev pWeighed (P:Program)(w:World)(K:PySem.W.Frag)(mg:Str→Option Value)(base:Heap):Prop:=PFn P w K mg base "_law_weighed_crowds" 5 aTold (fun i=>C5 i.2.2) fun i d=>∃t,Crds i.2.2 t∧Wtd i.2.2 t∧d=crs t
abbrev pTold (P:Program)(w:World)(K:PySem.W.Frag)(mg:Str→Option Value)(base:Heap):Prop:=PFn P w K mg base "_law_told" 6 aTold (fun i=>C5 i.2.2) fun i d=>∃t,Crds i.2.2 t∧(cell i.1 i.2.1 % 5=1→Wtd i.2.2 t)∧d=crs t
abbrev pIn (P:Program)(w:World)(K:PySem.W.Frag)(mg:Str→Option Value)(base:Heap):Prop:=PFn P w K mg base "_law_in" 1 aTwo (fun i=>i.1 < 32∧i.2 < 32) fun i d=>d = .bl (sub i.1 i.2)
abbrev pCarries (P:Program)(w:World)(K:PySem.W.Frag)(mg:Str→Option Value)(base:Heap):Prop:=PFn P w K mg base "_law_carries" 2 aCar (fun i=>i.1.length≤100∧(∀a∈i.1,a < 32)∧i.2 < 32) fun i d=>d = .bl (car i.1 i.2)
abbrev pLeast (P:Program)(w:World)(K:PySem.W.Frag)(mg:Str→Option Value)(base:Heap):Prop:=PFn P w K mg base "_law_least" 5 aLeast (fun i=>i.1.length≤100∧(∀a∈i.1,a < 32)∧C5 i.2) fun i d=>d=crs (due i.1 i.2)
theorem scCell:FnScope ["script", "k"] ["script", "k"] (defScope sCell):=⟨rfl,rfl,rfl,by decide +kernel,rfl,by decide +kernel,by decide +kernel⟩
theorem d_cell (F:Fun K "_law_cell_at" "_law_cell_at" sCell f fd)(B:Blt mg):FnOk P w K mg base CX0 1 f fd ["script", "k"] (PureSp K aCell (fun _=>True) fun i d=>d = .int (cell i.1 i.2)):=by
  refine fn_pure F scCell (fun _=>rfl) fun cdv A outer s H E hr ⟨ns,k⟩ _=>?_
  by_cases h:k < ns.length
  · refine blk_rt (st_ifT ((et_lt (ev_var 1) (ev_lenL (ev_var 0) B.len)).cast ?_) (blk_rt (st_retE (ev_ixL (ev_var 0) (ev_var 1) ?_))))
    · dsimp only; rw [List.length_map]; exact decide_eq_true (by omega)
    · refine atI_nat ?_
      dsimp only
      rw [List.getElem?_map,List.getElem?_eq_getElem h]
      unfold cell
      rw [List.getD_eq_getElem?_getD,List.getElem?_eq_getElem h]
      rfl
  · refine blk_cons (st_skip ((et_lt (ev_var 1) (ev_lenL (ev_var 0) B.len)).cast ?_)) (blk_rt (st_retE (Ev.cast ev_int ?_)))
    · dsimp only; rw [List.length_map]; exact decide_eq_false (by omega)
    · unfold cell
      dsimp only
      rw [List.getD_eq_getElem?_getD,List.getElem?_eq_none (by omega)]
      rfl
theorem scBits:FnScope ["number", "many", "crowd", "member"] ["number", "many"] (defScope sBits):=⟨rfl,rfl,rfl,by decide +kernel,rfl,by decide +kernel,by decide +kernel⟩
theorem d_bits (F:Fun K "_law_bits" "_law_bits" sBits f fd)(B:Blt mg):FnOk P w K mg base CX0 1 f fd ["number", "many"] (PureSp K aBits (fun i=>i.2≤10) fun i d=>d = .tup ((bits i.1 i.2).map D.int)):=by
  refine fn_pure F scBits (fun _=>rfl) fun cdv A outer s H E hr ⟨n,m⟩ hm=>?_
  refine blk_own 2 (blk_cons (st_for 3 (fun j=>[.da (.int (n / 2 ^ j)),.da (.int m),.ow ((bits n j).map D.int),if j=0 then .no else .da (.int ((j - 1:Nat):Int))]) (ei_range (ev_var 1) B.range (by have:m≤10:=hm; omega)) (by simp; rfl) (fun j d hd=>?_) rfl scBits.nd) ?_) scBits.nd
  · obtain ⟨hj,rfl⟩:=ups_get hd
    have hz:((bits n j).map D.int).length≤1000:=by rw [List.length_map]; have:=bits_len n j; have:m≤10:=hm; omega
    by_cases h:n / 2 ^ j % 2=1
    · refine (blk_cons (st_ifT ((et_eq (ev_mod (ev_var 0) ev_int) ev_int).cast (decide_eq_true h)) (blk_one (st_app 2 rfl (ev_var 3) hz))) (blk_set 0 (ev_fdiv (ev_var 0) ev_int) blk_nil scBits.nd)).nxc ?_
      simp only [List.set_cons_zero,List.set_cons_succ,bits_succ,if_pos h,div_succ,List.map_append,List.map_cons,List.map_nil]
      simp
    · refine (blk_cons (st_skip ((et_eq (ev_mod (ev_var 0) ev_int) ev_int).cast (decide_eq_false h))) (blk_set 0 (ev_fdiv (ev_var 0) ev_int) blk_nil scBits.nd)).nxc ?_
      simp only [List.set_cons_zero,List.set_cons_succ,bits_succ,if_neg h,div_succ,List.append_nil]
      simp
  · rw [ups_len]
    exact blk_rt (st_retE (ev_tuple (ev_var 2) B.tuple))
theorem scMany:FnScope ["cell"] ["cell"] (defScope sMany):=⟨rfl,rfl,rfl,by decide +kernel,rfl,by decide +kernel,by decide +kernel⟩
theorem d_many (F:Fun K "_law_many" "_law_many" sMany f fd)(B:Blt mg):FnOk P w K mg base CX0 1 f fd ["cell"] (PureSp K aInt (fun _=>True) fun c d=>d = .int (manyOf c)):=by
  refine fn_pure F scMany (fun _=>rfl) fun cdv A outer s H E hr c _=>?_
  refine blk_rt (st_retE (ev_ixL (ev_ints (.cons (.cons (.cons (.cons (.cons (.cons (.cons (.cons .nil))))))))) (ev_mod (ev_var 0) ev_int) ?_))
  have h0:0≤c % 8:=Int.emod_nonneg _ (by decide)
  have h1:c % 8 < 8:=Int.emod_lt_of_pos _ (by decide)
  unfold manyOf
  generalize c % 8=r at h0 h1
  have:r=0∨r=1∨r=2∨r=3∨r=4∨r=5∨r=6∨r=7:=by omega
  rcases this with rfl | rfl | rfl | rfl | rfl | rfl | rfl | rfl <;> rfl
theorem scCrowds:FnScope ["many", "crowds"] ["many"] (defScope sCrowds):=⟨rfl,rfl,rfl,by decide +kernel,rfl,by decide +kernel,by decide +kernel⟩
theorem d_crowds (F:Fun K "_law_crowds" "_law_crowds" sCrowds f fd)(B:Blt mg)(Fb:pBits P w K mg base):FnOk P w K mg base CX0 4 f fd ["many"] (PureSp K aNat C5 fun m d=>d=crs (cs m)):=by
  refine fn_pure F scCrowds (fun _=>rfl) fun cdv A outer s H E hr m ⟨hm1,hm⟩=>?_
  have hr1:Room 1 _:=hr.mono (by decide)
  have h32:=pow5 hm
  refine blk_comp (ks:=List.range (2 ^ m)) (g:=fun (k:Nat)=>D.int (k:Int)) (f:=cr) (q:=fun _=>true) 1 cok weak_id (ei_range (n:=2 ^ m) (ev_ixL (ev_ints (.cons (.cons (.cons (.cons (.cons (.cons .nil))))))) (ev_var 0) ?_) B.range (by omega)) (by rw [List.length_range]; omega) (fun _ _ _ _ _ _ _=>ets_nil) (fun k hk _ cl C s₀ H₀ fp=>?_) ?_ scCrowds.nd
  · have:m=1∨m=2∨m=3∨m=4∨m=5:=by omega
    rcases this with rfl | rfl | rfl | rfl | rfl <;> rfl
  · have hk':=List.mem_range.mp hk
    refine (ev_call Fb ((k:Int),m) hr1 (ea2 (ev_var 0) (ev_var 1)) (by show m≤10; omega)).cast ?_
    show D.tup ((bits (k:Int) m).map D.int)=cr k
    unfold cr
    rw [bits_mi hm (by omega),Nat.mod_eq_of_lt hk']
  · rw [List.filter_eq_self.mpr fun _ _=>rfl]
    refine blk_rt (st_retE (ev_map (ks:=cs m) (g:=fun a=>kd (key a)) (f:=cr) cok weak_id (ei_lst ((ev_sorted (ks:=List.range (2 ^ m)) (g:=fun a=>kd (key a)) (key:=key) (rank:=rk) (fun _ _=>rfl) (fun a ha b hb=>key_lt' (by have:=List.mem_range.mp ha; omega) (by have:=List.mem_range.mp hb; omega)) ?_ (by rw [List.length_range]; omega) hr
      (ev_map (ks:=List.range (2 ^ m)) (g:=cr) (f:=fun a=>kd (key a)) cok weak_id (ei_lst (ev_var 1)) (by rw [List.length_range]; omega) (fun k hk cl C s₀ H₀ fp=>?_)) B.srt).ev ?_)) (by have:=cs_len m; omega) (fun k hk cl C s₀ H₀ fp=>?_)))
    · rw [List.length_range]
      have:m=1∨m=2∨m=3∨m=4∨m=5:=by omega
      rcases this with rfl | rfl | rfl | rfl | rfl <;> decide
    · refine (ev_tup (ea2 (ev_lenT (ev_var 0) B.len) (ev_var 0)) (by show 2≤1000; decide)).cast ?_
      unfold kd key
      rw [List.length_map]
      rfl
    · rintro d ⟨qs,h1,h2,rfl⟩
      rw [cs_of hm h1 h2]
    · exact ev_ixT (ev_var 0) ev_int rfl
end
end V
namespace V
open PySem PySem.Spec L2 DL Mth
section
variable {P:Program}{w:World}{K:PySem.W.Frag}{mg:Str→Option Value}{base:Heap}{f:Addr}{fd:FuncData}
theorem scSome:FnScope ["script", "start", "many", "count"] ["script", "start", "many", "count"] (defScope sSome):=⟨rfl,rfl,rfl,by decide +kernel,rfl,by decide +kernel,by decide +kernel⟩
theorem d_some (F:Fun K "_law_some" "_law_some" sSome f fd)(B:Blt mg)(Fc:pCell P w K mg base)(Fb:pBits P w K mg base):FnOk P w K mg base CX0 2 f fd ["script", "start", "many", "count"] (PureSp K aSome (fun i=>C5 i.2.2.1∧i.2.2.2≤7) fun i d=>∃t,Crds i.2.2.1 t∧d=crs t):=by
  refine fn_pure F scSome (fun _=>rfl) fun cdv A outer s H E hr ⟨ns,st,m,c⟩ ⟨⟨hm1,hm⟩,hc⟩=>?_
  dsimp only at hm1 hm hc
  refine Blk.imp (blk_rt (st_retE (ev_map (ks:=List.range c) (g:=fun (k:Nat)=>D.int (k:Int)) (f:=fun k=>cr ((cell ns (st+k) % 32).toNat % 2 ^ m)) cok weak_id (ei_range (n:=c) (ev_var 3) B.range (by omega)) (by rw [List.length_range]; omega) (fun k hk cl C s₀ H₀ fp=>?_)))) ?_
  · refine Ev.cast (ev_call Fb (cell ns (st+k) % 32,m) hr (ea2 (ev_mod (ev_call Fc (ns,st+k) hr (ea2 (ev_var 1) (ev_add (ev_var 2) (ev_var 0))) trivial) ev_int) (ev_var 3)) (by show m≤10; omega)) ?_
    have h0:=md_nn (cell ns (st+k)) (n:=32) (by decide)
    have h1:=md_lt (cell ns (st+k)) (n:=32) (by decide)
    show D.tup ((bits (cell ns (st+k) % 32) m).map D.int)=cr _
    unfold cr
    rw [bits_mi' hm h0 h1]
  · rintro d rfl
    refine ⟨(List.range c).map fun k=>(cell ns (st+k) % 32).toNat % 2 ^ m,⟨by rw [List.length_map,List.length_range]; omega,fun a ha=>?_⟩,crs_map _ _⟩
    obtain ⟨k,_,rfl⟩:=List.mem_map.mp ha
    exact Nat.mod_lt _ (Nat.two_pow_pos m)
theorem scIn:FnScope ["crowd", "other"] ["crowd", "other"] (defScope sIn):=⟨rfl,rfl,rfl,by decide +kernel,rfl,by decide +kernel,by decide +kernel⟩
theorem d_in (F:Fun K "_law_in" "_law_in" sIn f fd)(B:Blt mg):FnOk P w K mg base CX0 1 f fd ["crowd", "other"] (PureSp K aTwo (fun i=>i.1 < 32∧i.2 < 32) fun i d=>d = .bl (sub i.1 i.2)):=by
  refine fn_pure F scIn (fun _=>rfl) fun cdv A outer s H E hr ⟨a,b⟩ ⟨ha,hb⟩=>?_
  have hl:(mi a).length≤5:=mi_len
  refine blk_rt (st_retE (Ev.cast (ev_eq (ev_lenL (ev_comp (ks:=mi a) (g:=D.int) (f:=D.int) (q:=fun i=>(mi b).contains i) cok weak_id (ei_tup (ev_var 0)) (by omega) (fun i _ cl C s₀ H₀ fp=>ets_one (et_inT (ev_var 0) (ev_var 2))) (fun i _ _ cl C s₀ H₀ fp=>ev_var 0)) B.len) (ev_lenT (ev_var 0) B.len)) ?_))
  rw [List.length_map,List.length_map,in_sub ha hb]
theorem scCarries:FnScope ["told", "crowd"] ["told", "crowd"] (defScope sCarries):=⟨rfl,rfl,rfl,by decide +kernel,rfl,by decide +kernel,by decide +kernel⟩
theorem d_carries (F:Fun K "_law_carries" "_law_carries" sCarries f fd)(B:Blt mg)(Fi:pIn P w K mg base):FnOk P w K mg base CX0 2 f fd ["told", "crowd"] (PureSp K aCar (fun i=>i.1.length≤100∧(∀a∈i.1,a < 32)∧i.2 < 32) fun i d=>d = .bl (car i.1 i.2)):=by
  refine fn_pure F scCarries (fun _=>rfl) fun cdv A outer s H E hr ⟨t,c⟩ ⟨hl,ht,hc⟩=>?_
  dsimp only at hl ht hc
  refine blk_rt (st_retE (Ev.cast (ev_gt (ev_lenL (ev_comp (ks:=t) (g:=cr) (f:=cr) (q:=fun a=>sub a c) cok weak_id (ei_lst (ev_var 0)) (by omega) (fun a ha cl C s₀ H₀ fp=>ets_one (et_val (ev_call Fi (a,c) hr (ea2 (ev_var 0) (ev_var 2)) ⟨ht a ha,hc⟩))) (fun i _ _ cl C s₀ H₀ fp=>ev_var 0)) B.len) ev_int) ?_))
  rw [List.length_map,car_any]
theorem scWeighed:FnScope ["script", "start", "many", "weights", "bar"] ["script", "start", "many"] (defScope sWeighed):=⟨rfl,rfl,rfl,by decide +kernel,rfl,by decide +kernel,by decide +kernel⟩
theorem d_weighed (F:Fun K "_law_weighed_crowds" "_law_weighed_crowds" sWeighed f fd)(B:Blt mg)(Fc:pCell P w K mg base)(Fr:pCrowds P w K mg base):FnOk P w K mg base CX0 5 f fd ["script", "start", "many"] (PureSp K aTold (fun i=>C5 i.2.2) fun i d=>∃t,Crds i.2.2 t∧Wtd i.2.2 t∧d=crs t):=by
  refine fn_pure F scWeighed (fun _=>rfl) fun cdv A outer s H E hr ⟨ns,st,m⟩ hm=>?_
  have hr1:Room 1 _:=hr.mono (by decide)
  have hm1:1≤m:=hm.1
  have hm5:m≤5:=hm.2
  let W:List Int:=(List.range m).map fun k=>cell ns (st+k) % 7
  have hW:W.length=m:=by rw [List.length_map,List.length_range]
  have hW0:∀x∈W,0≤x:=fun x hx=>by
    obtain ⟨k,_,rfl⟩:=List.mem_map.mp hx
    exact md_nn _ (by decide)
  have eW:D.lst ((List.range m).map fun k=>D.int (cell ns (st+k) % 7)) = .lst (W.map D.int):=by
    rw [List.map_map]; rfl
  refine blk_set 3 (Ev.cast (ev_map (ks:=List.range m) (g:=fun (k:Nat)=>D.int (k:Int)) (f:=fun k=>D.int (cell ns (st+k) % 7)) cok weak_id (ei_range (n:=m) (ev_var 2) B.range (by omega)) (by rw [List.length_range]; omega) (fun k hk cl C s₀ H₀ fp=>ev_mod (ev_call Fc (ns,st+k) hr1 (ea2 (ev_var 1) (ev_add (ev_var 2) (ev_var 0))) trivial) ev_int)) eW) ?_ scWeighed.nd
  have hs0:=sum_nn W hW0
  have hmx:(0:Int) < (if W.sum > 1 then W.sum else 1):=by split <;> omega
  refine blk_set 4 (ev_add ev_int (ev_mod (ev_call Fc (ns,st+m) hr1 (ea2 (ev_var 0) (ev_add (ev_var 1) (ev_var 2))) trivial) (ev_max rfl ev_int (ev_sum rfl (ev_var 3) B.sum) B.max) hmx)) ?_ scWeighed.nd
  have hb:=md_nn (cell ns (st+m)) hmx
  generalize hbe:(1+cell ns (st+m) % (if W.sum > 1 then W.sum else 1):Int)=bar
  refine Blk.imp (blk_rt (st_retE (ev_comp (ks:=cs m) (g:=cr) (f:=cr) (q:=fun c=>decide (bar≤wsum W c)) cok weak_id (ei_lst (ev_call Fr m hr (ea1 (ev_var 2)) hm)) (by have:=cs_len m; omega) (fun c hc cl C s₀ H₀ fp=>ets_one (et_ge (ev_sum (ns:=(mi c).map fun i=>W.getD i.toNat 0) rfl (Ev.cast (ev_map (ks:=mi c) (g:=D.int) (f:=fun i=>D.int (W.getD i.toNat 0)) cok weak_id (ei_tup (ev_var 0)) (by have:(mi c).length≤5:=mi_len; omega) (fun i hi cl C s₀ H₀ fp=>?_)) ?_) B.sum) (ev_var 5))) (fun c _ _ cl C s₀ H₀ fp=>ev_var 0)))) ?_
  · obtain ⟨h0,h1⟩:=mi_lt hm5 ((cs_mem hm5).mp hc) i hi
    refine ev_ixL (ev_var 5) (ev_var 0) ?_
    have e:i=((i.toNat:Nat):Int):=by omega
    rw [e]
    refine atI_nat ?_
    have hlt:i.toNat < W.length:=by omega
    rw [List.getElem?_map,List.getElem?_eq_getElem hlt]
    simp only [Option.map_some,Int.toNat_natCast]
    rw [List.getD_eq_getElem?_getD,List.getElem?_eq_getElem hlt]
    rfl
  · rw [List.map_map]; rfl
  · rintro d rfl
    refine ⟨(cs m).filter fun c=>decide (bar≤wsum W c),⟨Nat.le_trans (List.length_filter_le _ _) (cs_len m),fun a ha=>(cs_mem hm5).mp (List.mem_filter.mp ha).1⟩,⟨W,bar,hW,hW0,by omega,rfl⟩,?_⟩
    unfold crs
    rfl
end
end V
namespace V
open PySem PySem.Spec L2 DL Mth
abbrev aChk:Nat×Nat→List D:=fun i=>[cr i.1,.int i.2]
abbrev aCr:Nat→List D:=fun a=>[cr a]
abbrev aCrs:List Nat→List D:=fun t=>[crs t]
abbrev aLo:List Nat×Nat→List D:=fun i=>[crs i.1]
section
variable {P:Program}{w:World}{K:PySem.W.Frag}{mg:Str→Option Value}{base:Heap}{f:Addr}{fd:FuncData}
abbrev pChkSize (P:Program)(w:World)(K:PySem.W.Frag)(mg:Str→Option Value)(base:Heap):Prop:=PFn P w K mg base "check_size" 1 aNat C5 fun _ d=>d = .non
abbrev pChkCrowd (P:Program)(w:World)(K:PySem.W.Frag)(mg:Str→Option Value)(base:Heap):Prop:=PFn P w K mg base "check_crowd" 1 aChk (fun i=>C5 i.2∧i.1 < 2 ^ i.2) fun _ d=>d = .non
abbrev pPlace (P:Program)(w:World)(K:PySem.W.Frag)(mg:Str→Option Value)(base:Heap):Prop:=PFn P w K mg base "place" 1 aCr (fun _=>True) fun a d=>d=kd (key a)
abbrev pInOrder (P:Program)(w:World)(K:PySem.W.Frag)(mg:Str→Option Value)(base:Heap):Prop:=PFn P w K mg base "in_order" 4 aCrs (fun t=>t.length < 64 ∧ ∀a∈t,a < 32) fun t d=>d=crs (srt t)
abbrev pLiesIn (P:Program)(w:World)(K:PySem.W.Frag)(mg:Str→Option Value)(base:Heap):Prop:=PFn P w K mg base "lies_in" 1 aTwo (fun i=>i.1 < 32∧i.2 < 32) fun i d=>d = .bl (sub i.1 i.2)
abbrev pOneIn (P:Program)(w:World)(K:PySem.W.Frag)(mg:Str→Option Value)(base:Heap):Prop:=PFn P w K mg base "one_lies_in" 2 aCar (fun i=>i.1.length≤100∧(∀a∈i.1,a < 32)∧i.2 < 32) fun i d=>d = .bl (car i.1 i.2)
abbrev fLeastOf (P:Program)(w:World)(K:PySem.W.Frag)(mg:Str→Option Value)(base:Heap):Prop:=FFn P w K mg base "least_of" 5 aLo (fun i=>i.1.length < 64∧i.2≤5 ∧ ∀a∈i.1,a < 2 ^ i.2) fun i ds=>ds=(due i.1 i.2).map cr
theorem scChkSize:FnScope ["many"] ["many"] (defScope sChkSize):=⟨rfl,rfl,rfl,by decide +kernel,rfl,by decide +kernel,by decide +kernel⟩
theorem d_chkSize {tk:Tok}(F:Fun K "check_size" "check_size" sChkSize f fd)(hM:mg "MOST_MEMBERS" = some (.int 5 tk)):FnOk P w K mg base CX0 1 f fd ["many"] (PureSp K aNat C5 fun _ d=>d = .non):=by
  refine fn_none F scChkSize (fun _=>rfl) fun cdv A outer s H E hr m hm=>⟨_,blk_one (st_skip (EvT.cast (et_or (et_lt (ev_var 0) ev_int) (fun _=>et_gt (ev_var 0) (ev_globI hM))) ?_))⟩
  have:=hm.1
  have:=hm.2
  rw [decide_eq_false (by omega),decide_eq_false (by omega)]
  rfl
theorem scChkCrowd:FnScope ["crowd", "many", "ahead", "member"] ["crowd", "many"] (defScope sChkCrowd):=⟨rfl,rfl,rfl,by decide +kernel,rfl,by decide +kernel,by decide +kernel⟩
def enChk (a m j:Nat):List En:=[.da (cr a),.da (.int m),.da (.int (if j=0 then -1 else (mi a).getD (j - 1) 0)),if j=0 then .no else .da (.int ((mi a).getD (j - 1) 0))]
theorem d_chkCrowd (F:Fun K "check_crowd" "check_crowd" sChkCrowd f fd):FnOk P w K mg base CX0 1 f fd ["crowd", "many"] (PureSp K aChk (fun i=>C5 i.2∧i.1 < 2 ^ i.2) fun _ d=>d = .non):=by
  refine fn_none F scChkCrowd (fun _=>rfl) fun cdv A outer s H E hr ⟨a,m⟩ ⟨hm,ha⟩=>⟨enChk a m ((mi a).map D.int).length,?_⟩
  dsimp only at hm ha
  refine blk_set 2 (d:=.int (-1)) (ev_neg ev_int) ?_ scChkCrowd.nd
  refine blk_one (st_for 3 (fun j=>enChk a m j) (ei_tup (ev_var 0)) (by simp [enChk]; rfl) (fun j d hd=>?_) rfl scChkCrowd.nd)
  obtain ⟨hj,rfl⟩:=map_get hd
  obtain ⟨q1,q2⟩:=mi_step hm.2 ha hj
  unfold enChk
  refine Blk.nxc (blk_cons (st_skip (EvT.cast (et_or (et_le (ev_var 3) (ev_var 2)) (fun _=>et_ge (ev_var 3) (ev_var 1))) ?_)) (blk_set 2 (ev_var 3) blk_nil scChkCrowd.nd)) ?_
  · rw [decide_eq_false (by omega),decide_eq_false (by omega)]
    rfl
  · simp [List.getD_eq_getElem?_getD,List.getElem?_eq_getElem hj]
theorem scPlace:FnScope ["crowd"] ["crowd"] (defScope sPlace):=⟨rfl,rfl,rfl,by decide +kernel,rfl,by decide +kernel,by decide +kernel⟩
theorem d_place (F:Fun K "place" "place" sPlace f fd)(B:Blt mg):FnOk P w K mg base CX0 1 f fd ["crowd"] (PureSp K aCr (fun _=>True) fun a d=>d=kd (key a)):=by
  refine fn_pure F scPlace (fun _=>rfl) fun cdv A outer s H E hr a _=>?_
  refine blk_rt (st_retE (Ev.cast (ev_tup (ea2 (ev_lenT (ev_var 0) B.len) (ev_var 0)) (by show 2≤1000; decide)) ?_))
  unfold kd key
  rw [List.length_map]
  rfl
theorem scInOrder:FnScope ["crowds"] ["crowds"] (defScope sInOrder):=⟨rfl,rfl,rfl,by decide +kernel,rfl,by decide +kernel,by decide +kernel⟩
theorem d_inOrder (F:Fun K "in_order" "in_order" sInOrder f fd)(B:Blt mg)(Fp:pPlace P w K mg base):FnOk P w K mg base CX0 4 f fd ["crowds"] (PureSp K aCrs (fun t=>t.length < 64 ∧ ∀a∈t,a < 32) fun t d=>d=crs (srt t)):=by
  refine fn_pure F scInOrder (fun _=>rfl) fun cdv A outer s H E hr t ⟨hl,ht⟩=>blk_rt (st_ret (EvP.imp (ev_sortedK (ks:=t) (g:=cr) (key:=key) (rank:=rk) (ia:=id) Fp hr (fun _ _=>rfl) (fun _ _=>trivial) (fun a _ d h=>h) (fun a ha b hb=>key_lt' (ht a ha) (ht b hb)) hl (ev_var 0) B.srt) ?_))
  rintro d ⟨qs,h1,h2,rfl⟩
  rw [srt_eq ht (srtd_of h1 h2)]
  rfl
theorem scLiesIn:FnScope ["crowd", "other"] ["crowd", "other"] (defScope sLiesIn):=⟨rfl,rfl,rfl,by decide +kernel,rfl,by decide +kernel,by decide +kernel⟩
theorem d_liesIn (F:Fun K "lies_in" "lies_in" sLiesIn f fd)(B:Blt mg):FnOk P w K mg base CX0 1 f fd ["crowd", "other"] (PureSp K aTwo (fun i=>i.1 < 32∧i.2 < 32) fun i d=>d = .bl (sub i.1 i.2)):=by
  refine fn_pure F scLiesIn (fun _=>rfl) fun cdv A outer s H E hr ⟨a,b⟩ ⟨ha,hb⟩=>?_
  have hl:(mi a).length≤5:=mi_len
  refine blk_rt (st_retE (Ev.cast (ev_all (bs:=(mi a).map fun i=>(mi b).contains i) rfl (Ev.cast (ev_map (ks:=mi a) (g:=D.int) (f:=fun i=>D.bl ((mi b).contains i)) cok weak_id (ei_tup (ev_var 0)) (by omega) (fun i _ cl C s₀ H₀ fp=>ev_inT (ev_var 0) (ev_var 2))) (by rw [List.map_map]; rfl)) B.all) ?_))
  rw [all_sub ha hb]
theorem scOneIn:FnScope ["crowds", "other"] ["crowds", "other"] (defScope sOneIn):=⟨rfl,rfl,rfl,by decide +kernel,rfl,by decide +kernel,by decide +kernel⟩
theorem d_oneIn (F:Fun K "one_lies_in" "one_lies_in" sOneIn f fd)(B:Blt mg)(Fi:pLiesIn P w K mg base):FnOk P w K mg base CX0 2 f fd ["crowds", "other"] (PureSp K aCar (fun i=>i.1.length≤100∧(∀a∈i.1,a < 32)∧i.2 < 32) fun i d=>d = .bl (car i.1 i.2)):=by
  refine fn_pure F scOneIn (fun _=>rfl) fun cdv A outer s H E hr ⟨t,c⟩ ⟨hl,ht,hc⟩=>?_
  dsimp only at hl ht hc
  refine blk_rt (st_retE (Ev.cast (ev_any (bs:=t.map fun a=>sub a c) rfl (Ev.cast (ev_map (ks:=t) (g:=cr) (f:=fun a=>D.bl (sub a c)) cok weak_id (ei_lst (ev_var 0)) (by omega) (fun a ha cl C s₀ H₀ fp=>ev_call Fi (a,c) hr (ea2 (ev_var 0) (ev_var 2)) ⟨ht a ha,hc⟩)) (by rw [List.map_map]; rfl)) B.any) ?_))
  unfold car
  rw [List.any_map]
  rfl
theorem scLeastOf:FnScope ["crowds", "least", "crowd"] ["crowds"] (defScope sLeastOf):=⟨rfl,rfl,rfl,by decide +kernel,rfl,by decide +kernel,by decide +kernel⟩
theorem d_leastOf (F:Fun K "least_of" "least_of" sLeastOf f fd)(B:Blt mg)(Fo:pInOrder P w K mg base)(Fi:pOneIn P w K mg base):FnOk P w K mg base CX0 5 f fd ["crowds"] (FreshSp K aLo (fun i=>i.1.length < 64∧i.2≤5 ∧ ∀a∈i.1,a < 2 ^ i.2) fun i ds=>ds=(due i.1 i.2).map cr):=by
  refine fn_fresh F scLeastOf (fun _=>rfl) fun cdv A outer s H E hr ⟨t,m⟩ ⟨hl,hm,ht⟩=>?_
  dsimp only at hl ht hm
  have hr2:Room 2 _:=hr.mono (by decide)
  have ht32:∀a∈t,a < 32:=fun a ha=>lt32 hm (ht a ha)
  have S:=srt_ok t
  have hq:∀a∈srt t,a < 32:=fun a ha=>ht32 a (S.perm.mem_iff.mp ha)
  have hql:(srt t).length < 64:=by rw [S.perm.length_eq]; exact hl
  dsimp only
  rw [← lst_due S hm ht]
  refine blk_own 1 ?_ scLeastOf.nd
  refine blk_cons (st_for 2 (fun j=>[.da (crs t),.ow ((lst [] ((srt t).take j)).map cr),if j=0 then .no else .da (cr ((srt t).getD (j - 1) 0))]) (ei_lst (ev_call Fo t hr (ea1 (ev_var 0)) ⟨hl,ht32⟩)) (by simp [lst]; rfl) (fun j d hd=>?_) rfl scLeastOf.nd) ?_
  · obtain ⟨hj,rfl⟩:=map_get hd
    have hz:(lst [] ((srt t).take j)).length≤64:=by
      have:=lst_len ((srt t).take j) []
      rw [List.length_take] at this
      simp only [List.length_nil] at this
      omega
    have hin:∀a∈lst [] ((srt t).take j),a < 32:=fun a ha=>by
      rcases lst_mem _ _ a ha with z | z
      · cases z
      · exact hq a (List.mem_of_mem_take z)
    have hcj:(srt t)[j] < 32:=hq _ (List.getElem_mem hj)
    have e1:lst [] ((srt t).take (j+1))=if car (lst [] ((srt t).take j)) (srt t)[j] then lst [] ((srt t).take j) else lst [] ((srt t).take j) ++ [(srt t)[j]]:=by
      rw [List.take_succ_eq_append_getElem hj,lst_app]
      rfl
    refine blk_one (st_if (et_not (et_val (ev_call Fi (lst [] ((srt t).take j),(srt t)[j]) hr2 (ea2 (ev_var 1) (ev_var 2)) ⟨by dsimp only; omega,hin,hcj⟩))) (fun h=>Blk.nxc (blk_one (st_app 1 rfl (ev_var 2) (by rw [List.length_map]; omega))) ?_) (fun h=>blk_nil.nxc ?_))
    · have h':car (lst [] ((srt t).take j)) (srt t)[j]=false:=by simpa using h
      simp only [List.set_cons_zero,List.set_cons_succ]
      rw [e1,h',if_neg (by decide)]
      simp [List.getD_eq_getElem?_getD,List.getElem?_eq_getElem hj]
    · have h':car (lst [] ((srt t).take j)) (srt t)[j]=true:=by simpa using h
      simp only [List.set_cons_zero,List.set_cons_succ]
      rw [e1,h',if_pos rfl]
      simp [List.getD_eq_getElem?_getD,List.getElem?_eq_getElem hj]
  · rw [List.length_map,List.take_length]
    exact blk_rf (st_retOwn 1 rfl)
end
end V
namespace V
open PySem PySem.Spec L2 DL Mth
abbrev cks:List Str:=["size", "smallest"]
abbrev cns (C:Addr)(m:Nat)(t:List Nat):D:=.ins C cks [.int m,crs t]
abbrev aInit:List Nat×Nat→List D:=fun i=>[.int i.2,crs i.1]
abbrev aSelf (C:Addr):List Nat×Nat→List D:=fun i=>[cns C i.2 i.1]
def preInit (i:List Nat×Nat):Prop:=C5 i.2∧i.1.length < 64 ∧ ∀a∈i.1,a < 2 ^ i.2
section
variable {P:Program}{w:World}{K:PySem.W.Frag}{mg:Str→Option Value}{base:Heap}{f:Addr}{fd:FuncData}{C:Addr}
abbrev nMk (P:Program)(w:World)(K:PySem.W.Frag)(mg:Str→Option Value)(base:Heap)(C:Addr):Prop:=NMk P w K mg base "Council" C cks 6 aInit preInit fun i fs=>fs = [.int i.2,crs (due i.1 i.2)]
abbrev mMany (P:Program)(w:World)(K:PySem.W.Frag)(mg:Str→Option Value)(base:Heap)(C:Addr):Prop:=PMt P w K mg base C "many" 1 (aSelf C) (fun _=>True) fun i d=>d = .int i.2
abbrev mLeast (P:Program)(w:World)(K:PySem.W.Frag)(mg:Str→Option Value)(base:Heap)(C:Addr):Prop:=FMt P w K mg base C "least" 1 (aSelf C) (fun _=>True) fun i ds=>ds=i.1.map cr
theorem scCMany:FnScope ["self"] ["self"] (defScope sCMany):=⟨rfl,rfl,rfl,by decide +kernel,rfl,by decide +kernel,by decide +kernel⟩
theorem d_cmany (F:Fun K "many" "Council.many" sCMany f fd)(c:Cls K C)(n1:NoAttr K C "size"):FnOk P w K mg base CX0 1 f fd ["self"] (PureSp K (aSelf C) (fun _=>True) fun i d=>d = .int i.2):=by
  refine fn_pure F scCMany (fun _=>rfl) fun cdv A outer s H E hr i _=>?_
  exact blk_rt (st_retE (ev_fld c n1 (ev_var 0) rfl rfl))
theorem scCLeast:FnScope ["self"] ["self"] (defScope sCLeast):=⟨rfl,rfl,rfl,by decide +kernel,rfl,by decide +kernel,by decide +kernel⟩
theorem d_cleast (F:Fun K "least" "Council.least" sCLeast f fd)(c:Cls K C)(n2:NoAttr K C "smallest")(B:Blt mg):FnOk P w K mg base CX0 1 f fd ["self"] (FreshSp K (aSelf C) (fun _=>True) fun i ds=>ds=i.1.map cr):=by
  refine fn_fresh F scCLeast (fun _=>rfl) fun cdv A outer s H E hr i _=>?_
  exact blk_rf (st_retF (ef_list (ev_fld c n2 (ev_var 0) rfl rfl) B.list))
theorem scInit:FnScope ["self", "many", "crowds", "crowd"] ["self", "many", "crowds"] (defScope sInit):=⟨rfl,rfl,rfl,by decide +kernel,rfl,by decide +kernel,by decide +kernel⟩
theorem put2 (m:Nat)(q:Addr):putF "smallest" (V.ref q) (putF "size" (V.int m) [])=cks.zip [V.int m,V.ref q]:=by
  show (if ("size" : Str) = "smallest" then _ else (("size" : Str),V.int m)::putF "smallest" (V.ref q) [])=_
  rw [if_neg (by decide +kernel)]
  rfl
theorem d_init (F:Fun K "__init__" "Council.__init__" sInit f fd)(c:Cls K C)(n1:NoAttr K C "size")(n2:NoAttr K C "smallest")(Fz:pChkSize P w K mg base)(Fc:pChkCrowd P w K mg base)(Fl:fLeastOf P w K mg base) :
    FnOk P w K mg base CX0 6 f fd ["self", "many", "crowds"] (InitN K C cks aInit preInit fun i fs=>fs = [.int i.2,crs (due i.1 i.2)]):=by
  refine F.ok scInit (fun vs H Q E h=>?_) (fun cdv A outer s H vs Q E hr h=>?_)
  · obtain ⟨p,dx,us,L,i,rfl,_,_,_,r,_⟩:=h
    have:=r.length
    simp only [List.length_cons,List.length_nil] at this ⊢
    omega
  · obtain ⟨p,dx,us,L,⟨t,m⟩,rfl,hp,lk,Lp,r,⟨hm,hl,ht⟩,k⟩:=h
    dsimp only at hm hl ht r
    obtain ⟨v1,v2,rfl,q1,q2⟩:=reps2 r
    rw [rep_int] at q1
    subst q1
    have hr1:Room 1 _:=hr.mono (by decide)
    refine ⟨_,pss_cons (ps_expr pe_we rfl) (pss_cons (ps_for PassesOwn.never rfl pi_wi (pg_name (i:=3) scInit.nd rfl (Or.inl rfl)) pss_wb) (pss_cons (ps_fld (pv 0) (pv 1) rfl) (pss_one (ps_fld (pv 0) pe_we rfl)))),?_⟩
    have env:∀ (H':Hp) (o:Option V) (d:Option D),Off L H H'→(∀x,d=some x→∃v,o=some v∧Rep K H' L x v)→EnvR K H' L [none,some (.int m),some (crs t),d] [some (.ref p),some (.int m),some v2,o]:=fun H' o d g hd=>by
      refine ⟨rfl,fun i x hx=>?_⟩
      match i with
      | 0=>cases hx
      | 1=>cases hx; exact ⟨_,rfl,rep_int.mpr rfl⟩
      | 2=>cases hx; exact ⟨_,rfl,q2.off g⟩
      | 3 =>
        have hx':d=some x:=by simpa using hx
        obtain ⟨v,rfl,rv⟩:=hd x hx'
        exact ⟨v,rfl,rv⟩
      | i+4=>simp at hx
    have hno:∀x:D,(none:Option D)=some x→∃v,(none:Option V)=some v∧Rep K H L x v:=fun x z=>by cases z
    refine (ev_call Fz m hr1 (ea1 (ev_var 1)) hm:Ev _ _ [none,some (.int m),some (crs t),none] .non) _ H L _ lk (env H none none (fun _ _ z _=>z) fun x z=>by cases z) fun v H1 g1 _=>?_
    refine (ei_lst (ev_var 2):EvI _ _ _ [none,some (.int m),some (crs t),none] (t.map cr)) _ H1 L _ (lk.same g1) (env H1 none none (.of g1) fun x z=>by cases z) fun J H2 g2 it=>?_
    refine ⟨fun j n σ' H'=>n=t.length - j∧(∃o,σ' = [some (.ref p),some (.int m),some v2,o])∧Same H2 H',⟨t.length,by simp,⟨none,rfl⟩,Same.refl _⟩,?_⟩
    rintro j n σ' H' ⟨rfl,⟨o,rfl⟩,g3⟩
    have gH:Same H H':=(g1.trans g2).trans g3
    by_cases hj:j < t.length
    · have hd:(t.map cr)[j]? = some (cr t[j]):=by rw [List.getElem?_map,List.getElem?_eq_getElem hj]; rfl
      obtain ⟨a1,a2⟩:=(it H' (.of g3) j).1 _ hd
      refine .inr ⟨a1,fun σ2 H2'=>(∃o,σ2 = [some (.ref p),some (.int m),some v2,o])∧Same H2 H2',fun σ2 H2' ⟨z1,z2⟩=>⟨t.length - (j+1),by omega,rfl,z1,z2⟩,fun v H3 y=>?_⟩
      obtain ⟨e3,rv⟩:=a2 v H3 y
      subst e3
      refine wb_of (pss_one (ps_expr pe_we rfl)) ?_
      exact (ev_call Fc (t[j],m) hr1 (ea2 (ev_var 3) (ev_var 1)) ⟨hm,ht _ (List.getElem_mem hj)⟩:Ev _ _ [none,some (.int m),some (crs t),some (cr t[j])] .non) _ _ L _ (lk.same gH) (env _ (some v) (some (cr t[j])) (.of gH) fun x z=>by cases z; exact ⟨v,rfl,rv.same g3⟩) fun v' H4 g4 _=>⟨⟨_,rfl⟩,g3.trans g4⟩
    · refine .inl ⟨(it H' (.of g3) j).2 (by rw [List.length_map]; omega),?_⟩
      have hp':H' p=some (.ins C dx []):=gH _ _ hp
      refine ⟨_,rfl,_,rfl,p,C,dx,[],rfl,hp',c,n1,(by show 0 < 1000; decide),?_⟩
      have off5:Off L H (upd H' p (.ins C dx (putF "size" (V.int m) []))):=fun b o e nb=>by
        have:b ≠ p:=fun z=>nb (z ▸ Lp)
        rw [upd_ne this]
        exact gH _ _ e
      have lk5:LOk L (upd H' p (.ins C dx (putF "size" (V.int m) []))):=fun a z e=>by
        by_cases ea:a=p
        · subst ea
          rw [upd_same] at e
          cases e
        · rw [upd_ne ea] at e
          exact (lk.same gH) a z e
      refine (ef_call Fl (t,m) hr (ea1 (ev_var 2)) ⟨hl,hm.2,ht⟩:EvF _ _ [none,some (.int m),some (crs t),none] _) _ _ L _ lk5 (env _ o none off5 fun x z=>by cases z) fun ds q ws H6 eds hq g6 hH rs=>?_
      dsimp only at eds
      subst eds
      have nqp:q ≠ p:=fun z=>by rw [z,upd_same] at hq; cases hq
      have hp6:=g6 _ _ (upd_same (H:=H') (a:=p) (o:=.ins C dx (putF "size" (V.int m) [])))
      refine ⟨_,rfl,p,C,dx,_,rfl,hp6,c,n2,(by show 1 < 1000; decide),?_⟩
      have nLq:¬ L q:=lk5.fresh hq
      have hq0:H q=none:=by
        cases e:H q with
        | none=>rfl
        | some o =>
          have:=off5 q o e nLq
          rw [hq] at this
          cases this
      refine k [.int m,crs (due t m)] [.int m,.ref q] _ rfl (fun b o e nb=>?_) (by rw [upd_same,put2]) rfl ?_
      · rw [upd_ne nb]
        refine g6 _ _ ?_
        rw [upd_ne nb]
        exact gH _ _ e
      · have rs7:Reps K (upd H6 p (.ins C dx (putF "smallest" (V.ref q) (putF "size" (V.int m) [])))) L ((due t m).map cr) ws:=by
          refine Reps.off (fun b o e nb=>?_) (rs.less (.of fun a z=>.inl z))
          have:b ≠ p:=fun z=>nb (z ▸ Lp)
          rw [upd_ne this]
          exact e
        unfold News'
        refine ⟨.int m,[.ref q],rfl,by unfold New; rfl,?_⟩
        unfold News'
        refine ⟨.ref q,[],rfl,?_,by unfold News'; rfl⟩
        unfold crs New
        exact ⟨q,ws,rfl,nLq,hq0,by rw [upd_ne nqp]; exact hH,Reps.new (noL_crs _) rs7⟩
end
end V
namespace V
open PySem PySem.Spec L2 DL Mth
theorem due_len31 {t:List Nat}{m:Nat}(hm1:1≤m)(hm:m≤5):(due t m).length≤31:=by
  by_cases h:(due t m).length≤31
  · exact h
  · exfalso
    have h1:=cs_len m
    unfold due at h
    have h2:=List.length_filter_le (fun c=>car t c && ((cs m).filter fun o=>car t o).all fun o=>o == c || !sub o c) (cs m)
    have h3:=List.length_filter_eq_length_iff.mp (by omega:((cs m).filter fun c=>car t c && ((cs m).filter fun o=>car t o).all fun o=>o == c || !sub o c).length=(cs m).length)
    have hp:1 < 2 ^ m:=Nat.one_lt_two_pow (by omega)
    have a0:=h3 0 ((cs_mem hm).mpr (by omega))
    have a1:=h3 1 ((cs_mem hm).mpr hp)
    rw [Bool.and_eq_true] at a0 a1
    have:=List.all_eq_true.mp a1.2 0 (List.mem_filter.mpr ⟨(cs_mem hm).mpr (by omega),a0.1⟩)
    revert this
    decide
end V
namespace DL
open PySem PySem.Spec PyProof.Rows L2 PySem.W
section
variable {X:Cx}{δ:List (Option D)}{a b e:Expr}{pos:Pos}{d d':D}
theorem EvN.toP {P:D→Prop}(h:EvN X e δ P):EvP X e δ P:=fun σ H L Q l r k =>
  h σ H L Q l r fun d v H' hp g n=>k d v H' hp g (New.rep (fun _ z=>.inl z) n)
theorem ev_eqD {k:Bool}(hu:X.A.units+64 < cLine)(ha:Ev X a δ d)(hb:Ev X b δ d')(n1:noIns d=true)(n2:noIns d'=true)(s1:SeqAt.shaped (toPy d)=true)(s2:SeqAt.shaped (toPy d')=true)(hk:PyData.eqv (toPy d) (toPy d')=k):Ev X (.Compare a [.Eq] [b] pos) δ (.bl k):=
  ev_cmp2 (op_eqD hu n1 n2 s1 s2) ha hb (nomark _) fun x y H L Q l r1 r2 q=>⟨L,l,r1,r2,q _ H (.refl _) (rep_bl.mpr (by simp [hk]))⟩
end
mutual
def plainD:Nat→D→Bool
  | _,.non=>true
  | _,.bl _=>true
  | _,.int _=>true
  | n+1,.tup ds=>plainDs n ds
  | n+1,.lst ds=>plainDs n ds
  | _,_=>false
def plainDs:Nat→List D→Bool
  | _,[]=>true
  | n,d::ds=>plainD n d && plainDs n ds
end
mutual
theorem plain_no:∀ (n:Nat) (d:D),plainD n d=true→noIns d=true
  | _,.non,_=>rfl
  | _,.bl _,_=>rfl
  | _,.int _,_=>rfl
  | _,.str _,_=>rfl
  | 0,.tup _,h=>by unfold plainD at h; cases h
  | 0,.lst _,h=>by unfold plainD at h; cases h
  | n+1,.tup ds,h=>by unfold plainD at h; unfold noIns; exact plains_no n ds h
  | n+1,.lst ds,h=>by unfold plainD at h; unfold noIns; exact plains_no n ds h
  | 0,.ins _ _ _,h=>by unfold plainD at h; cases h
  | n+1,.ins _ _ _,h=>by unfold plainD at h; cases h
theorem plains_no:∀ (n:Nat) (ds:List D),plainDs n ds=true→noInss ds=true
  | _,[],_=>rfl
  | n,d::ds,h=>by
    unfold plainDs at h
    rw [Bool.and_eq_true] at h
    unfold noInss
    rw [plain_no n d h.1,plains_no n ds h.2]
    rfl
end
mutual
theorem plain_lay:∀ (n:Nat) (d:D),plainD n d=true→(toPy d).canLay0=true∧(toPy d).depth≤n
  | _,.non,_=>by unfold toPy; exact ⟨rfl,by unfold PyData.depth; omega⟩
  | _,.bl _,_=>by unfold toPy; exact ⟨rfl,by unfold PyData.depth; omega⟩
  | _,.int _,_=>by unfold toPy; exact ⟨rfl,by unfold PyData.depth; omega⟩
  | 0,.str _,h=>by unfold plainD at h; cases h
  | n+1,.str _,h=>by unfold plainD at h; cases h
  | 0,.tup _,h=>by unfold plainD at h; cases h
  | 0,.lst _,h=>by unfold plainD at h; cases h
  | n+1,.tup ds,h=>by
    unfold plainD at h
    obtain ⟨h1,h2⟩:=plains_lay n ds h
    unfold toPy
    exact ⟨h1,by unfold PyData.depth; omega⟩
  | n+1,.lst ds,h=>by
    unfold plainD at h
    obtain ⟨h1,h2⟩:=plains_lay n ds h
    unfold toPy
    exact ⟨h1,by unfold PyData.depth; omega⟩
  | 0,.ins _ _ _,h=>by unfold plainD at h; cases h
  | n+1,.ins _ _ _,h=>by unfold plainD at h; cases h
theorem plains_lay:∀ (n:Nat) (ds:List D),plainDs n ds=true→PyData.canLayAll0 (toPys ds)=true∧PyData.depthAll (toPys ds)≤n
  | _,[],_=>by unfold toPys; exact ⟨rfl,by unfold PyData.depthAll; omega⟩
  | n,d::ds,h=>by
    unfold plainDs at h
    rw [Bool.and_eq_true] at h
    obtain ⟨h1,h2⟩:=plain_lay n d h.1
    obtain ⟨h3,h4⟩:=plains_lay n ds h.2
    unfold toPys
    refine ⟨?_,?_⟩
    · unfold PyData.canLayAll0; rw [h1,h3]; rfl
    · unfold PyData.depthAll; omega
end
theorem plain_shaped {n:Nat}{d:D}(h:plainD n d=true)(hn:n≤64):SeqAt.shaped (toPy d)=true:=by
  obtain ⟨h1,h2⟩:=plain_lay n d h
  unfold SeqAt.shaped
  rw [h1,decide_eq_true (by omega)]
  rfl
end DL
namespace DL
open PySem PySem.Spec PyProof.Rows L2 PySem.W
section
variable {X:Cx}{δ:List En}{iter:Expr}{body:List Stmt}{pos p:Pos}{x:Str}{P:Nat→D→Prop}{q:Nat→Bool}{n:Nat}
theorem blk_searchR {st:Stmt}{rest:List Stmt}{b:Bool}{R R':D→Prop}(h:Stm X st δ (if b=true then .rt R' else .nx δ))(hR:b=true→∀d,R' d→R d)(hr:b=false→Blk X rest δ (.rt R)):Blk X (st::rest) δ (.rt R):=by
  cases b with
  | true=>exact Blk.imp (blk_rt h) (hR rfl)
  | false=>exact blk_cons h (hr rfl)
end
end DL
namespace DL
open PySem PySem.Spec PyProof.Rows L2 PySem.W
theorem runs_det {M:Model}{Γ:PySem.Ctx}{p:Pos}{t:Sem PySem.Fin}{fs:List Frame}{s:Shared}{e:End}{s':Shared}(h:Runs M Γ p t fs s e s'):∀ {e2:End}{s2:Shared},Runs M Γ p t fs s e2 s2→e=e2∧s'=s2:=by
  induction h with
  | done=>intro e2 s2 h2; cases h2; exact ⟨rfl,rfl⟩
  | raise=>intro e2 s2 h2; cases h2; exact ⟨rfl,rfl⟩
  | yield=>intro e2 s2 h2; cases h2; exact ⟨rfl,rfl⟩
  | again _ _ ih=>intro e2 s2 h2; cases h2; exact ih ‹_›
  | rule _ ih=>intro e2 s2 h2; cases h2; exact ih ‹_›
  | «at» _ ih=>intro e2 s2 h2; cases h2; exact ih ‹_›
  | load ho _ ih =>
    intro e2 s2 h2
    cases h2 with
    | load ho' h'=>rw [ho] at ho'; cases ho'; exact ih h'
  | update _ _ ih=>intro e2 s2 h2; cases h2; exact ih ‹_›
  | loadIfAlive _ ih=>intro e2 s2 h2; cases h2; exact ih ‹_›
  | point _ ih=>intro e2 s2 h2; cases h2; exact ih ‹_›
  | alloc _ ih=>intro e2 s2 h2; cases h2; exact ih ‹_›
  | fresh _ ih=>intro e2 s2 h2; cases h2; exact ih ‹_›
  | ask _ ih=>intro e2 s2 h2; cases h2; exact ih ‹_›
  | choose _ _ ih=>intro e2 s2 h2; cases h2; exact ih ‹_›
  | os _ ih=>intro e2 s2 h2; cases h2; exact ih ‹_›
  | handled _ ih=>intro e2 s2 h2; cases h2; exact ih ‹_›
  | genState ho _ ih =>
    intro e2 s2 h2
    cases h2 with
    | genState ho' h'=>rw [ho] at ho'; cases ho'; exact ih h'
  | stack _ ih=>intro e2 s2 h2; cases h2; exact ih ‹_›
  | thread _ ih=>intro e2 s2 h2; cases h2; exact ih ‹_›
  | newGen _ ih=>intro e2 s2 h2; cases h2; exact ih ‹_›
  | call _ _ ih1 ih2 =>
    intro e2 s2 h2
    cases h2 with
    | call a b=>obtain ⟨q1,q2⟩:=ih1 a; cases q1; cases q2; exact ih2 b
    | callSusp a=>obtain ⟨q1,q2⟩:=ih1 a; cases q1
  | callSusp _ ih =>
    intro e2 s2 h2
    cases h2 with
    | call a b=>obtain ⟨q1,q2⟩:=ih a; cases q1
    | callSusp a=>obtain ⟨q1,q2⟩:=ih a; cases q1; cases q2; exact ⟨rfl,rfl⟩
  | resumeFresh hg _ _ _ ih1 ih2 =>
    intro e2 s2 h2
    cases h2 with
    | resumeFresh hg' a _ b=>rw [hg] at hg'; cases hg'; obtain ⟨q1,q2⟩:=ih1 a; cases q1; cases q2; exact ih2 b
    | resumeSuspended hg' a _ b=>rw [hg] at hg'; cases hg'
    | resumeJustStarted hg' hv a=>exact absurd rfl hv
    | resumeRunning hg' a=>rw [hg] at hg'; cases hg'
    | resumeFinished hg' a=>rw [hg] at hg'; cases hg'
  | resumeSuspended hg _ _ _ ih1 ih2 =>
    intro e2 s2 h2
    cases h2 with
    | resumeFresh hg' a _ b=>rw [hg] at hg'; cases hg'
    | resumeSuspended hg' a _ b=>rw [hg] at hg'; cases hg'; obtain ⟨q1,q2⟩:=ih1 a; cases q1; cases q2; exact ih2 b
    | resumeJustStarted hg' hv a=>rw [hg] at hg'; cases hg'
    | resumeThrowFresh hg' a=>rw [hg] at hg'; cases hg'
    | resumeRunning hg' a=>rw [hg] at hg'; cases hg'
    | resumeFinished hg' a=>rw [hg] at hg'; cases hg'
  | resumeJustStarted hg hv _ ih =>
    intro e2 s2 h2
    cases h2 with
    | resumeFresh hg' a _ b=>exact absurd rfl hv
    | resumeSuspended hg' a _ b=>rw [hg] at hg'; cases hg'
    | resumeJustStarted hg' hv a=>exact ih a
    | resumeRunning hg' a=>rw [hg] at hg'; cases hg'
    | resumeFinished hg' a=>rw [hg] at hg'; cases hg'
  | resumeThrowFresh hg _ ih =>
    intro e2 s2 h2
    cases h2 with
    | resumeSuspended hg' a _ b=>rw [hg] at hg'; cases hg'
    | resumeThrowFresh hg' a=>exact ih a
    | resumeRunning hg' a=>rw [hg] at hg'; cases hg'
    | resumeFinished hg' a=>rw [hg] at hg'; cases hg'
  | resumeRunning hg _ ih =>
    intro e2 s2 h2
    cases h2 with
    | resumeFresh hg' a _ b=>rw [hg] at hg'; cases hg'
    | resumeSuspended hg' a _ b=>rw [hg] at hg'; cases hg'
    | resumeJustStarted hg' hv a=>rw [hg] at hg'; cases hg'
    | resumeThrowFresh hg' a=>rw [hg] at hg'; cases hg'
    | resumeRunning hg' a=>exact ih a
    | resumeFinished hg' a=>rw [hg] at hg'; cases hg'
  | resumeFinished hg _ ih =>
    intro e2 s2 h2
    cases h2 with
    | resumeFresh hg' a _ b=>rw [hg] at hg'; cases hg'
    | resumeSuspended hg' a _ b=>rw [hg] at hg'; cases hg'
    | resumeJustStarted hg' hv a=>rw [hg] at hg'; cases hg'
    | resumeThrowFresh hg' a=>rw [hg] at hg'; cases hg'
    | resumeRunning hg' a=>rw [hg] at hg'; cases hg'
    | resumeFinished hg' a=>exact ih a
  | segRet _ _ ih1 ih2 =>
    intro e2 s2 h2
    cases h2 with
    | segRet a b=>obtain ⟨q1,q2⟩:=ih1 a; cases q1; cases q2; exact ih2 b
    | segSuspOut _ a=>obtain ⟨q1,q2⟩:=ih1 a; cases q1
    | segSuspGen _ a _ b=>obtain ⟨q1,q2⟩:=ih1 a; cases q1
  | segGen _ _ ih1 ih2 =>
    intro e2 s2 h2
    cases h2 with
    | segGen a b=>obtain ⟨q1,q2⟩:=ih1 a; cases q1; cases q2; exact ih2 b
    | segSuspOut _ a=>obtain ⟨q1,q2⟩:=ih1 a; cases q1
    | segSuspGen _ a _ b=>obtain ⟨q1,q2⟩:=ih1 a; cases q1
  | segSuspOut hs _ ih =>
    intro e2 s2 h2
    cases h2 with
    | segRet a b=>obtain ⟨q1,q2⟩:=ih a; cases q1
    | segGen a b=>obtain ⟨q1,q2⟩:=ih a; cases q1
    | segSuspOut _ a=>obtain ⟨q1,q2⟩:=ih a; cases q1; cases q2; exact ⟨rfl,rfl⟩
    | segSuspGen hs' a _ b=>rw [hs] at hs'; cases hs'
  | segSuspGen hs _ _ _ ih1 ih2 =>
    intro e2 s2 h2
    cases h2 with
    | segRet a b=>obtain ⟨q1,q2⟩:=ih1 a; cases q1
    | segGen a b=>obtain ⟨q1,q2⟩:=ih1 a; cases q1
    | segSuspOut hs' a=>rw [hs] at hs'; cases hs'
    | segSuspGen hs' a _ b=>rw [hs] at hs'; cases hs'; obtain ⟨q1,q2⟩:=ih1 a; cases q1; cases q2; exact ih2 b
theorem wakes_det {M:Model}{Γ:PySem.Ctx}{p:Pos}{g:Nat}{r:Resume}{s:Shared}{res res2:GenResult}{s' s2:Shared}(h:Wakes M Γ p g r s res s')(h2:Wakes M Γ p g r s res2 s2):res=res2∧s'=s2:=by
  unfold Wakes at h h2
  split at h
  · exact h.elim
  · rename_i hg
    rw [hg] at h2
    dsimp only at h2
    split at h
    · obtain ⟨e1,s1,a,_,rfl,rfl⟩:=h
      obtain ⟨e2,s2',b,_,rfl,rfl⟩:=h2
      obtain ⟨rfl,rfl⟩:=runs_det a b
      exact ⟨rfl,rfl⟩
    · rename_i hv
      split at h2
      · rename_i e; cases e; simp at hv
      · obtain ⟨rfl,rfl⟩:=h; obtain ⟨rfl,rfl⟩:=h2; exact ⟨rfl,rfl⟩
      · rename_i e; cases e
    · dsimp only at h2
      obtain ⟨rfl,rfl⟩:=h; obtain ⟨rfl,rfl⟩:=h2; exact ⟨rfl,rfl⟩
  · rename_i hg
    rw [hg] at h2
    obtain ⟨e1,s1,a,_,rfl,rfl⟩:=h
    obtain ⟨e2,s2',b,_,rfl,rfl⟩:=h2
    obtain ⟨rfl,rfl⟩:=runs_det a b
    exact ⟨rfl,rfl⟩
  · rename_i hg
    rw [hg] at h2
    obtain ⟨rfl,rfl⟩:=h; obtain ⟨rfl,rfl⟩:=h2; exact ⟨rfl,rfl⟩
  · rename_i hg
    rw [hg] at h2
    obtain ⟨rfl,rfl⟩:=h; obtain ⟨rfl,rfl⟩:=h2; exact ⟨rfl,rfl⟩
theorem wp_and {α:Type}{M:Model}{Γ:PySem.Ctx}{t:Sem α}{Q Q':α→Pos→Shared→Prop}{E E':Value→Pos→Shared→Prop}:∀ {p:Pos}{s:Shared},Sem.wp M Γ t Q E p s→Sem.wp M Γ t Q' E' p s→Sem.wp M Γ t (fun a p s=>Q a p s∧Q' a p s) (fun a p s=>E a p s∧E' a p s) p s:=by
  induction t with
  | load a q k ih=>intro p s h h'; simp only [Sem.wp] at *; obtain ⟨o,ho,h⟩:=h; obtain ⟨o',ho',h'⟩:=h'; rw [ho] at ho'; cases ho'; exact ⟨o,ho,ih _ h h'⟩
  | update a q f k ih=>intro p s h h'; simp only [Sem.wp] at *; exact ⟨h.1,ih _ h.2 h'.2⟩
  | choose a q k ih=>intro p s h h'; simp only [Sem.wp] at *; exact ⟨h.1,ih _ h.2 h'.2⟩
  | genState a k ih=>intro p s h h'; simp only [Sem.wp] at *; obtain ⟨o,ho,h⟩:=h; obtain ⟨o',ho',h'⟩:=h'; rw [ho] at ho'; cases ho'; exact ⟨o,ho,ih _ h h'⟩
  | call c hh g l k ih =>
    intro p s h h'; simp only [Sem.wp] at *
    obtain ⟨r,s1,a,h⟩:=h
    obtain ⟨r',s1',a',h'⟩:=h'
    obtain ⟨q1,q2⟩:=runs_det a a'
    cases q1
    cases q2
    exact ⟨r,s1,a,ih _ h h'⟩
  | resume g r l k ih =>
    intro p s h h'; simp only [Sem.wp] at *
    obtain ⟨r,s1,a,h⟩:=h
    obtain ⟨r',s1',a',h'⟩:=h'
    obtain ⟨rfl,rfl⟩:=wakes_det a a'
    exact ⟨r,s1,a,ih _ h h'⟩
  | _=>intro p s h h'; simp only [Sem.wp] at *; try (first | exact ⟨h,h'⟩ | exact h.elim | (rename_i ih; exact ih _ h h'))
theorem wpAny_and {α:Type}{M:Model}{A:Around}{t:Sem α}{Q Q':α→Shared→Prop}{E E':Value→Shared→Prop}{s:Shared}(h:wpAny M A t Q E s)(h':wpAny M A t Q' E' s):wpAny M A t (fun a s=>Q a s∧Q' a s) (fun a s=>E a s∧E' a s) s:=
  fun Γ p hΓ=>wp_and (h Γ p hΓ) (h' Γ p hΓ)
end DL
namespace DL
open PySem PySem.Spec PyProof.Rows L2 PySem.W
def G2 (e:Addr)(h:Heap):Prop:=∃oe vs,h.get? e=some oe∧oe.data = .fields vs∧vs[2]? = some .none
def G3 (e:Addr)(h:Heap):Prop:=∃oe vs T oT ts,h.get? e=some oe∧oe.data = .fields vs∧vs[2]? = some .none∧vs[1]? = some (.ref T)∧T ≠ e∧h.get? T=some oT∧oT.data = .fields ts∧3 < ts.size
theorem G3.two {e:Addr}{h:Heap}(x:G3 e h):G2 e h:=by
  obtain ⟨oe,vs,_,_,_,a,b,c,_⟩:=x
  exact ⟨oe,vs,a,b,c⟩
theorem g3_of {e:Addr}{h base:Heap}{cls a0 fl:Value}(t:h.TracedAtW base e cls a0 fl)(x:G2 e h):G3 e h:=by
  obtain ⟨oe,vs,T,oT,ts,b1,b2,b3,b4,b5,b6,b7,b8,b9⟩:=t
  obtain ⟨o2,v2,c1,c2,c3⟩:=x
  rw [b1] at c1
  cases c1
  rw [b3] at c2
  cases c2
  exact ⟨_,vs,T,oT,ts,b1,b3,c3,b4,b6,b7,b8,(Array.getElem?_eq_some_iff.mp b9).1⟩
section
variable {M:Model}{A:Around}{E:Value→Shared→Prop}{s:Shared}{base:Heap}{env:Env}{outer:List Env}{L e:Addr}
theorem ent_G3 {oe:Obj}{vs:Array Value}{head:Value}{hn:Bool}(hfr:A.frames=some (env::outer))(hl:s.heap.FunFrames base (env::outer))(hf:env.frame=some L)(he:s.heap.get? e=some oe)(hd:oe.data = .fields vs)(h2:vs[2]? = some .none) :
    wpAny M A (frameOf env >>= fun a=>entryPlaceOf L hn >>= fun pl=>EntryCells.newEntry head a .none (rawInt L) .none pl >>= fun b=>setField (.ref e) 1 b) (fun _ s'=>G3 e s'.heap) E s:=by
  have hsz:1 < vs.size:=by have:=(Array.getElem?_eq_some_iff.mp h2).1; omega
  have hne:e ∉ (env::outer).filterMap (·.frame):=fun z=>by
    obtain ⟨_,o,q,n⟩:=hl.mem z
    rw [he] at q
    cases q
    exact n vs hd
  refine wpAny_bind (wpAny_frameOf_fun hfr hl hf fun g hg=>?_)
  refine wpAny_bind (wpAny_entryPlaceOf fun pl hp=>?_)
  unfold EntryCells.newEntry
  unfold newFields
  refine wpAny_bind (wpAny_newObj_type ?_ (hp.sizeOk5 _ _ _ _ _))
  have e1:g.get? e=some oe:=(hg.2.1 e hne).trans he
  generalize hT:([head,Value.ref L,Value.none,rawInt L,Value.none]++(if pl.isEmpty then List.replicate 6 Value.none else pl)).toArray=cells
  have hc:3 < cells.size:=by
    rw [← hT]
    simp only [List.size_toArray,List.length_append,List.length_cons,List.length_nil]
    omega
  have ne:g.objs.size ≠ e:=Nat.ne_of_gt (Heap.lt_size e1)
  refine wpAny_setField (Heap.get?_push_of_some _ e1) hd hsz ?_
  have d3:=Obj.data_mapFields hd (fun a=>a.setIfInBounds 1 (Value.ref g.objs.size))
  refine ⟨_,_,g.objs.size,_,cells,Heap.get?_update_self _ (Heap.get?_push_of_some _ e1) (Obj.isFreed_of_fields d3),d3,?_,?_,ne,(Heap.get?_update_other _ _ (Ne.symm ne)).trans (Heap.get?_push_size g rfl),rfl,hc⟩
  · rw [Array.getElem?_setIfInBounds_ne (by decide)]
    exact h2
  · simp [hsz]
theorem fl_G3 (x:G3 e s.heap):wpAny M A (setFlight (.ref e) none) (fun _ s'=>G3 e s'.heap) E s:=by
  obtain ⟨oe,vs,T,oT,ts,a1,a2,a3,a4,a5,a6,a7,a8⟩:=x
  unfold setFlight
  refine wpAny_bind (wpAny_field a1 a2 a4 ?_)
  rw [if_pos (by simp)]
  refine wpAny_setField a6 a7 a8 ?_
  have d3:=Obj.data_mapFields a7 (fun a=>a.setIfInBounds 3 ((none:Option Addr).elim Value.none fun f=>rawInt f))
  exact ⟨oe,vs,T,_,_,(Heap.get?_update_other _ _ a5).trans a1,a2,a3,a4,a5,Heap.get?_update_self _ a6 (Obj.isFreed_of_fields d3),d3,by simpa using a8⟩
theorem note1_G3 {oe:Obj}{vs:Array Value}(hfr:A.frames=some (env::outer))(hl:s.heap.FunFrames base (env::outer))(hf:env.frame=some L)(he:s.heap.get? e=some oe)(hd:oe.data = .fields vs)(h1:vs[1]? = some .none)(h2:vs[2]? = some .none):wpAny M A (noteFrame (.ref e) env) (fun _ s'=>G3 e s'.heap) E s:=by
  unfold noteFrame
  simp only [hf]
  refine wpAny_bind (wpAny_field he hd h1 ?_)
  rw [if_neg (by decide)]
  exact ent_G3 hfr hl hf he hd h2
theorem note_G3 {cls a0:Value}(hfr:A.frames=some (env::outer))(hl:s.heap.FunFrames base (env::outer))(hf:env.frame=some L)(ht:s.heap.TracedW base e cls a0)(x:G2 e s.heap):wpAny M A (noteFrame (.ref e) env) (fun _ s'=>G3 e s'.heap) E s:=by
  obtain ⟨oe,vs,T,oT,ts,b1,b2,b3,b4,b5,b6,b7,b8,b9⟩:=ht
  obtain ⟨o2,v2,c1,c2,c3⟩:=x
  rw [b1] at c1
  cases c1
  rw [b3] at c2
  cases c2
  unfold noteFrame
  simp only [hf]
  refine wpAny_bind (wpAny_field b1 b3 b4 ?_)
  rw [if_pos (by simp)]
  refine wpAny_bind (wpAny_field b7 b8 b9 ?_)
  rw [if_neg (by simp [rawInt])]
  refine wpAny_bind (wpAny_setField b7 b8 (Array.getElem?_eq_some_iff.mp b9).1 ?_)
  refine ent_G3 hfr (hl.of_keeps fun b o q n=>⟨o,(Heap.get?_update_other _ _ fun z=>?_).trans q,rfl⟩) hf ((Heap.get?_update_other _ _ b6).trans b1) b3 c3
  rw [← z,b7] at q
  cases q
  exact n ts b8
theorem leave1_G2 {oe:Obj}{vs:Array Value}(hfr:A.frames=some (env::outer))(hl:s.heap.FunFrames base (env::outer))(hf:env.frame=some L)(he:s.heap.get? e=some oe)(hd:oe.data = .fields vs)(h1:vs[1]? = some .none)(h2:vs[2]? = some .none):wpAny M A (leaving env (.ref e)) (fun _ s'=>G2 e s'.heap) E s:=by
  unfold leaving
  exact wpAny_bind (wpAny_mono (note1_G3 hfr hl hf he hd h1 h2) (fun _ s1 x=>wpAny_mono (fl_G3 x) (fun _ _ y=>y.two) fun _ _ z=>z) fun _ _ z=>z)
theorem leaves_any {cls a0 fl:Value}{Q:Unit→Shared→Prop}(hfr:A.frames=some (env::outer))(hf:env.frame=some L)(b1:base.StaysIn s.heap)(b2:base.get? e=none)(b3:s.heap.FunFrames base (env::outer))(b4:s.heap.TracedAtW base e cls a0 fl)(k:∀h',Heap.FlyingW base outer e cls a0 h'→s.heap.UpToSlots h'→Q () { s with heap:=h' }):wpAny M A (leaving env (.ref e)) Q E s:=by
  by_cases hL:fl=rawInt L
  · subst hL
    unfold leaving
    refine wpAny_bind (wpAny_noteFrame_againW hf b4 (wpAny_landsW ⟨b1,b2,b3,b4⟩ fun h' ⟨c1,c2,⟨_,_,c3⟩,c4⟩ c5=>k h' ⟨c1,c2,c3,c4⟩ c5))
  · obtain ⟨oe,vs,T,oT,ts,d1,⟨rfl,d3⟩,d4,d5,d6,d7,d8,d9,d10⟩:=b4
    have oth:∀b,b ≠ T→(s.heap.update T (Obj.mapFields fun a=>a.setIfInBounds 3 Value.none)).get? b=s.heap.get? b:=fun b hb=>Heap.get?_update_other _ _ (Ne.symm hb)
    have nT:∀b o,s.heap.get? b=some o→(∀vs,o.data ≠ .fields vs)→b ≠ T:=fun b o q n z=>by
      rw [z,d8] at q
      cases q
      exact n ts d9
    unfold leaving
    unfold noteFrame
    simp only [hf]
    refine wpAny_bind (wpAny_bind (wpAny_field d1 d4 d5 ?_))
    rw [if_pos (by simp)]
    refine wpAny_bind (wpAny_field d8 d9 d10 ?_)
    rw [if_neg (by simpa using hL)]
    refine wpAny_bind (wpAny_setField d8 d9 (Array.getElem?_eq_some_iff.mp d10).1 ?_)
    refine wpAny_newEntryW hfr (b3.of_keeps fun b o q n=>⟨o,(oth b (nT b o q n)).trans q,rfl⟩) hf ((oth e (Ne.symm d7)).trans d1) (fun b o q=>(oth b fun z=>by rw [z,d6] at q; cases q).trans (b1 b o q)) b2 d4 (Array.getElem?_eq_some_iff.mp d5).1 d3 fun h' ⟨x1,⟨_,_,x2⟩,x3,x4⟩=>?_
    exact k h' ⟨x1,b2,x2,x3⟩ fun b o q n=>x4 b o ((oth b (nT b o q n)).trans q) n
theorem leave_any_G2 {cls a0 fl:Value}(hfr:A.frames=some (env::outer))(hl:s.heap.FunFrames base (env::outer))(hf:env.frame=some L)(ht:s.heap.TracedAtW base e cls a0 fl)(x:G2 e s.heap):wpAny M A (leaving env (.ref e)) (fun _ s'=>G2 e s'.heap) E s:=by
  unfold leaving
  have fin:∀s1:Shared,G3 e s1.heap→wpAny M A (setFlight (.ref e) none) (fun _ s'=>G2 e s'.heap) E s1:=fun s1 y=>wpAny_mono (fl_G3 y) (fun _ _ z=>z.two) fun _ _ z=>z
  by_cases hL:fl=rawInt L
  · subst hL
    exact wpAny_bind (wpAny_noteFrame_againW hf ht (fin s (g3_of ht x)))
  · obtain ⟨oe,vs,T,oT,ts,b1,b2,b3,b4,b5,b6,b7,b8,b9⟩:=ht
    obtain ⟨o2,v2,c1,c2,c3⟩:=x
    rw [b1] at c1
    cases c1
    rw [b3] at c2
    cases c2
    unfold noteFrame
    simp only [hf]
    refine wpAny_bind (wpAny_bind (wpAny_field b1 b3 b4 ?_))
    rw [if_pos (by simp)]
    refine wpAny_bind (wpAny_field b7 b8 b9 ?_)
    rw [if_neg (by simpa using hL)]
    refine wpAny_bind (wpAny_setField b7 b8 (Array.getElem?_eq_some_iff.mp b9).1 ?_)
    refine wpAny_mono (ent_G3 hfr (hl.of_keeps fun b o q n=>⟨o,(Heap.get?_update_other _ _ fun z=>?_).trans q,rfl⟩) hf ((Heap.get?_update_other _ _ b6).trans b1) b3 c3) (fun _ s1 y=>fin s1 y) fun _ _ z=>z
    rw [← z,b7] at q
    cases q
    exact n ts b8
theorem wp2 {α:Type}{t:Sem α}{Q Q' R:α→Shared→Prop}{E':Value→Shared→Prop}(h:wpAny M A t Q E s)(h':wpAny M A t Q' E' s)(k:∀a s,Q a s→Q' a s→R a s):wpAny M A t R E s:=
  wpAny_mono (wpAny_and h h') (fun a s q=>k a s q.1 q.2) fun _ _ q=>q.1
end
end DL
namespace DL
open PySem PySem.Spec PyProof.Rows L2 PySem.W
def CXE (P:Program)(w:World):CXT:=fun outer H s E e s'=>∃ (a:Addr) (cls a0:Value) (B:Heap) (H':Hp),e = .ref a∧Heap.FlyingW B outer a cls a0 s'.heap∧s'.os=s.os∧AllBare s'.gens ∧
  Un (frs outer) [] H H' s.heap s'.heap∧HOk P w H' s'.heap∧(∀b o,s.heap.get? b=some o→b ∉ frs outer→∃o',B.get? b=some o')∧(∀b o,H' b=some o→∃o',B.get? b=some o') ∧ ∃x:Option Addr,(x=none→G2 a s'.heap)∧E cls x H'
def CXH (P:Program)(w:World):CXT:=fun outer H s E e s'=>∃ (a:Addr) (cls a0 fl:Value) (B:Heap) (H':Hp),e = .ref a∧(B.StaysIn s'.heap∧B.get? a=none∧s'.heap.FunFrames B outer∧s'.heap.TracedAtW B a cls a0 fl)∧s'.os=s.os∧AllBare s'.gens ∧
  Un (frs outer) [] H H' s.heap s'.heap∧HOk P w H' s'.heap∧(∀b o,s.heap.get? b=some o→b ∉ frs outer→∃o',B.get? b=some o')∧(∀b o,H' b=some o→∃o',B.get? b=some o') ∧ ∃x:Option Addr,(x=none→G2 a s'.heap)∧E cls x H'
theorem cxh_of {P:Program}{w:World}{outer:List Env}{H:Hp}{s s':Shared}{E:XK}{e:Value}(h:CXE P w outer H s E e s'):CXH P w outer H s E e s':=by
  obtain ⟨a,cls,a0,B,H',h1,⟨f1,f2,f3,f4⟩,r⟩:=h
  exact ⟨a,cls,a0,.none,B,H',h1,⟨f1,f2,f3,f4⟩,r⟩
theorem obj_there {P:Program}{w:World}{H:Hp}{h:Heap}{a:Addr}{o:HO}(x:ObjOk P w H h a o):∃ob,h.get? a=some ob:=by
  cases o with
  | lst xs=>obtain ⟨_,_,_,_,e⟩:=x; exact ⟨_,e⟩
  | tup xs=>obtain ⟨_,_,_,ob,e,_⟩:=x; exact ⟨_,e⟩
  | dK kvs=>obtain ⟨_,_,_,_,o,_,_,e,_⟩:=x; exact ⟨_,e⟩
  | dT kvs=>obtain ⟨_,_,_,_,o,_,_,e,_⟩:=x; exact ⟨_,e⟩
  | set S n=>obtain ⟨o,_,_,_,e,_⟩:=x; exact ⟨_,e⟩
  | ins C dx fs=>obtain ⟨_,_,_,e,_⟩:=x; exact ⟨_,e⟩
  | own y=>obtain ⟨_,e⟩:=x; exact ⟨_,e⟩
  | xd fs=>obtain ⟨_,⟨_,_,_,e,_⟩,_⟩:=x; exact ⟨_,e⟩
  | rng lo hi=>obtain ⟨_,_,_,e⟩:=x; exact ⟨_,e⟩
  | frz ob u=>obtain ⟨e,_⟩:=x; exact ⟨_,e⟩
  | tbl ps=>exact ⟨_,(show h.get? a=some _ from x)⟩
  | met f y=>exact ⟨_,(show h.get? a=some _ from x)⟩
  | ext φ=>obtain ⟨_,⟨_,e⟩,_⟩:=x; exact ⟨_,e⟩
theorem stays_hide (h:Heap)(l:List Addr):(hideAll h l).StaysIn h:=fun b o q=>of_hideAll _ q
theorem un_on {fs fs':List Addr}{H0 H1:Hp}{h0 h h' B:Heap}(u:Un fs' [] H0 H1 h0 h)(hsub:∀b o,h0.get? b=some o→b∈fs'→b∈fs)(cov:∀b o,h0.get? b=some o→b ∉ fs→∃o',B.get? b=some o')(s1:B.StaysIn h)(s2:B.StaysIn h')(sl:h.UpToSlots h')(fr:∀b∈fs,∀o,h.get? b=some o→∀vs,o.data ≠ .fields vs):Un fs [] H0 H1 h0 h' where
  keep:=fun b o e hn hb _=>by
    have hb':b ∉ fs':=fun z=>hb (hsub b o e z)
    have q:=u.keep b o e hn hb' (by simp)
    obtain ⟨o',ho⟩:=cov b o e hb
    have:=s1 b o' ho
    rw [q] at this
    cases this
    exact s2 b o ho
  slot:=fun b o e hn hb _=>by
    obtain ⟨sl1,q⟩:=u.any e hn (by simp)
    obtain ⟨sl2,q2⟩:=sl b _ q (fr b hb _ q)
    exact ⟨sl2,q2⟩
  free:=fun b o e hn _=>u.free b o e hn (by simp)
  there:=fun b o e _=>by
    obtain ⟨o1,q⟩:=u.there b o e (by simp)
    by_cases hb:b∈fs
    · obtain ⟨sl2,q2⟩:=sl b _ q (fr b hb _ q)
      exact ⟨_,q2⟩
    · obtain ⟨o',ho⟩:=cov b o e hb
      exact ⟨o',s2 b o' ho⟩
  tups:=u.tups
  frzs:=u.frzs
  tbls:=u.tbls
theorem hok_on {P:Program}{w:World}{H:Hp}{h h' B:Heap}(x:HOk P w H h)(trk:∀b o,H b=some o→∃o',B.get? b=some o')(s1:B.StaysIn h)(s2:B.StaysIn h'):HOk P w H h':=fun a o e =>
  (x a o e).stay (fun b u hb q=>by
    have:∃o,H b=some o:=by
      rcases hb with rfl | hb
      · exact ⟨o,e⟩
      · exact ⟨_,hb⟩
    obtain ⟨o2,ho⟩:=this
    obtain ⟨o',hB⟩:=trk b o2 ho
    have:=s1 b o' hB
    rw [q] at this
    cases this
    exact s2 b u hB) (fun _ q=>q) fun _ _ q=>q
section
variable {P:Program}{w:World}{K:PySem.W.Frag}{mg:Str→Option Value}{base:Heap}{N:List Str}{qual:Str}{scope:Scope}{f:Addr}{cd:Value}{A:Around}{outer:List Env}{s:Shared}{H:Hp}{E0:XK}{pins:List (Addr×Obj)}{σ:St}{H1:Hp}{s1:Shared}
theorem frames_in {l:List Env}:∀env∈l,∀a,env.frame=some a→a∈frs l:=fun env he a ha=>List.mem_filterMap.mpr ⟨env,he,ha⟩
theorem xe_made {e C:Addr}{args:List Value}{h':Heap}(I:Inv (cxOf (CXE P w) P w K mg base N qual scope f cd A outer s H E0) pins σ H1 s1)(hx:Heap.MadeExcOf s1.heap h' e (.ref C) args)(hE:E0 (.ref C) none H1) :
    (cxOf (CXE P w) P w K mg base N qual scope f cd A outer s H E0).xe (.ref e) { s1 with heap:=h' }:=by
  have e0:=I.env0
  have hst:=e0.funs
  have hfrf:=e0.frf
  have ub:=I.base
  have hfr:=e0.frames
  obtain ⟨t0,ht0,_⟩:=hx.there
  have hfh:=funFrames_hide (l:=(cxOf (CXE P w) P w K mg base N qual scope f cd A outer s H E0).stack) hst frames_in
  refine wp2 (Q:=fun _ s'=>∃h2 t,s' = { s1 with heap:=h2 }∧Heap.FlyingW (hideAll s1.heap (frs (cxOf (CXE P w) P w K mg base N qual scope f cd A outer s H E0).stack)) outer e (.ref C) (.ref t) h2∧h'.UpToSlots h2)
    (wpAny_leaves_madeW (base:=hideAll s1.heap (frs (cxOf (CXE P w) P w K mg base N qual scope f cd A outer s H E0).stack)) (h:=s1.heap) (env:=(cxOf (CXE P w) P w K mg base N qual scope f cd A outer s H E0).env) (outer:=outer) hfr rfl (stays_hide _ _) hfh hx fun h2 t hfl _ _ hsl=>⟨h2,t,rfl,hfl,hsl⟩)
    (leave1_G2 (E:=fun _ _=>True) (base:=hideAll s1.heap (frs (cxOf (CXE P w) P w K mg base N qual scope f cd A outer s H E0).stack)) hfr (hfh.of_keeps fun b o q _=>⟨o,hx.keeps b o q,rfl⟩) rfl ht0 rfl rfl rfl) ?_
  rintro _ s' ⟨h2,t,rfl,hfl,hsl⟩ hg2
  have nL:∀b o,s.heap.get? b=some o→b∈frs (cxOf (CXE P w) P w K mg base N qual scope f cd A outer s H E0).stack→b∈frs outer:=fun b o e hb=>by
    rcases List.mem_filterMap.mp hb with ⟨env,he,hf⟩
    rcases List.mem_cons.mp he with rfl | he
    · have:s.heap.objs.size=b:=Option.some.inj hf
      exact absurd (Heap.lt_size e) (by rw [this]; exact Nat.lt_irrefl _)
    · exact List.mem_filterMap.mpr ⟨env,he,hf⟩
  have cov:∀b o,s.heap.get? b=some o→b ∉ frs outer→∃o',(hideAll s1.heap (frs (cxOf (CXE P w) P w K mg base N qual scope f cd A outer s H E0).stack)).get? b=some o':=fun b o e hb=>by
    obtain ⟨o',q⟩:=ub.there b o e (by show b ∉ []; simp)
    exact ⟨o',hideAll_get _ q fun z=>hb (nL b o e z)⟩
  have trk:∀b o,H1 b=some o→∃o',(hideAll s1.heap (frs (cxOf (CXE P w) P w K mg base N qual scope f cd A outer s H E0).stack)).get? b=some o':=fun b o q=>by
    obtain ⟨o',ho⟩:=obj_there (I.hok b o q)
    exact ⟨o',hideAll_get _ ho fun z=>by rw [hfrf b z] at q; cases q⟩
  have hsl':s1.heap.UpToSlots h2:=(Heap.UpToSlots.of_keeps hx.keeps).trans hsl
  refine ⟨e,.ref C,.ref t,_,H1,rfl,hfl,I.os,I.bare,un_on ub (fun b o _ z=>z) cov (stays_hide _ _) hfl.1 hsl' (fun b hb o q vs=>?_),hok_on I.hok trk (stays_hide _ _) hfl.1,cov,trk,none,fun _=>hg2,hE⟩
  obtain ⟨_,o',q',hd⟩:=hst.mem (List.mem_filterMap.mpr (by
    obtain ⟨env,he,hf⟩:=List.mem_filterMap.mp hb
    exact ⟨env,List.mem_cons_of_mem _ he,hf⟩))
  rw [q] at q'
  cases q'
  exact hd vs
theorem xe_held {E1:XK}{e:Value}{s':Shared}(I:Inv (cxOf (CXE P w) P w K mg base N qual scope f cd A outer s H E0) pins σ H1 s1)(hx:CXH P w (cxOf (CXE P w) P w K mg base N qual scope f cd A outer s H E0).stack H1 s1 E1 e s')(hE:∀c x H',E1 c x H'→E0 c x H') :
    (cxOf (CXE P w) P w K mg base N qual scope f cd A outer s H E0).xe e s':=by
  obtain ⟨a,cls,a0,fl,B,H2,rfl,hfl,os,bare,un,hok,cov1,trk,xx,hg1,hE1⟩:=hx
  have e0:=I.env0
  have ub:=I.base
  refine wp2 (Q:=fun _ s2=>∃h2,s2 = { s' with heap:=h2 }∧Heap.FlyingW B outer a cls a0 h2∧s'.heap.UpToSlots h2) (leaves_any (env:=(cxOf (CXE P w) P w K mg base N qual scope f cd A outer s H E0).env) (outer:=outer) e0.frames rfl hfl.1 hfl.2.1 hfl.2.2.1 hfl.2.2.2 fun h2 hfl2 hsl=>⟨h2,rfl,hfl2,hsl⟩)
    (Q':=fun _ s2=>xx=none→G2 a s2.heap) (E':=fun _ _=>True) (by
      cases xx with
      | none=>exact wpAny_mono (leave_any_G2 (E:=fun _ _=>True) e0.frames hfl.2.2.1 rfl hfl.2.2.2 (hg1 rfl)) (fun _ _ z _=>z) fun _ _ z=>z
      | some _=>exact leaves_any (env:=(cxOf (CXE P w) P w K mg base N qual scope f cd A outer s H E0).env) (outer:=outer) e0.frames rfl hfl.1 hfl.2.1 hfl.2.2.1 hfl.2.2.2 fun h2 hfl2 hsl z=>by cases z) ?_
  rintro _ s2 ⟨h2,rfl,hfl2,hsl⟩ hg2
  have nL:∀b o,s.heap.get? b=some o→b∈frs (cxOf (CXE P w) P w K mg base N qual scope f cd A outer s H E0).stack→b∈frs outer:=fun b o e hb=>by
    rcases List.mem_filterMap.mp hb with ⟨env,he,hf⟩
    rcases List.mem_cons.mp he with rfl | he
    · have:s.heap.objs.size=b:=Option.some.inj hf
      exact absurd (Heap.lt_size e) (by rw [this]; exact Nat.lt_irrefl _)
    · exact List.mem_filterMap.mpr ⟨env,he,hf⟩
  have cov:∀b o,s.heap.get? b=some o→b ∉ frs outer→∃o',B.get? b=some o':=fun b o e hb=>by
    obtain ⟨o',q⟩:=ub.there b o e (by show b ∉ []; simp)
    exact cov1 b o' q fun z=>hb (nL b o e z)
  have us:=(I.call' os un hok bare (fun b z=>absurd z (by simp))).base
  refine ⟨a,cls,a0,B,H2,rfl,hfl2,os.trans I.os,bare,un_on us (fun b o _ z=>z) cov hfl.1 hfl2.1 hsl (fun b hb o q vs=>?_),hok_on hok trk hfl.1 hfl2.1,cov,trk,xx,hg2,hE _ _ _ hE1⟩
  obtain ⟨_,o',q',hd⟩:=hfl.2.2.1.mem (List.mem_filterMap.mpr (by
    obtain ⟨env,he,hf⟩:=List.mem_filterMap.mp hb
    exact ⟨env,List.mem_cons_of_mem _ he,hf⟩))
  rw [q] at q'
  cases q'
  exact hd vs
theorem xe_fly {E1:XK}{e:Value}{s':Shared}(I:Inv (cxOf (CXE P w) P w K mg base N qual scope f cd A outer s H E0) pins σ H1 s1)(hx:CXE P w (cxOf (CXE P w) P w K mg base N qual scope f cd A outer s H E0).stack H1 s1 E1 e s')(hE:∀c x H',E1 c x H'→E0 c x H') :
    (cxOf (CXE P w) P w K mg base N qual scope f cd A outer s H E0).xe e s':=xe_held I (cxh_of hx) hE
end
end DL
namespace DL
open PySem PySem.Spec PyProof.Rows L2 PySem.W
abbrev bmV:List Value:=[.type "ValueError",.type "Exception",.type "BaseException",.type "object"]
structure ErrC (K:PySem.W.Frag)(mg:Str→Option Value)(x:Str)(C:Addr):Prop where
  bound:mg x=some (.ref C)
  exc:excIn K C bmV "ValueError.__new__" = true
theorem exc_obj {K:PySem.W.Frag}{h:Heap}{C:Addr}{bmB:List Value}{newId:String}(X:K.In h)(q:excIn K C bmB newId=true) :
    ∃bm N nm q bs hdct sn sub ab col dd k0 k1 k2 k3 k5 mN,h.get? C=some (excClassObj nm q C N bs bm hdct sn sub ab col dd k0 k1 k2 k3 k5 newId)∧h.Ns N mN∧mN "__init__" = none∧OwnTail h bmB bm:=by
  unfold excIn at q
  split at q
  · rename_i dd cd sl ho
    split at q
    · rename_i C' bm k0 k1 k2 k3 n k5 hm hs
      simp only [Bool.and_eq_true,beq_iff_eq,Bool.not_eq_true'] at q
      obtain ⟨⟨⟨⟨⟨rfl,rfl⟩,hdel⟩,ht⟩,hok⟩,hni⟩:=q
      obtain ⟨nm,bs,mro,ns,qn,hd,sn,sub,ab,col,del⟩:=cd
      dsimp only at hm hdel hok hni
      subst hm hdel
      have hsl:sl = #[k0,k1,k2,k3,some (.builtin n),k5]:=by
        obtain ⟨l⟩:=sl
        simp only at hs
        rw [hs]
      subst hsl
      exact ⟨bm,ns,nm,qn,bs,hd,sn,sub,ab,col,dd,k0,k1,k2,k3,k5,_,X _ _ ho,.of_isNs (isNs_of_in X hok),nsMap_none_of_in X hok hni,tail_of_in X ht⟩
    · cases q
  · cases q
def XOk (X:Cx)(m:Bool)(H0:Hp)(C:Addr):Prop:=
  (∀pins σ H s e s',Inv X pins σ H s→CXE X.prog X.w X.stack H s (fun c x H'=>c = .ref C∧x=none∧Same H0 H') e s'→X.xe e s') ∧
  (m=true→∀pins σ H s e args h',Inv X pins σ H s→Same H0 H→Heap.MadeExcOf s.heap h' e (.ref C) args→X.xe (.ref e) { s with heap:=h' }) ∧
  (∀pins σ H s e s',Inv X pins σ H s→CXH X.prog X.w X.stack H s (fun c x H'=>c = .ref C∧x=none∧Same H0 H') e s'→X.xe e s')
theorem cxh_imp {P:Program}{w:World}{outer:List Env}{H:Hp}{s s':Shared}{E E':XK}{e:Value}(h:CXH P w outer H s E e s')(k:∀c x H',E c x H'→E' c x H'):CXH P w outer H s E' e s':=by
  obtain ⟨a,cls,a0,fl,B,H2,h1,h2,h3,h4,h5,h6,h7,h8,x,hg,h9⟩:=h
  exact ⟨a,cls,a0,fl,B,H2,h1,h2,h3,h4,h5,h6,h7,h8,x,hg,k _ _ _ h9⟩
theorem cxe_imp {P:Program}{w:World}{outer:List Env}{H:Hp}{s s':Shared}{E E':XK}{e:Value}(h:CXE P w outer H s E e s')(k:∀c x H',E c x H'→E' c x H'):CXE P w outer H s E' e s':=by
  obtain ⟨a,cls,a0,B,H2,h1,h2,h3,h4,h5,h6,h7,h8,x,hg,h9⟩:=h
  exact ⟨a,cls,a0,B,H2,h1,h2,h3,h4,h5,h6,h7,h8,x,hg,k _ _ _ h9⟩
theorem XOk.mono {X:Cx}{m:Bool}{H0 H:Hp}{C:Addr}(h:XOk X m H0 C)(g:Same H0 H):XOk X m H C:=
  ⟨fun pins σ H1 s e s' I x=>h.1 pins σ H1 s e s' I (cxe_imp x fun c _ H' ⟨z1,z3,z2⟩=>⟨z1,z3,g.trans z2⟩),fun hm pins σ H1 s e args h' I g' x=>h.2.1 hm pins σ H1 s e args h' I (g.trans g') x,fun pins σ H1 s e s' I x=>h.2.2 pins σ H1 s e s' I (cxh_imp x fun c _ H' ⟨z1,z3,z2⟩=>⟨z1,z3,g.trans z2⟩)⟩
theorem XOk.passes {X:Cx}{m:Bool}{H0:Hp}{C:Addr}(h:XOk X m H0 C):Passes (CXE X.prog X.w) X (fun c x H'=>c = .ref C∧x=none∧Same H0 H'):=fun pins σ H s e s' I x=>h.1 pins σ H s e s' I x
def StmX (X:Cx)(m:Bool)(st:Stmt)(δ:List En)(C:Addr):Prop:=∀H0 L0 σ H L E,LOk L0 H0→StR X.K H0 L0 δ σ H L→XOk X m H0 C→WS X st E σ H
def BlkX (X:Cx)(m:Bool)(sts:List Stmt)(δ:List En)(C:Addr):Prop:=∀H0 L0 σ H L E,LOk L0 H0→StR X.K H0 L0 δ σ H L→XOk X m H0 C→WB X sts E σ H
def EvX (X:Cx)(m:Bool)(e:Expr)(δ:List (Option D))(C:Addr):Prop:=∀σ H L Q,LOk L H→EnvR X.K H L δ σ→XOk X m H C→WE X e σ H Q
section
variable {X:Cx}{δ δ':List En}{m:Bool}{st:Stmt}{rest sts A B:List Stmt}{a c e:Expr}{pos p np cpos:Pos}{x:Str}{C:Addr}{ε:List (Option D)}{d:D}
theorem blkx_cons (h1:Stm X st δ (.nx δ'))(h2:BlkX X m rest δ' C):BlkX X m (st::rest) δ C:=fun H0 L0 σ H L E l s k =>
  wb_of (pss_cons ps_ws pss_wb) (h1 H0 L0 σ H L _ l s fun σ' H' L' s' _=>h2 H0 L0 σ' H' L' E l s' k)
theorem blkx_now (h1:StmX X m st δ C):BlkX X m (st::rest) δ C:=fun H0 L0 σ H L E l s k=>wb_of (pss_cons ps_ws pss_wb) (h1 H0 L0 σ H L _ l s k)
theorem stmx_ifT (h:EvT X c (opn δ) true)(ha:BlkX X m A δ C):StmX X m (.If c A B pos) δ C:=fun H0 L0 σ H L E l s k =>
  ws_of (ps_if pt_wt pss_wb pss_wb) (h σ H L0 _ (s.lok0 l) (s.opnR l) fun H' g=>iteT (ha H0 L0 σ H' L E l (s.grow g) k))
theorem stmx_expr (h:EvX X m e (opn δ) C)(hs:swapsWith e none pos.line X.env=pure false:=by rfl):StmX X m (.Expr e pos) δ C:=fun H0 L0 σ H L E l s k =>
  ws_of (ps_expr pe_we hs) (h σ H L0 _ (s.lok0 l) (s.opnR l) (k.mono s.same))
theorem stmx_ret (h:EvX X m e (opn δ) C):StmX X m (.Return (some e) pos) δ C:=fun H0 L0 σ H L E l s k =>
  ws_of (ps_ret pe_we) (h σ H L0 _ (s.lok0 l) (s.opnR l) (k.mono s.same))
theorem stmx_raise {spos:Pos}(hC:ErrC X.K X.mg x C)(hh:X.A.handled=none)(h:Ev X e (hid δ) d)(hg:Gl X x:=by rfl)(hd:(x == ("__debug__" : Str))=false:=by decide)(he:starEach [e] X.env = [(false,eval e X.env)]:=by rfl):StmX X true (.Raise (some (.Call (.Name x np) [e] [] cpos)) none spos) δ C:=fun H0 L0 σ H L E l s k pins sh I=>by
  obtain ⟨bm,N,nm,q,bs,hdct,sn,sub,ab,col,dd,k0,k1,k2,k3,k5,mN,hO,hN,hni,T⟩:=exc_obj I.ok.mod.kin hC.exc
  refine wpAny_Raise_call_subT (C:=C) (nm:=nm) (q:=q) (N:=N) (bs:=bs) (bm:=bm) (hdct:=hdct) (sn:=sn) (sub:=sub) (ab:=ab) (col:=col) (dd:=dd) (k0:=k0) (k1:=k1) (k2:=k2) (k3:=k3) (k5:=k5)
    PySem.F.excBase_ValueError (mN:=mN) (T.hasType PySem.F.excBase_ValueError.hasBase) hh (by rw [he]; rfl) hni (ld_glob I hg hC.bound ⟨rfl,?_⟩ hd)
  rw [he]
  refine Calls.evalArgs_plain ?_
  have hev:=(ea1 h he) σ H L (fun vs H1=>Same H H1∧vs.length=1) s.lok s.hidR (fun vs H1 g rs=>⟨g,by have:=rs.length; simpa using this.symm⟩) cpos pins sh I
  rw [he] at hev
  refine wpAny_mono hev (fun us s1 ⟨vs,H1,I1,rv,g,hl⟩=>?_) fun _ _ z=>z
  refine ⟨rfl,?_,I1.bk _ _ hO,hN.keeps I1.bk,T.keeps I1.bk,fun h' e' hx=>?_⟩
  · have:us.length=1:=by rw [← rv.length]; exact hl
    show us.length≤sizeLine
    rw [this]
    exact Nat.le_of_lt (small1000 (by decide))
  · exact k.2.1 rfl pins σ H1 s1 e' us h' I1 (s.same.trans g) hx
end
end DL
namespace DL
open PySem PySem.Spec PyProof.Rows L2 PySem.W
def RaiseSp {ι:Type}(K:PySem.W.Frag)(Ar:ι→List D)(Pre:ι→Prop)(C:Addr):Sp:=fun vs H _ E=>∃ (L:Addr→Prop) (i:ι),LOk L H∧Reps K H L (Ar i) vs∧Pre i ∧ ∀H',Same H H'→E (.ref C) none H'
structure RFn {ι:Type}(P:Program)(w:World)(K:PySem.W.Frag)(mg:Str→Option Value)(base:Heap)(x:Str)(k:Nat)(Ar:ι→List D)(Pre:ι→Prop)(C:Addr):Prop where
  ex:∃ (f:Addr) (fd:FuncData) (ps:List Str),FnOk P w K mg base (CXE P w) k f fd ps (RaiseSp K Ar Pre C)∧mg x=some (.ref f)∧PySem.W.keepIn K (.ref f)=true∧Binds K fd ps []
def RaiseIn {ι:Type}(K:PySem.W.Frag)(D0:Addr)(Ar:ι→List D)(Pre:ι→Prop)(C:Addr):Sp:=fun vs H _ E=>∃ (p dx:Addr) (us:List V) (L:Addr→Prop) (i:ι),vs = .ref p::us∧H p=some (.ins D0 dx [])∧LOk L H∧L p∧Reps K H L (Ar i) us∧Pre i ∧ ∀H',Same H H'→E (.ref C) none H'
structure RMk {ι:Type}(P:Program)(w:World)(K:PySem.W.Frag)(mg:Str→Option Value)(base:Heap)(x:Str)(D0:Addr)(k:Nat)(Ar:ι→List D)(Pre:ι→Prop)(C:Addr):Prop where
  ex:∃ (f:Addr) (fd:FuncData) (ps:List Str),FnOk P w K mg base (CXE P w) k f fd ps (RaiseIn K D0 Ar Pre C)∧Mk K D0 f∧mg x=some (.ref D0)∧Binds K fd ps []
section
variable {P:Program}{w:World}{K:PySem.W.Frag}{mg:Str→Option Value}{base:Heap}{ι:Type}{Ar:ι→List D}{Pre:ι→Prop}{C D0:Addr}
theorem xok_body {N:List Str}{qual:Str}{scope:Scope}{f:Addr}{cd:Value}{A:Around}{outer:List Env}{s:Shared}{H:Hp}{E:XK}(kE:∀H',Same H H'→E (.ref C) none H'):XOk (cxOf (CXE P w) P w K mg base N qual scope f cd A outer s H E) true H C:=
  ⟨fun pins σ H1 s1 e s' I x=>xe_fly I x fun c x H' ⟨h1,h2,h3⟩=>by rw [h1,h2]; exact kE H' h3,fun _ pins σ H1 s1 e args h' I g x=>xe_made I x (kE H1 g),fun pins σ H1 s1 e s' I x=>xe_held I x fun c x H' ⟨h1,h2,h3⟩=>by rw [h1,h2]; exact kE H' h3⟩
theorem fn_raise {x qual:Str}{st:Stmt}{f:Addr}{fd:FuncData}{N ps:List Str}{k:Nat}(F:Fun K x qual st f fd)(S:FnScope N ps (defScope st))(hl:∀i,(Ar i).length=ps.length)(body:∀ (cdv:Value) (A:Around) (outer:List Env) (s:Shared) (H:Hp) (E:XK),Room k (A.deeper (envOfC qual (defScope st) s.heap.objs.size f cdv))→∀i,Pre i →
      BlkX (cxOf (CXE P w) P w K mg base N qual (defScope st) f cdv A outer s H E) true (defBody st) (startD N (Ar i)) C):FnOk P w K mg base (CXE P w) (k+1) f fd ps (RaiseSp K Ar Pre C):=by
  obtain ⟨oc,od,kV,doc,pm,an,cdv,ct,osl,rfl,lk,hcd⟩:=F.ex
  refine fn_of lk hcd S (fun vs H Q E h=>?_) fun A outer s H vs Q E hr hsp=>?_
  · obtain ⟨L,i,_,r,_⟩:=h
    rw [← r.length,hl]
  · obtain ⟨L,i,lk',r,pre,kE⟩:=hsp
    exact ⟨_,pss_wb,body cdv A outer s H E hr i pre H L _ H L _ lk' (start_ok lk' r) (xok_body kE)⟩
end
section
variable {X:Cx}{δ:List (Option D)}{m:Bool}{a b e o:Expr}{es:List Expr}{pos p apos:Pos}{x y:Str}{k:Nat}{ι:Type}{Ar:ι→List D}{Pre:ι→Prop}{C D0:Addr}{ds:List D}
theorem evx_call (F:RFn X.prog X.w X.K X.mg X.base x k Ar Pre C)(i:ι)(hr:Room k X.A)(ha:EvA X (e::es) δ ds)(hp:Pre i)(hA:Ar i=ds:=by rfl)(hg:Gl X x:=by rfl)(hdb:(x == ("__debug__" : Str))=false:=by decide)(he:starEach (e::es) X.env=(false,eval e X.env)::starEach es X.env:=by rfl)(hpl:(backTo pos (starEach es X.env)).any (·.1)=false:=by rfl):EvX X m (.Call (.Name x p) (e::es) [] pos) δ C:=fun σ H L Q l r q=>by
  obtain ⟨f,fd,ps,F,hm,hk,hb⟩:=F.ex
  refine we_of (pe_call F hr hg hm hk hb .nil q.passes pa_wa hdb he hpl) (ha σ H L _ l r fun vs H1 s1 r1=>?_)
  exact ⟨L,i,l.same s1,by rw [List.append_nil,hA]; exact r1,hp,fun H' g=>⟨rfl,rfl,s1.trans g⟩⟩
end
section
variable {X:Cx}{δ:List En}{m:Bool}{iter:Expr}{body:List Stmt}{ds:List D}{pos p:Pos}{x:Str}{C:Addr}
theorem stmx_for (i n:Nat)(en:Nat→List En)(hi:EvI X (.Name x p) iter (hid δ) ds)(h0:en 0=δ)(ht:∀ (j:Nat) d,j < n→ds[j]? = some d→Blk X body ((en j).set i (.da d)) (.nx (en (j+1)))){d:D}(hd:ds[n]? = some d)(hb:BlkX X m body ((en n).set i (.da d)) C)(hxe:PassesOwn (model X.prog X.w) X.A X.env X.xe)(hc:X.calm=true)(hN:X.N.Nodup)(hx0:X.N[i]? = some x:=by rfl)(hx:Loc X.env.scope x:=by first | exact Or.inl rfl | exact Or.inr rfl)(hf:X.fn x=true∨X.env.scope.names.lookup x=some .local:=by first | exact Or.inl rfl | exact Or.inr rfl)(hs:∀x,foldedSetIterable iter X.env x=pure x:=by intro _; rfl):StmX X m (.For (.Name x p) iter body [] pos) δ C:=fun H0 L0 σ H L E l s k=>by
  have hlt:n < ds.length:=(List.getElem?_eq_some_iff.mp hd).1
  refine ws_of (ps_for hxe hc pi_wi (pg_name hN hx0 hx hf) pss_wb hs) (hi σ H L _ s.lok s.hidR fun J H1 g it=>?_)
  refine ⟨fun j m σ' H'=>j≤n∧m=ds.length - j ∧ ∃L',Ext L H1 L' H'∧StR X.K H0 L0 (en j) σ' H' L',⟨ds.length,Nat.zero_le _,by simp,L,.refl,h0 ▸ s.grow g⟩,?_⟩
  rintro j m σ' H' ⟨hj,rfl,L',x',s'⟩
  have go:∀d,ds[j]? = some d→J.go j H' ∧ ∀v H3,J.yld j H' v H3→H3=H'∧Rep X.K H' L' d v:=fun d hd=>by
    obtain ⟨a1,a2⟩:=(it H' x'.off j).1 d hd
    refine ⟨a1,fun v H3 y=>?_⟩
    obtain ⟨e3,rv⟩:=a2 v H3 y
    exact ⟨e3,x'.rep rv⟩
  by_cases hjn:j < n
  · have hdj:ds[j]? = some (ds[j]'(by omega)):=List.getElem?_eq_getElem (by omega)
    obtain ⟨g1,g2⟩:=go _ hdj
    refine .inr ⟨g1,fun σ2 H2=>∃L2,Ext L H1 L2 H2∧StR X.K H0 L0 (en (j+1)) σ2 H2 L2,fun σ2 H2 ⟨L2,x2,s2⟩=>⟨ds.length - (j+1),by omega,hjn,rfl,L2,x2,s2⟩,fun v H3 y=>?_⟩
    obtain ⟨e3,rv⟩:=g2 v H3 y
    subst e3
    exact ht j _ hjn hdj H0 L0 _ H3 L' _ l (s'.setD rv) fun σ2 H2 L2 s2 x2=>⟨L2,x'.trans x2,s2⟩
  · have e:j=n:=by omega
    subst e
    obtain ⟨g1,g2⟩:=go d hd
    refine .inr ⟨g1,fun σ2 H2=>False,fun _ _ z=>z.elim,fun v H3 y=>?_⟩
    obtain ⟨e3,rv⟩:=g2 v H3 y
    subst e3
    exact hb H0 L0 _ H3 L' _ l (s'.setD rv) k
end
end DL
namespace DL
open PySem PySem.Spec PyProof.Rows L2 PySem.W PySem.Calls PySem.Builtin PySem.Builtin.ObjectAttr PySem.Builtin.Getset_descriptor
def OfC (h:Heap)(x D:Addr):Prop:=∃o,h.get? x=some o∧o.cls = .ref D
structure ErrI (K:PySem.W.Frag)(D:Addr):Prop where
  hc:(clsIn K D).isSome=true
  hga:findIn K (.ref D) "__getattribute__" = some (some (.builtin "BaseException.__getattribute__"))
  hgt:findIn K (.ref D) "__getattr__" = some none
  ha:findIn K (.ref D) "__class__" = some (some (.builtin "object.__class__"))
  hn:specialIn K (.builtin "object.__class__") "__get__" = some (some (.builtin "getset_descriptor.__get__"))
  htk:takesIn K (.builtin "object.__class__")=some true
  hm:mroIn K D (.type "object")=some true
  hb:mroIn K D (.type "BaseException")=some true
section
variable {prog:Program}{w:World}{A:Around}{E:Value→Shared→Prop}{s:Shared}{K:Frag}{x D:Addr}
theorem ofC_ty {M:Model}{h:Heap}(p:OfC h x D):Looks M h (typeOf (.ref x)) (.ref D):=by
  obtain ⟨o,h1,h2⟩:=p
  exact h2 ▸ (Looks.ld h1).andThen .now
theorem classE_get {R:Result→Shared→Prop}{tp:Value}(X:K.In s.heap)(I:OfC s.heap x D)(hm:mroIn K D (.type "object")=some true)(h:R (.ok (.ret (.ref D))) s):codeAny (model prog w) A (.call (.builtin "getset_descriptor.__get__") ⟨[.builtin "object.__class__",.ref x,tp],[]⟩) R s:=by
  obtain ⟨hh,g,dr,t,os⟩:=s
  have L0:=ofC_ty (M:=model prog w) I
  have L1:=looks_mroIn (M:=model prog w) X hm
  refine codeAny_call_builtin KF.slot_gs.plain KF.entry_gs (KF.slot_gs.check _ _ _ _ _ _ _ _ KF.type_class (KF.args_gs _ _ _) ?_)
  unfold Builtin.«getset_descriptor.__get__» descrGet
  rw [dga_obj]
  refine wpAny_bind (wpAny_pure ?_)
  unfold descrGetter descrCheckInstance descrNameAndClass isInstance
  simp only [KF.owner_class]
  repeat lk
  refine ⟨Code.quiet_builtin _ (by decide +kernel),codeAny_builtin KF.entry_class ?_⟩
  unfold Builtin.«object.__class__» shownTypeOf
  repeat lk
  exact h
theorem exc_class {Q:Option Value→Shared→Prop}(X:K.In s.heap)(I:OfC s.heap x D)(z:ErrI K D)(h:Q (some (.ref D)) { s with toks:=s.toks+1 }):wpAny (model prog w) A (getAttr? (.ref x) "__class__") Q E s:=by
  obtain ⟨hh,g,d,t,os⟩:=s
  have L0:=ofC_ty (M:=model prog w) I
  have L1:=looks_findIn (M:=model prog w) X z.hga
  have L2:=looks_findIn (M:=model prog w) X z.hgt
  have LB:=looks_mroIn (M:=model prog w) X z.hb
  have LF:Looks (model prog w) hh (Builtin.ObjectAttr.find (.ref x) (.ref D) "__class__") (.bind (.builtin "getset_descriptor.__get__") (.builtin "object.__class__")):=by
    unfold Builtin.ObjectAttr.find
    refine (looks_findIn X z.ha).andThen ?_
    refine (show Looks _ _ (Builtin.ObjectAttr.getOf (some (.builtin "object.__class__"))) (some (.builtin "getset_descriptor.__get__")) from looks_specialIn X z.hn).andThen ?_
    refine (show Looks _ _ (Builtin.ObjectAttr.dataDescriptor? (some (.builtin "object.__class__")) (some (.builtin "getset_descriptor.__get__"))) (some (.builtin "getset_descriptor.__get__",.builtin "object.__class__")) from (looks_takesIn X z.htk).andThen .now).andThen ?_
    exact Looks.tag .now
  unfold getAttr? getAttrBy? getAttrBy
  refine wpAny_bind (wpAny_mkText (wpAny_bind (wpAny_attempt (wpAny_holding (wpAny_bind (L0.at (wpAny_bind (L1.at ?_))))))))
  have f3:=PySem.F.attrBase_ValueError.ga.bind (.ref x)
  show wpAny _ _ (getAttrByItsOwn _ _ _ _ _ _) _ _ _
  unfold getAttrByItsOwn
  refine wpAny_bind (show wpAny _ _ (hookBefore (.ref D)) _ _ _ from L2.at ?_)
  refine wpAny_bind (wpAny_attempt (wpAny_holding ?_))
  show wpAny _ _ (boundAndCalled (.builtin "BaseException.__getattribute__") (.ref x) _) _ _ _
  unfold boundAndCalled
  rw [f3]
  refine wpAny_bind (wpAny_pure ?_)
  refine wpAny_call (codeAny_call_builtin PySem.F.attrBase_ValueError.ga.plain PySem.F.entry_bexc_ga ?_)
  have hk:builtinKind "BaseException.__getattribute__" = some .slot:=by decide +kernel
  have hsplit:splitId "BaseException.__getattribute__" = some ("BaseException", "__getattribute__"):=by decide +kernel
  have hargs:=PySem.F.args_bexc_ga (.ref x) (.str "__class__" t)
  simp only [checkBuiltinCall,hk,hsplit]
  refine wpAny_bind ?_
  unfold isInstance
  refine wpAny_bind (L0.at (LB.at ?_))
  repeat (first | assumption | wp_step)
  obtain ⟨ox,at_,cls⟩:=id I
  refine wpAny_loadPart_at at_ (wpAny_pure ?_)
  rw [cls]
  refine wpAny_bind (LF.at ?_)
  show wpAny _ _ (Builtin.ObjectAttr.bindTo (.builtin "getset_descriptor.__get__") (.builtin "object.__class__") (.ref x) (.ref D)) _ _ _
  unfold Builtin.ObjectAttr.bindTo
  dsimp only
  repeat (first | assumption | wp_step)
  refine classE_get (s:=⟨hh,g,d,t+1,os⟩) X I z.hm ?_
  refine wpAny_pure ?_
  exact handed_on rfl (wpAny_pure h)
theorem kitx_exc (z:ErrI K D):KitX K (.ref x) (.ref D) (fun h=>OfC h x D) where
  ty:=fun _ _ _ I=>ofC_ty I
  it:=fun _ _ X _=>by
    obtain ⟨cdD,hcD⟩:=Option.isSome_iff_exists.mp z.hc
    unfold clsIn at hcD
    split at hcD
    · rename_i c' d' cd' sl' ho
      intro A' Q' E' s' k q
      unfold isType loadHead
      exact wpAny_bind (wpAny_loadPart (k _ _ (X _ _ ho)) (wpAny_pure q))
    · cases hcD
  ne:=fun h tp dd its n sl X htp=>by
    obtain ⟨cdD,hcD⟩:=Option.isSome_iff_exists.mp z.hc
    refine Bool.eq_false_iff.mpr fun q=>?_
    have e:D=tp:=Value.ref.inj (beq_iff_eq.mp q)
    subst e
    unfold clsIn at hcD
    split at hcD
    · rename_i c' d' cd' sl' ho
      have z:=(X _ _ ho).symm.trans htp
      cases z
    · cases hcD
  ca:=fun X I k=>exc_class X I z k
end
theorem isiE {X:Cx}{pins:List (Addr×Obj)}{σ:St}{H:Hp}{s:Shared}{A:Around}{E:Value→Shared→Prop}{Q:Value→Shared→Prop}{a D:Addr}{oa:Obj}{c:Value}{b:Bool}(I:Inv X pins σ H s)(hp:(a,oa)∈X.pn)(hcl:oa.cls = .ref D)(z:ErrI X.K D)(e:kitOne X.K (.ref D) c=some b)(h:∀tk,Q (.bool b) { s with toks:=tk }) :
    wpAny (model X.prog X.w) A (call (.builtin "isinstance") [.ref a,c]) Q E s:=
  kia_one (kitx_exc z) I.kIn ⟨oa,(I.pin (a,oa) (List.mem_append_left _ hp)).1,hcl⟩ e (fun z=>nomatch z) h
end DL
namespace DL
open PySem PySem.Spec PyProof.Rows L2 PySem.W PySem.Calls
theorem excM {M:Model}{A:Around}{E:Value→Shared→Prop}{s:Shared}{K:Frag}{e C CV:Addr}{Q:Bool→Shared→Prop}(X:K.In s.heap)(he:OfC s.heap e C)(hc:(clsIn K CV).isSome=true)(hT:typeIn K (.ref CV)=some (.type "type"))(hB:mroIn K CV (.type "BaseException")=some true)(hS:mroIn K C (.ref CV)=some true)(hq:Q true s):wpAny M A (excMatches (.ref e) (.ref CV)) Q E s:=by
  obtain ⟨h,g,d,t,os⟩:=s
  have L0:=ofC_ty (M:=M) he
  have L1:=looks_typeIn (M:=M) X hT
  have L2:=looks_mroIn (M:=M) X hB
  have L3:=looks_mroIn (M:=M) X hS
  obtain ⟨cdD,hcD⟩:=Option.isSome_iff_exists.mp hc
  unfold clsIn at hcD
  split at hcD
  · rename_i c' d' cd' sl' ho
    have hCV:h.get? CV=_:=X _ _ ho
    unfold excMatches
    repeat lk
    exact hq
  · cases hcD
structure Catch (K:PySem.W.Frag)(mg:Str→Option Value)(x:Str)(CV C:Addr):Prop where
  bound:mg x=some (.ref CV)
  hc:(clsIn K CV).isSome=true
  hT:typeIn K (.ref CV)=some (.type "type")
  hB:mroIn K CV (.type "BaseException")=some true
  hS:mroIn K C (.ref CV)=some true
def XOkZ (X:Cx)(H0:Hp)(C:Addr)(pins:List (Addr×Obj))(σ:St)(y:Bool:=false):Prop:=∀H s e s',Inv X pins σ H s→CXE X.prog X.w X.stack H s (fun c x H'=>c = .ref C∧(y=false→x=none)∧Same H0 H') e s'→X.xe e s'
theorem XOkZ.mono {X:Cx}{H0 H:Hp}{C:Addr}{pins:List (Addr×Obj)}{σ:St}{y:Bool}(h:XOkZ X H0 C pins σ y)(g:Same H0 H):XOkZ X H C pins σ y:=
  fun H1 s e s' I x=>h H1 s e s' I (cxe_imp x fun c _ H' ⟨z1,z3,z2⟩=>⟨z1,z3,g.trans z2⟩)
def EvZ (X:Cx)(e:Expr)(δ:List (Option D))(C:Addr)(y:Bool:=false):Prop:=∀σ H L pins s,LOk L H→EnvR X.K H L δ σ→XOkZ X H C pins σ y→Inv X pins σ H s→wpAny (model X.prog X.w) X.A (eval e X.env) (fun _ _=>False) X.xe s
def BlkZ (X:Cx)(sts:List Stmt)(δ:List En)(C:Addr)(y:Bool:=false):Prop:=∀H0 L0 σ H L pins s,LOk L0 H0→StR X.K H0 L0 δ σ H L→XOkZ X H0 C pins σ y→Inv X pins σ H s→wpAny (model X.prog X.w) X.A (execs sts X.env) (fun _ _=>False) X.xe s
def cxH (X:Cx)(a:Addr)(oa:Obj):Cx:={ X with A:=X.A.mark (some (.ref a)),calm:=false,pn:=X.pn ++ [(a,oa)],xe:=fun _ _=>False }
theorem inv_H {X:Cx}{pins:List (Addr×Obj)}{σ:St}{H:Hp}{s:Shared}{a:Addr}{oa:Obj}(I:Inv X pins σ H s)(ha:s.heap.get? a=some oa)(hH:H a=none)(hL:a ≠ X.env.locals)(hf:a ∉ X.fs)(hd:∀v,oa.data ≠ .cell v):Inv (cxH X a oa) pins σ H s:=by
  refine ⟨⟨I.ok.mod,I.ok.kind,I.ok.glob,I.ok.blt,I.ok.above,I.ok.inj,I.ok.has,I.ok.cab,(fun z=>by cases z),I.ok.frames,I.ok.stk,I.ok.exf,I.ok.bs,I.ok.bsz,I.ok.noex,I.ok.exfs,I.ok.funs,I.ok.frf⟩,I.os,I.bare,I.base,I.loc,I.cell,I.free,I.freeC,fun p hp=>?_,I.hok,I.len⟩
  have hp':p∈(X.pn ++ [(a,oa)])++pins:=hp
  rcases List.mem_append.mp hp' with h | h
  · rcases List.mem_append.mp h with h | h
    · exact I.pin p (List.mem_append_left _ h)
    · rw [List.mem_singleton] at h
      subst h
      exact ⟨ha,hH,hL,hf,hd⟩
  · exact I.pin p (List.mem_append_right _ h)
theorem inv_back {X:Cx}{pins:List (Addr×Obj)}{σ:St}{H:Hp}{s:Shared}{a:Addr}{oa:Obj}(ok:X.Ok)(I:Inv (cxH X a oa) pins σ H s):Inv X pins σ H s:=
  ⟨ok,I.os,I.bare,I.base,I.loc,I.cell,I.free,I.freeC,fun p hp=>I.pin p (by
    show p∈(X.pn ++ [(a,oa)])++pins
    rcases List.mem_append.mp hp with h | h
    · exact List.mem_append_left _ (List.mem_append_left _ h)
    · exact List.mem_append_right _ h),I.hok,I.len⟩
def Suite (X:Cx)(sts:List Stmt)(δ δ':List En)(j:Nat)(C:Addr):Prop:=∀a oa,oa.cls=Value.ref C→∀H0 L0 σ H L E,LOk L0 H0→StR X.K H0 L0 δ σ H L→σ[j]? = some (some (.ref a)) →
  (∀σ' H' L',StR X.K H0 L0 δ' σ' H' L'→E.nx σ' H')→WB (cxH X a oa) sts E σ H
theorem unbind_ok {X:Cx}{M:Model}{A:Around}{E:Value→Shared→Prop}{pins:List (Addr×Obj)}{σ:St}{H:Hp}{s:Shared}{i:Nat}{x:Str}{pos:Pos}{Q:Unit→Shared→Prop}(I:Inv X pins σ H s)(hN:X.N.Nodup)(hi:X.N[i]? = some x)(hk:X.env.scope.names.lookup x=some .local)(h:∀s',Inv X pins (σ.set i none) H s'→Q () s'):wpAny M A (do bindName X.env x .none; unbindBehindTheSuite X.env x pos) Q E s:=by
  obtain ⟨m,hn,hl⟩:=id I.loc
  have hcls:(X.env.scope.kind == .class || (X.env.scope.kind == .module && X.env.locals != X.env.globals))=false:=by rw [I.ok.kind]; rfl
  have cne:=I.cne
  refine wpAny_nameGoes_keeps hk hn hcls fun h' v hn' hs=>?_
  obtain ⟨oL,_,_,hoL,_⟩:=id hn
  have tracked:HOk X.prog X.w H h':=fun b ob e=>by
    refine (I.hok b ob e).stay (fun c w' hc q=>(hs.2 c ?_).trans q) (fun _ q=>q) fun _ _ q=>q
    rintro rfl
    rcases hc with rfl | hc
    · rw [I.free] at e; cases e
    · rw [I.free] at hc; cases hc
  refine h _ ⟨I.ok,I.os,I.bare,⟨fun b o e n hb hx=>?_,fun b o e n hb hx=>?_,I.base.free,fun b o e hx=>?_,I.base.tups,I.base.frzs,I.base.tbls⟩,⟨_,hn',fun j y v' e1 e2 e3=>?_⟩,fun y c e=>?_,I.free,I.freeC,fun p hp=>?_,tracked,by simpa using I.len⟩
  · exact (hs.2 b (Nat.ne_of_lt (Nat.lt_of_lt_of_le (Heap.lt_size e) I.ok.above))).trans (I.base.keep b o e n hb hx)
  · obtain ⟨sl,e1⟩:=I.base.slot b o e n hb hx
    exact ⟨sl,(hs.2 b (Nat.ne_of_lt (Nat.lt_of_lt_of_le (Heap.lt_size e) I.ok.above))).trans e1⟩
  · obtain ⟨o',e1⟩:=I.base.there b o e hx
    exact ⟨o',(hs.2 b (Nat.ne_of_lt (Nat.lt_of_lt_of_le (Heap.lt_size e) I.ok.above))).trans e1⟩
  · by_cases hj:j=i
    · subst hj
      have:(σ.set j none)[j]? ≠ some (some v'):=by
        rw [List.getElem?_set]
        split
        · split <;> simp
        · rename_i z; exact absurd rfl z
      exact absurd e2 this
    · rw [List.getElem?_set_ne (Ne.symm hj)] at e2
      obtain ⟨u',r',q⟩:=hl j y v' e1 e2 e3
      refine ⟨u',r',?_⟩
      rcases q with ⟨k,e⟩ | ⟨k,c,e,z⟩
      · refine .inl ⟨k,?_⟩
        have:y ≠ x:=fun e=>hj (nodup_ix hN e1 (e ▸ hi))
        simp [this,e]
      · exact .inr ⟨k,c,e,z.sameBut hs (cne y c e)⟩
  · obtain ⟨w',z⟩:=I.cell y c e
    exact ⟨w',z.sameBut hs (cne y c e)⟩
  · obtain ⟨e,n,ne,nf,d⟩:=I.pin p hp
    exact ⟨(hs.2 p.1 ne).trans e,n,ne,nf,d⟩
end DL
namespace DL
open PySem PySem.Spec PyProof.Rows L2 PySem.W PySem.Calls
section
variable {K:PySem.W.Frag}{H0 H H':Hp}{L0 L L':Addr→Prop}{δ δ':List En}{σ:St}
theorem StR.any {j:Nat}{v:Option V}(s:StR K H0 L0 δ σ H L)(hj:∀e,δ[j]? = some e→e = .no):StR K H0 L0 δ (σ.set j v) H L:=by
  refine ⟨s.sub,s.new,s.lok,s.same,⟨by rw [List.length_set]; exact s.env.len,fun i d h=>?_,fun i ds h=>?_,fun i k ds ds' a hik h1 h2 h3=>?_⟩⟩
  · have:j ≠ i:=fun z=>by subst z; cases hj _ h
    rw [List.getElem?_set_ne this]
    exact s.env.dat i d h
  · have:j ≠ i:=fun z=>by subst z; cases hj _ h
    rw [List.getElem?_set_ne this]
    exact s.env.own i ds h
  · have e1:j ≠ i:=fun z=>by subst z; cases hj _ h1
    have e2:j ≠ k:=fun z=>by subst z; cases hj _ h2
    rw [List.getElem?_set_ne e1] at h3
    rw [List.getElem?_set_ne e2]
    exact s.env.apart i k ds ds' a hik h1 h2 h3
theorem StR.here (s:StR K H0 L0 δ σ H L)(hno:∀ (i:Nat) ds,δ[i]? ≠ some (.ow ds)):StR K H L δ σ H L:=
  ⟨fun _ z=>z,fun _ z=>.inl z,s.lok,Same.refl _,⟨s.env.len,s.env.dat,fun i ds h=>absurd h (hno i ds),fun i j ds ds' a hij h1=>absurd h1 (hno i ds)⟩⟩
theorem StR.rebase (s:StR K H0 L0 δ σ H L){σ':St}(t:StR K H L δ' σ' H' L'):StR K H0 L0 δ' σ' H' L':=by
  refine ⟨fun a z=>t.sub a (s.sub a z),fun a z=>?_,t.lok,s.same.trans t.same,⟨t.env.len,t.env.dat,fun i ds h=>?_,t.env.apart⟩⟩
  · rcases t.new a z with z | ⟨z,xs,e⟩
    · exact (s.new a z).imp id fun ⟨e1,xs,e2⟩=>⟨e1,xs,t.same _ _ e2⟩
    · exact .inr ⟨s.same.free z,xs,e⟩
  · obtain ⟨a,vs,q1,q2,q3,q4,q5⟩:=t.env.own i ds h
    exact ⟨a,vs,q1,q2,s.same.free q3,q4,q5⟩
end
theorem st_tryE {y:Bool}{X:Cx}{body suite:List Stmt}{b₀:Stmt}{xv en:Str}{np hpos pos:Pos}{δ δ':List En}{C CV:Addr}(j:Nat)(hcat:Catch X.K X.mg xv CV C)(hb:∀E',BlkZ (X.wish E') body δ C y)(hS:Suite X (b₀::suite) δ δ' j C)(hδ:∀e,δ[j]? = some e→e = .no)(hno:∀ (i:Nat) ds,δ[i]? ≠ some (.ow ds))(hN:X.N.Nodup)(hst:X.stack=X.env::X.outer)(hfr:X.env.frame=some X.env.locals)(hi:X.N[j]? = some en:=by rfl)(hk:X.env.scope.names.lookup en=some .local:=by rfl)(hg:Gl X xv:=by rfl)(hd:(xv == ("__debug__" : Str))=false:=by decide) :
    Stm X (.Try body [.ExceptHandler (some (.Name xv np)) (some en) (b₀::suite) hpos] [] [] pos) δ (.nx (δ'.set j .no)):=fun H0 L0 σ H L E l sr k pins s I=>by
  refine wpAny_Try_except ?_
  have sh:=sr.here hno
  refine wpAny_mono (hb (fun e s₁=>wpAny (model X.prog X.w) X.A (noteFrame e X.env) (fun _ s₂=>wpAny (model X.prog X.w) X.A (setFlight e none) (fun _ s₃=>wpAny (model X.prog X.w) X.A (handleBy e X.env [.ExceptHandler (some (.Name xv np)) (some en) (b₀::suite) hpos]) (SP X pins E) X.xe s₃) X.xe s₂) X.xe s₁) H L σ H L pins s sr.lok sh ?_ (I.wish _)) (fun _ _ z=>z.elim) (fun _ _ z=>z)
  intro H1 s1 e s' I1' hx
  obtain ⟨a,cls,a0,B,H2,rfl,hfl,os,bare,un,hok,cov,trk,xx,hg0,rfl,hx0,sm⟩:=hx
  have I1:Inv X pins σ H1 s1:=I1'.unwish
  have hfl:Heap.FlyingW B (X.env::X.outer) a (.ref C) a0 s'.heap:=hst ▸ hfl
  have hframes:X.A.frames=some (X.env::X.outer):=hst ▸ I.ok.frames
  have fr:∀b∈frs X.stack,∀o,s'.heap.get? b=some o→∀vs,o.data ≠ .fields vs:=fun b hb o q=>by
    rw [hst] at hb
    obtain ⟨_,o',q',hd'⟩:=hfl.2.2.1.mem hb
    rw [q] at q'
    cases q'
    exact hd'
  have back:∀h2:Heap,B.StaysIn h2→s'.heap.UpToSlots h2→Inv X pins σ H2 { s' with heap:=h2 }:=fun h2 hB hs2 =>
    I1.call' (s':={ s' with heap:=h2 }) os (un_on un (fun _ _ _ z=>z) cov hfl.1 hB hs2 fr) (hok_on hok trk hfl.1 hB) bare (fun b z=>absurd z (by simp))
  have hH2:H2 a=none:=by
    cases q:H2 a with
    | none=>rfl
    | some o =>
      obtain ⟨o',hB⟩:=trk a o q
      rw [hfl.2.1] at hB
      cases hB
  have facts:∀h2:Heap,Heap.FlyingW B (X.env::X.outer) a (.ref C) a0 h2→∃oa,h2.get? a=some oa∧oa.cls = .ref C∧(∀v,oa.data ≠ .cell v)∧a ≠ X.env.locals∧a ∉ X.fs:=fun h2 hf=>by
    obtain ⟨_,_,ff,oe,vs,_,_,_,he,hc,hdd,_⟩:=hf
    have nfr:∀b∈frs (X.env::X.outer),b ≠ a:=fun b hb z=>by
      subst z
      obtain ⟨_,o',q',hd'⟩:=ff.mem hb
      rw [he] at q'
      cases q'
      exact hd' vs hdd
    refine ⟨oe,he,hc.1,fun v z=>?_,fun z=>nfr _ (List.mem_filterMap.mpr ⟨X.env,List.mem_cons_self,hfr⟩) z.symm,fun z=>?_⟩
    · rw [hdd] at z; cases z
    · obtain ⟨env,he',hf'⟩:=List.mem_filterMap.mp z
      exact nfr a (List.mem_filterMap.mpr ⟨env,List.mem_cons_of_mem _ he',hf'⟩) rfl
  refine wpAny_looks_onW hframes hfr hfl fun h1 hheld hs1=>?_
  refine wpAny_landsW hheld fun h2 hfl2 hs2=>?_
  have I3:=back h2 hfl2.1 (hs1.trans hs2)
  obtain ⟨oa,e1,e2,e3,e4,e5⟩:=facts h2 hfl2
  refine wpAny_handleBy_cons (codeAny_handlers_test ?_) (by intro q; cases q)
  refine ld_glob (X:=cxH X a oa) (inv_H I3 e1 hH2 e4 e5 e3) hg hcat.bound ?_ hd
  refine excM (C:=C) I3.kIn ⟨oa,e1,e2⟩ hcat.hc hcat.hT hcat.hB hcat.hS ?_
  refine codeAny_handlers_suite_as ?_
  refine lands_againW (s:={ s' with heap:=h2 }) hfl2 fun h3 hfl3 hs3=>?_
  have I4:=back h3 hfl3.1 ((hs1.trans hs2).trans hs3)
  obtain ⟨ob,f1,f2,f3,f4,f5⟩:=facts h3 hfl3
  refine store_ok2 I4 hN hi (.inl hk) (v:=.ref a) (u:=.ref a) rfl (fun s5 I5 ⟨c,hsb,hc⟩=>?_) (.inr hk)
  have hca:c ≠ a:=by
    rcases hc with rfl | hc
    · exact fun z=>f4 z.symm
    · obtain ⟨v,oc,hoc,hdc⟩:=I4.cell en c hc
      intro z
      subst z
      have:ob=oc:=Option.some.inj (f1.symm.trans hoc)
      subst this
      exact f3 v hdc
  have e1':s5.heap.get? a=some ob:=(hsb.2 a (fun z=>hca z.symm)).trans f1
  have I5H:=inv_H I5 e1' hH2 f4 f5 f3
  have lenj:j < σ.length:=by rw [I.len]; exact (List.getElem?_eq_some_iff.mp hi).1
  have hsu:=hS a ob f2 H L (σ.set j (some (.ref a))) H2 L { nx:=fun σ' H'=>∃L',StR X.K H L δ' σ' H' L',rt:=fun _ _=>False } sr.lok ((sh.grow sm).any hδ) (List.getElem?_set_self lenj) (fun σ' H' L' st=>⟨L',st⟩) pins s5 I5H
  refine wpAny_mono hsu (fun fl s6 q=>?_) fun _ _ z=>z.elim
  cases fl with
  | next =>
    obtain ⟨σ',H',I6,L',st⟩:=q
    have I7:=inv_back I.ok I6
    refine unbind_ok I7 hN hi hk fun s7 I8=>?_
    refine ⟨_,H',I8,k _ H' L' ?_ ⟨.of st.same,st.sub,fun b z=>(st.new b z).imp id And.left⟩⟩
    exact ((sr.rebase st).forget j).any (fun e he=>by
      rcases set_get he with ⟨_,z,_⟩ | ⟨z,_⟩
      · exact z.symm
      · exact absurd rfl z)
  | brk=>obtain ⟨_,_,_,z⟩:=q; exact z.elim
  | cont=>obtain ⟨_,_,_,z⟩:=q; exact z.elim
  | ret u=>obtain ⟨_,_,_,_,_,z⟩:=q; exact z.elim
end DL
namespace DL
open PySem PySem.Spec PyProof.Rows L2 PySem.W PySem.Calls
def EvJ (Y:Cx)(j:Nat)(a:Addr)(e:Expr)(δ:List (Option D))(d:D):Prop:=∀ (σ:St) (H:Hp) (L:Addr→Prop) (Q:VK),LOk L H→EnvR Y.K H L δ σ→σ[j]? = some (some (.ref a))→(∀v H',Same H H'→Rep Y.K H' L d v→Q v H')→WE Y e σ H Q
def EvJA (Y:Cx)(j:Nat)(a:Addr)(es:List Expr)(δ:List (Option D))(ds:List D):Prop:=∀ (σ:St) (H:Hp) (L:Addr→Prop) (Q:List V→Hp→Prop),LOk L H→EnvR Y.K H L δ σ→σ[j]? = some (some (.ref a))→(∀vs H',Same H H'→Reps Y.K H' L ds vs→Q vs H')→WA Y es σ H Q
section
variable {Y:Cx}{j:Nat}{a D0:Addr}{oa:Obj}{e e':Expr}{es:List Expr}{δ:List (Option D)}{d:D}{ds ds':List D}{pos p p1 p2 py:Pos}{x c:Str}{b:Bool}
theorem evj_of (h:Ev Y e δ d):EvJ Y j a e δ d:=fun σ H L Q l r _ k=>h σ H L Q l r k
theorem call_isiE (hp:(a,oa)∈Y.pn)(hcl:oa.cls = .ref D0)(z:ErrI Y.K D0):CallR Y (.builtin "isinstance") (fun xs H Q=>∃ (v:V) (u:Value) (b:Bool),xs = [.ref a,v]∧(∀u',RelV v u'→u'=u)∧kitOne Y.K (.ref D0) u=some b∧Q (.bl b) H):=by
  intro pins s σ H xs us Q I r h
  obtain ⟨v,u,b,rfl,hu,hk,q⟩:=h
  cases r with
  | cons r1 r2 =>
    cases r2 with
    | cons r3 r4 =>
      cases r4
      cases r1
      obtain rfl:=hu _ r3
      exact isiE I hp hcl z hk fun tk=>⟨.bl b,H,I.kept (h':=s.heap) (t':=tk) fun _ _ q=>q,rfl,q⟩
theorem evj_isi (hp:(a,oa)∈Y.pn)(hcl:oa.cls = .ref D0)(z:ErrI Y.K D0){C':Addr}(hm:Y.mg c=some (.ref C'))(hk:kitOne Y.K (.ref D0) (.ref C')=some b)(hmi:Y.mg "isinstance" = none)(hN:Y.N[j]? = some x:=by rfl)(hv:Vis Y.env.scope x:=by first | exact Or.inl rfl | exact Or.inr (Or.inl rfl) | exact Or.inr (Or.inr rfl))(hd:(x == ("__debug__" : Str))=false:=by decide)(hcd:(x == ("__classdict__" : Str))=false:=by decide)(hg1:Gl Y "isinstance" := by rfl)(hg2:Gl Y c:=by rfl)(hd2:(c == ("__debug__" : Str))=false:=by decide)(he:starEach [.Name x p1,.Name c p2] Y.env = [(false,eval (.Name x p1) Y.env),(false,eval (.Name c p2) Y.env)]:=by rfl)(he2:starEach [.Name c p2] Y.env = [(false,eval (.Name c p2) Y.env)]:=by rfl):EvJ Y j a (.Call (.Name "isinstance" p) [.Name x p1,.Name c p2] [] pos) δ (.bl b):=fun σ H L Q l r hj q=>by
  refine we_of (pe_callB (call_isiE hp hcl z) hg1 hmi boot_isi (pa_cons (pe_var hN hv hd hcd) (pa_cons (pe_glob (v:=.ref C') hg2 hm rfl hd2) pa_nil he2) (by rw [he,he2])) (he:=by rw [he,he2])) ?_
  exact ⟨_,hj,_,_,_,rfl,fun u' hu=>hu,hk,q _ H (Same.refl _) (rep_bl.mpr rfl)⟩
theorem evj_isiB {T:String}(hp:(a,oa)∈Y.pn)(hcl:oa.cls = .ref D0)(z:ErrI Y.K D0)(hm:Y.mg c=none)(hb:bootBuiltins c=some (.type T))(hk:kitOne Y.K (.ref D0) (.type T)=some b)(hmi:Y.mg "isinstance" = none)(hN:Y.N[j]? = some x:=by rfl)(hv:Vis Y.env.scope x:=by first | exact Or.inl rfl | exact Or.inr (Or.inl rfl) | exact Or.inr (Or.inr rfl))(hd:(x == ("__debug__" : Str))=false:=by decide)(hcd:(x == ("__classdict__" : Str))=false:=by decide)(hg1:Gl Y "isinstance" := by rfl)(hg2:Gl Y c:=by rfl)(hn:c ≠ "__name__" := by decide)(hd2:(c == ("__debug__" : Str))=false:=by decide)(he:starEach [.Name x p1,.Name c p2] Y.env = [(false,eval (.Name x p1) Y.env),(false,eval (.Name c p2) Y.env)]:=by rfl)(he2:starEach [.Name c p2] Y.env = [(false,eval (.Name c p2) Y.env)]:=by rfl):EvJ Y j a (.Call (.Name "isinstance" p) [.Name x p1,.Name c p2] [] pos) δ (.bl b):=fun σ H L Q l r hj q=>by
  refine we_of (pe_callB (call_isiE hp hcl z) hg1 hmi boot_isi (pa_cons (pe_var hN hv hd hcd) (pa_cons (pe_bltn (v:=.ty T) hg2 hm hb rfl hn hd2) pa_nil he2) (by rw [he,he2])) (he:=by rw [he,he2])) ?_
  exact ⟨_,hj,_,_,_,rfl,fun u' hu=>hu,hk,q _ H (Same.refl _) (rep_bl.mpr rfl)⟩
theorem evja_nil:EvJA Y j a [] δ []:=fun σ H L Q l r _ q=>wa_of pa_nil (q [] H (Same.refl _) Reps.nil)
theorem evja_cons (h:EvJ Y j a e δ d)(hr:EvJA Y j a es δ ds)(hs:starEach (e::es) Y.env=(false,eval e Y.env)::starEach es Y.env:=by rfl):EvJA Y j a (e::es) δ (d::ds):=fun σ H L Q l r hj q =>
  wa_of (pa_cons pe_we pa_wa hs) (h σ H L _ l r hj fun v H1 g rv=>hr σ H1 L _ (l.same g) (r.same g) hj fun vs H2 g2 rs=>q _ H2 (g.trans g2) (Reps.cons (rv.same g2) rs))
theorem evj_lst (h:EvJA Y j a es δ ds)(hz:ds.length≤1000:=by decide):EvJ Y j a (.List es pos) δ (.lst ds):=fun σ H L Q l r hj q=>by
  refine we_of (pe_lst pa_wa) (h σ H L _ l r hj fun vs H1 g rs=>⟨by rw [← rs.length]; exact Nat.le_of_lt (small1000 hz),fun p hp=>q _ _ (g.trans (same_upd hp)) (rep_lst.mpr ⟨p,vs,rfl,.of ((l.same g).fresh hp) upd_same,rs.same (same_upd hp)⟩)⟩)
theorem evj_cat (ha:EvJ Y j a e δ (.lst ds))(hb:EvJ Y j a e' δ (.lst ds'))(hz:ds.length+ds'.length≤1000):EvJ Y j a (.BinOp e .Add e' pos) δ (.lst (ds++ds')):=fun σ H L Q l r hj q=>by
  refine we_of (pe_op op_catL pe_we pe_we) (ha σ H L _ l r hj fun v H1 g rv=>hb σ H1 L _ (l.same g) (r.same g) hj fun v2 H2 g2 rv2=>?_)
  obtain ⟨q1,us,rfl,hq,hr⟩:=rep_lst.mp (rv.same g2)
  obtain ⟨q2,ws,rfl,hq2,hr2⟩:=rep_lst.mp rv2
  refine ⟨q1,q2,us,ws,rfl,rfl,hq.sq,hq2.sq,by rw [← hr.length,← hr2.length]; exact Nat.le_of_lt (small1000 hz),fun p hp=>q _ _ ((g.trans g2).trans (same_upd hp)) (rep_lst.mpr ⟨p,_,rfl,.of (((l.same g).same g2).fresh hp) upd_same,(hr.same (same_upd hp)).append (hr2.same (same_upd hp))⟩)⟩
end
def SuiteB (Y:Cx)(j:Nat)(a:Addr)(sts:List Stmt)(δ δ':List En):Prop:=∀H0 L0 σ H L E,LOk L0 H0→StR Y.K H0 L0 δ σ H L→σ[j]? = some (some (.ref a))→(∀σ' H' L',StR Y.K H0 L0 δ' σ' H' L'→E.nx σ' H')→WB Y sts E σ H
section
variable {Y:Cx}{j:Nat}{a:Addr}{e:Expr}{δ δ':List En}{d:D}{pos py:Pos}{x:Str}{rest:List Stmt}
theorem sj_nil:SuiteB Y j a [] δ δ:=fun H0 L0 σ H L E l s _ k=>wb_of pss_nil (k σ H L s)
theorem sj_set (i:Nat)(hij:i ≠ j)(h:EvJ Y j a e (hid δ) d)(hr:SuiteB Y j a rest (δ.set i (.da d)) δ')(hN:Y.N.Nodup)(hi:Y.N[i]? = some x:=by rfl)(hx:Loc Y.env.scope x:=by first | exact Or.inl rfl | exact Or.inr rfl)(hf:Y.fn x=true∨Y.env.scope.names.lookup x=some .local:=by first | exact Or.inl rfl | exact Or.inr rfl)(hs:swapsWith e (some (.Name x py)) pos.line Y.env=pure false:=by rfl):SuiteB Y j a (.Assign [.Name x py] e pos::rest) δ δ':=fun H0 L0 σ H L E l s hj k=>by
  refine wb_of (pss_cons (ps_set hN hi hx pe_we hs hf) pss_wb) (h σ H L _ s.lok s.hidR hj fun v H' g r=>?_)
  exact hr H0 L0 _ H' L E l ((s.grow g).setD r) (by rw [List.getElem?_set_ne hij]; exact hj) k
end
theorem st_tryN {X:Cx}{body:List Stmt}{h₀:ExceptHandler}{hs:List ExceptHandler}{pos:Pos}{δ δ':List En}(hb:∀E',Blk (X.wish E') body δ (.nx δ')):Stm X (.Try body (h₀::hs) [] [] pos) δ (.nx δ'):=fun H0 L0 σ H L E l sr k pins s I=>by
  refine wpAny_Try_except ?_
  refine wpAny_mono (hb (fun e s₁=>wpAny (model X.prog X.w) X.A (noteFrame e X.env) (fun _ s₂=>wpAny (model X.prog X.w) X.A (setFlight e none) (fun _ s₃=>wpAny (model X.prog X.w) X.A (handleBy e X.env (h₀::hs)) (SP X pins E) X.xe s₃) X.xe s₂) X.xe s₁) H0 L0 σ H L { nx:=E.nx,rt:=fun _ _=>False } l sr (fun σ' H' L' s' x'=>k σ' H' L' s' x') pins s (I.wish _)) (fun f s1 q=>?_) (fun _ _ z=>z)
  cases f with
  | next =>
    obtain ⟨σ',H',I',q⟩:=q
    exact wpAny_execs_nil ⟨σ',H',I'.unwish,q⟩
  | brk=>obtain ⟨_,_,_,z⟩:=q; exact z.elim
  | cont=>obtain ⟨_,_,_,z⟩:=q; exact z.elim
  | ret u=>obtain ⟨_,_,_,_,_,z⟩:=q; exact z.elim
end DL
namespace DL
open PySem PySem.Spec PyProof.Rows L2 PySem.W PySem.Calls
structure InsI (K:PySem.W.Frag)(C:Addr):Prop where
  cl:Cls K C
  ha:findIn K (.ref C) "__class__" = some (some (.builtin "object.__class__"))
  hn:specialIn K (.builtin "object.__class__") "__get__" = some (some (.builtin "getset_descriptor.__get__"))
  htk:takesIn K (.builtin "object.__class__")=some true
  hm:mroIn K C (.type "object")=some true
section
variable {X:Cx}{δ:List (Option D)}{a:Expr}{C C':Addr}{ks:List Str}{fs:List D}{k:Bool}{pos p p2:Pos}{c:Str}
theorem call_isiC (z:InsI X.K C):CallR X (.builtin "isinstance") (fun xs H Q=>∃L v b,xs = [v,.ref C']∧LOk L H∧Rep X.K H L (.ins C ks fs) v∧kitOne X.K (.ref C) (.ref C')=some b∧Q (.bl b) H):=by
  intro pins s σ H xs us Q I r h
  obtain ⟨L,v,b,rfl,l,rp,hk,q⟩:=h
  obtain ⟨u,u',rfl,r1,r2⟩:=vals2 r
  obtain rfl:u'=Value.ref C':=r2
  obtain ⟨q1,dx,vs,rfl,n,hH,hl,hrs⟩:=rep_ins.mp rp
  exact isinst_ok I r1 (.ins hH z.cl z.ha z.hn z.htk z.hm) hk fun tk=>⟨.bl b,H,I.tok _,rfl,q⟩
theorem ev_isiC (h:Ev X a δ (.ins C ks fs))(z:InsI X.K C)(hk:kitOne X.K (.ref C) (.ref C')=some k)(hmi:X.mg "isinstance" = none)(hm:X.mg c=some (.ref C'))(hg1:Gl X "isinstance" := by rfl)(hg2:Gl X c:=by rfl)(hd:(c == ("__debug__" : Str))=false:=by decide)(he:starEach [a,.Name c p2] X.env = [(false,eval a X.env),(false,eval (.Name c p2) X.env)]:=by rfl):Ev X (.Call (.Name "isinstance" p) [a,.Name c p2] [] pos) δ (.bl k):=fun σ H L Q l r q=>by
  refine we_of (pe_callB (call_isiC (C':=C') (ks:=ks) (fs:=fs) z) hg1 hmi boot_isi (pa_cons pe_we (pa_cons (pe_glob (v:=.ref C') hg2 hm rfl hd) pa_nil) he) (he:=he)) ?_
  exact h σ H L _ l r fun v H1 s1 r1=>⟨L,v,k,rfl,l.same s1,r1,hk,q _ H1 s1 (rep_bl.mpr rfl)⟩
end
end DL
namespace DL
open PySem PySem.Spec PyProof.Rows L2 PySem.W PySem.Calls
section
variable {X:Cx}{δ:List En}{m:Bool}{e:Expr}{pos py:Pos}{x:Str}{rest:List Stmt}{C:Addr}{d:D}
theorem blkx_set (i:Nat)(h:Ev X e (hid δ) d)(hr:BlkX X m rest (δ.set i (.da d)) C)(hN:X.N.Nodup)(hi:X.N[i]? = some x:=by rfl)(hx:Loc X.env.scope x:=by first | exact Or.inl rfl | exact Or.inr rfl)(hf:X.fn x=true∨X.env.scope.names.lookup x=some .local:=by first | exact Or.inl rfl | exact Or.inr rfl)(hs:swapsWith e (some (.Name x py)) pos.line X.env=pure false:=by rfl):BlkX X m (.Assign [.Name x py] e pos::rest) δ C:=fun H0 L0 σ H L E l s k =>
  wb_of (pss_cons (ps_set hN hi hx pe_we hs hf) pss_wb) (h σ H L _ s.lok s.hidR fun v H' g r=>hr H0 L0 _ H' L E l ((s.grow g).setD r) k)
end
section
variable {X:Cx}{δ:List En}{pos py:Pos}{x:Str}{rest:List Stmt}{o:Out}
theorem blk_map {α:Type}{ks:List α}{g f:α→D}{ds:List D}{elt iter:Expr}{y:Str}{px cpos:Pos}{scope:Scope}{N₁:List Str}{δ₁:List (Option D)}(i:Nat)(O:CompOk X scope y N₁)(hw:Weak X N₁ (hid δ) δ₁)(hi:EvI X (.Name y px) iter (hid δ) (ks.map g))(hz:ks.length≤1000)(he:∀k∈ks,∀cl C s₀ H₀ fp,Ev (cxComp X scope (y::N₁) cl C s₀ H₀ fp) elt (some (g k)::δ₁) (f k))(hds:ks.map f=ds)(hr:Blk X rest (δ.set i (.da (.lst ds))) o)(hN:X.N.Nodup)(hx0:X.N[i]? = some x:=by rfl)(hx:X.env.scope.names.lookup x=some .local:=by rfl)(hsw:swapsWith (.ListComp elt [⟨.Name y px,iter,[],0⟩] scope cpos) (some (.Name x py)) pos.line X.env=pure true:=by rfl)(hs:∀x,foldedSetIterable iter X.env x=pure x:=by intro _; rfl) :
    Blk X (.Assign [.Name x py] (.ListComp elt [⟨.Name y px,iter,[],0⟩] scope cpos) pos::rest) δ o:=
  blk_comp (q:=fun _=>true) i O hw hi hz (fun _ _ _ _ _ _ _=>ets_nil) (fun k hk _=>he k hk) (by rw [List.filter_eq_self.mpr fun _ _=>rfl,hds]; exact hr) hN hx0 hx hsw hs
end
end DL
namespace DL
open PySem PySem.Spec PyProof.Rows L2 PySem.W PySem.Calls
section
variable {X:Cx}{δ:List (Option D)}{a b e o:Expr}{es:List Expr}{pos p apos:Pos}{x y:Str}{k:Nat}{ι:Type}{Ar:ι→List D}{Pre:ι→Prop}{C D0:Addr}{ds:List D}
theorem evz_make {yy:Bool}(F:RMk X.prog X.w X.K X.mg X.base x D0 k Ar Pre C)(i:ι)(hr:Room (k+1) X.A)(ha:EvA X (e::es) δ ds)(hp:Pre i)(hA:Ar i=ds:=by rfl)(hg:Gl X x:=by rfl)(hdb:(x == ("__debug__" : Str))=false:=by decide)(he:starEach (e::es) X.env=(false,eval e X.env)::starEach es X.env:=by rfl)(hpl:(backTo pos (starEach es X.env)).any (·.1)=false:=by rfl):EvZ X (.Call (.Name x p) (e::es) [] pos) δ C yy:=fun σ H L pins s l r q I=>by
  obtain ⟨f,fd,ps,F,M,hm,hb⟩:=F.ex
  refine wpAny_Call_Name_kw (ld_glob I hg hm ?_ hdb)
  refine PySem.W.callWith_K (h₀:=X.base) I.ok.mod.kin M.kp (thn (ha σ H L (fun vs H1=>Same H H1∧Reps X.K H1 L ds vs) l r (fun vs H1 g rs=>⟨g,rs⟩) pos pins s I) fun us s1 ⟨vs,H1,I1,rv,s1',r1⟩=>⟨I1.kIn,?_⟩) he hpl
  have hA0:H1 (s1.heap.objs.size+1)=none:=I1.hok.fresh (Nat.le_succ _)
  have hD0:H1 s1.heap.objs.size=none:=I1.hok.fresh (Nat.le_refl _)
  have hne:s1.heap.objs.size ≠ s1.heap.objs.size+1:=Nat.ne_of_lt (Nat.lt_succ_self _)
  have I2:=Inv.made (C:=D0) I1
  have g1:Same H1 (upd H1 s1.heap.objs.size (.own (s1.heap.objs.size+1))):=same_upd hD0
  have g2:Same H1 (upd (upd H1 s1.heap.objs.size (.own (s1.heap.objs.size+1))) (s1.heap.objs.size+1) (.ins D0 s1.heap.objs.size [])):=g1.trans (same_upd (by rw [upd_ne (fun z=>hne z.symm)]; exact hA0))
  have lk:LOk (fun b=>L b∨b=s1.heap.objs.size+1) (upd (upd H1 s1.heap.objs.size (.own (s1.heap.objs.size+1))) (s1.heap.objs.size+1) (.ins D0 s1.heap.objs.size [])):=fun b z=>by
    rcases z with z | z
    · exact ((l.same s1').same g2) b z
    · rw [z,upd_same]; exact fun z=>nomatch z
  have sp:RaiseIn X.K D0 Ar Pre C (.ref (s1.heap.objs.size+1)::vs) (upd (upd H1 s1.heap.objs.size (.own (s1.heap.objs.size+1))) (s1.heap.objs.size+1) (.ins D0 s1.heap.objs.size [])) (fun _ _=>False) (fun c x H'=>c = .ref C∧x=none∧Same H H'):=
    ⟨_,_,vs,fun b=>L b∨b=s1.heap.objs.size+1,i,rfl,upd_same,lk,.inr rfl,by rw [hA]; exact (r1.less (less_new hA0)).same g2,hp,fun H' g=>⟨rfl,rfl,(s1'.trans g2).trans g⟩⟩
  have r2:Vals (V.ref (s1.heap.objs.size+1)::vs) (Value.ref (s1.heap.objs.size+1)::us):=.cons rfl rv
  have hl:(Value.ref (s1.heap.objs.size+1)::us).length=ps.length:=by rw [← r2.length]; exact F.len _ _ _ _ sp
  have hb':=hb _ (Value.ref (s1.heap.objs.size+1)::us) I2.kIn (by rw [List.append_nil]; exact hl)
  rw [List.append_nil] at hb'
  refine wpAny_call (make_map (f:=f) I1.kIn M.makes M.init (beq_iff_eq.mp M.fn) (codeAny_mono (F.run _ X.stack _ _ ⟨Value.ref (s1.heap.objs.size+1)::us,[]⟩ (Value.ref (s1.heap.objs.size+1)::us) _ _ _ (hr.make D0 us []) (I2.env0.make D0 us []) hb' r2 sp) fun r s' hq=>?_))
  cases r with
  | error e=>exact q _ _ e s' I2 (cxe_imp hq fun c x H' ⟨z1,z2,z3⟩=>⟨z1,fun _=>z2,z3⟩)
  | ok fl =>
    cases fl with
    | ret u=>obtain ⟨_,_,_,_,_,_,_,z⟩:=hq; exact z.elim
    | next=>exact False.elim hq
    | brk=>exact False.elim hq
    | cont=>exact False.elim hq
end
section
variable {P:Program}{w:World}{K:PySem.W.Frag}{mg:Str→Option Value}{base:Heap}{ι:Type}{Ar:ι→List D}{Pre:ι→Prop}{C D0:Addr}
theorem fn_raiseI {x qual:Str}{st:Stmt}{f:Addr}{fd:FuncData}{n0:Str}{N ps:List Str}{k:Nat}(F:Fun K x qual st f fd)(S:FnScope (n0::N) ps (defScope st))(hl:∀i,(Ar i).length+1=ps.length)(body:∀ (cdv:Value) (A:Around) (outer:List Env) (s:Shared) (H:Hp) (E:XK),Room k (A.deeper (envOfC qual (defScope st) s.heap.objs.size f cdv))→∀i,Pre i →
      BlkX (cxOf (CXE P w) P w K mg base (n0::N) qual (defScope st) f cdv A outer s H E) true (defBody st) (.no::startD N (Ar i)) C):FnOk P w K mg base (CXE P w) (k+1) f fd ps (RaiseIn K D0 Ar Pre C):=by
  obtain ⟨oc,od,kV,doc,pm,an,cdv,ct,osl,rfl,lk,hcd⟩:=F.ex
  refine fn_of lk hcd S (fun vs H Q E h=>?_) fun A outer s H vs Q E hr hsp=>?_
  · obtain ⟨p,dx,us,L,i,rfl,_,_,_,r,_⟩:=h
    rw [List.length_cons,← r.length,hl]
  · obtain ⟨p,dx,us,L,i,rfl,hp,lk',Lp,r,pre,kE⟩:=hsp
    have st0:StR K H L (startD (n0::N) (.non::Ar i)) (start (n0::N) (.non::us)) H L:=start_ok lk' (Reps.cons (rep_non.mpr rfl) r)
    have st1:=(st0.forget 0).any (j:=0) (v:=some (.ref p)) (fun e he=>by
      rcases set_get he with ⟨_,z,_⟩ | ⟨z,_⟩
      · exact z.symm
      · exact absurd rfl z)
    have e1:(startD (n0::N) (.non::Ar i)).set 0 .no = .no::startD N (Ar i):=by unfold startD; simp
    have e2:(start (n0::N) (.non::us)).set 0 (some (.ref p))=start (n0::N) (.ref p::us):=by unfold L2.start; simp
    rw [e1,e2] at st1
    exact ⟨_,pss_wb,body cdv A outer s H E hr i pre H L _ H L _ lk' st1 (xok_body kE)⟩
end
end DL
namespace DL
open PySem PySem.Spec PyProof.Rows L2 PySem.W
open PySem.Builtin.Str (partsBetween occurrences strKind)
theorem vals_str:∀ {ts:List Str}{us:List Value},Vals (ts.map V.str) us→∃l:List (Str×Tok),us=strValues l∧l.map (·.1)=ts
  | [],us,r=>by cases r; exact ⟨[],rfl,rfl⟩
  | t::ts,us,r=>by
    rw [List.map_cons] at r
    cases r with
    | cons h r =>
      obtain ⟨k,rfl⟩:=h
      obtain ⟨l,rfl,h2⟩:=vals_str r
      exact ⟨(t,k)::l,rfl,by rw [List.map_cons,h2]⟩
theorem str_vals:∀ (l:List (Str×Tok)),Vals ((l.map (·.1)).map V.str) (strValues l)
  | []=>.nil
  | p::l=>.cons ⟨p.2,rfl⟩ (str_vals l)
theorem reps_strs {K:PySem.W.Frag}{H:Hp}{L:Addr→Prop}:∀ {ts:List Str}{vs:List V},Reps K H L (ts.map D.str) vs↔vs=ts.map V.str
  | [],vs=>reps_nil
  | n::ns,vs=>by
    rw [List.map_cons,List.map_cons,reps_cons]
    constructor
    · rintro ⟨v,r,rfl,h1,h2⟩
      rw [rep_str.mp h1,reps_strs.mp h2]
    · rintro rfl
      exact ⟨_,_,rfl,rep_str.mpr rfl,reps_strs.mpr rfl⟩
theorem boot_str:bootBuiltins "str" = some (.type "str"):=by decide +kernel
section
variable {X:Cx}{δ:List (Option D)}{a b o:Expr}{pos apos cpos p p2:Pos}{x y:Str}
theorem ev_addS (ha:Ev X a δ (.str x))(hb:Ev X b δ (.str y))(hz:x.length+y.length≤100000):Ev X (.BinOp a .Add b pos) δ (.str (x++y)):=ev_op2 op_add_str ha hb fun u v H L Q l h1 h2 k =>
  ⟨x,y,rep_str.mp h1,rep_str.mp h2,by have:=sizeLine_eq; omega,k _ H (.refl _) (rep_str.mpr rfl)⟩
theorem ev_strI {i:Int}(h:Ev X a δ (.int i))(hm:X.mg "str" = none)(hz:i.natAbs.log2 < 1920)(hg:Gl X "str" := by rfl)(he:starEach [a] X.env = [(false,eval a X.env)]:=by rfl):Ev X (.Call (.Name "str" p) [a] [] pos) δ (.str (toString i)):=
  ev_callTy call_str_int hm boot_str (ea1 h he) (fun vs H L Q l r k=>by
    obtain ⟨v,rfl,h1⟩:=reps1 r
    rw [rep_int.mp h1]
    exact ⟨i,rfl,hz,k _ H (.refl _) (rep_str.mpr rfl)⟩) hg (he:=he)
theorem ev_globS {z:Str}{t:Tok}(hm:X.mg x=some (.str z t))(hg:Gl X x:=by rfl)(hd:(x == ("__debug__" : Str))=false:=by decide):Ev X (.Name x pos) δ (.str z):=fun σ H L Q l r k =>
  we_of (pe_glob hg hm (v:=.str z) ⟨t,rfl⟩ hd) (k _ H (.refl _) (rep_str.mpr rfl))
theorem mt_join:MtR X "str.join" (fun x vs H Q=>∃z l ts,x = .str z∧vs = [.ref l]∧SqL X.K H l (ts.map V.str)∧JoinOk z ts=true∧Q (.str (Txt.join z ts)) H):=by
  intro pins s σ H x vs v us Q I rx rv h
  obtain ⟨z,l,ts,rfl,rfl,hq,hj,q⟩:=h
  obtain ⟨t,rfl⟩:=rx
  obtain ⟨u,rfl,ru⟩:=rv.one
  cases ru
  obtain ⟨its,r,pl,_⟩:=I.list hq
  obtain ⟨l',rfl,h2⟩:=vals_str r
  exact SC.join pl.isList h2 hj fun t' k=>⟨.str _,H,I.tok _,⟨_,rfl⟩,q⟩
theorem ev_join {ts:List Str}(ho:Ev X o δ (.str x))(ha:Ev X a δ (.lst (ts.map D.str)))(hj:JoinOk x ts=true)(hst:starEach [a] X.env = [(false,eval a X.env)]:=by rfl)(hbase:attributeBase o "join" X.env (eval o X.env)=eval o X.env:=by rfl)(hfew:((backTo cpos (starEach [a] X.env)).all (fun x=>!x.1) && (backToKw cpos (keywordEach [] X.env)).all (fun x=>x.1.isSome)
      && decide ([a].length+([]:List Keyword).length+(if ([]:List Keyword).isEmpty then 0 else 1) < 30))=true:=by rfl)(hline:(apos.endLine == cpos.line)=true:=by rfl)(hplain:(backTo cpos (starEach [] X.env)).any (·.1)=false:=by rfl):Ev X (.Call (.Attribute o "join" apos) [a] [] cpos) δ (.str (Txt.join x ts)):=fun σ H L Q l r q=>by
  refine we_of (pe_bm PySem.F.plainAttrs_str PySem.F.slot_str_join PySem.F.type_str_join mt_join pe_we (pa_cons pe_we pa_nil hst) hbase hfew hline hst hplain) ?_
  refine ho σ H L _ l r fun v H1 s1 r1=>?_
  rw [rep_str] at r1
  subst r1
  refine ⟨rfl,ha σ H1 L _ (l.same s1) (r.same s1) fun v2 H2 s2 r2=>?_⟩
  obtain ⟨p,vs,rfl,hq,hr⟩:=rep_lst.mp r2
  rw [reps_strs] at hr
  subst hr
  exact ⟨x,p,ts,rfl,rfl,hq.sq,hj,q _ H2 (s1.trans s2) (rep_str.mpr rfl)⟩
theorem split_len (x y:Str):(Txt.split x y).length≤x.length+2:=split_le x y
theorem mt_split:MtR X "str.split" (fun x vs H Q=>∃z y,x = .str z∧vs = [.str y]∧(y.length == 0)=false∧z.length≤100000 ∧ ∀p,H p=none→Q (.ref p) (upd H p (.lst ((Txt.split z y).map V.str)))):=by
  intro pins s σ H x vs v us Q I rx rv h
  obtain ⟨x,y,rfl,rfl,hy,hz,q⟩:=h
  obtain ⟨t,rfl⟩:=rx
  obtain ⟨u,rfl,ru⟩:=rv.one
  obtain ⟨u,rfl⟩:=ru
  have hl:=sizeLine_eq
  have fin:∀ (l:List (Str×Tok)) (k:Nat),l.map (·.1)=Txt.split x y→EP X pins σ Q (.ref s.heap.objs.size) { s with heap:=s.heap.push { cls:=.type "list",data:=.seq (strValues l).toArray },toks:=k }:=fun l k e=>by
    refine ⟨.ref _,_,I.lnew (t':=k) (ys:=(Txt.split x y).map V.str) (by rw [← e]; exact str_vals l) ?_,rfl,q _ I.fresh⟩
    rw [List.length_map]
    have:=split_len x y
    omega
  have hn:(partsBetween x (occurrences x y 0 x.length (x.length+1)) y.length).length≤sizeLine:=by
    rw [length_partsBetween]
    have:=StrLaws.occ_length_le x y 0 x.length (x.length+1)
    omega
  cases h1:(decide (x.length < y.length) || decide (strKind x < strKind y))
  · cases hf:(occurrences x y 0 x.length (x.length+1)).isEmpty
    · refine call_meets F.slot_str_split (typeIs_str _ _ _) F.entry_str_split (F.args_str_split_2 _ _) (meets_str_split_sep x y t u h1 hy hf (by omega) hn) ?_
      show wants _ _ _ { s with toks:=_,heap:=s.heap.push { cls:=.type "list",data:=.seq (strsFrom s.toks (partsBetween x (occurrences x y 0 x.length (x.length+1)) y.length)).toArray } }
      rw [strsFrom_eq]
      exact fin (numbered s.toks _) _ ((numbered_texts _ _).trans ((if_neg (ne_true_of_eq_false h1)).trans (if_neg (ne_true_of_eq_false hf))).symm)
    · exact call_meets F.slot_str_split (typeIs_str _ _ _) F.entry_str_split (F.args_str_split_2 _ _) (meets_str_split_not_found x y t u h1 hy hf)
        (fin [(x,t)] s.toks ((if_neg (ne_true_of_eq_false h1)).trans (if_pos hf)).symm)
  · exact call_meets F.slot_str_split (typeIs_str _ _ _) F.entry_str_split (F.args_str_split_2 _ _) (meets_str_split_cannot_occur x y t u h1)
      (fin [(x,t)] s.toks (if_pos h1).symm)
theorem ev_split (ho:Ev X o δ (.str x))(ha:Ev X a δ (.str y))(hy:(y.length == 0)=false)(hz:x.length≤100000)(hst:starEach [a] X.env = [(false,eval a X.env)]:=by rfl)(hbase:attributeBase o "split" X.env (eval o X.env)=eval o X.env:=by rfl)(hfew:((backTo cpos (starEach [a] X.env)).all (fun x=>!x.1) && (backToKw cpos (keywordEach [] X.env)).all (fun x=>x.1.isSome)
      && decide ([a].length+([]:List Keyword).length+(if ([]:List Keyword).isEmpty then 0 else 1) < 30))=true:=by rfl)(hline:(apos.endLine == cpos.line)=true:=by rfl)(hplain:(backTo cpos (starEach [] X.env)).any (·.1)=false:=by rfl):Ev X (.Call (.Attribute o "split" apos) [a] [] cpos) δ (.lst ((Txt.split x y).map D.str)):=fun σ H L Q l r q=>by
  refine we_of (pe_bm PySem.F.plainAttrs_str PySem.F.slot_str_split PySem.F.type_str_split mt_split pe_we (pa_cons pe_we pa_nil hst) hbase hfew hline hst hplain) ?_
  refine ho σ H L _ l r fun v H1 s1 r1=>?_
  rw [rep_str] at r1
  subst r1
  refine ⟨rfl,ha σ H1 L _ (l.same s1) (r.same s1) fun v2 H2 s2 r2=>?_⟩
  rw [rep_str] at r2
  subst r2
  exact ⟨x,y,rfl,rfl,hy,hz,fun p hp=>q _ _ ((s1.trans s2).trans (same_upd hp)) (rep_lst.mpr ⟨p,_,rfl,.of (((l.same s1).same s2).fresh hp) upd_same,reps_strs.mpr rfl⟩)⟩
theorem sl_str:SlR X (fun x lo hi H Q=>∃z,x = .str z∧z.length≤100000∧Q (.str (Txt.slice z lo hi)) H):=by
  intro pins s σ H x v vl vu lo hi sl Q I rx hs pl pu h
  obtain ⟨z,rfl,hz,q⟩:=h
  obtain ⟨t,rfl⟩:=rx
  have hl:=sizeLine_eq
  refine ⟨"str",_,F.slot_str_getitem.lookup,typeIs_str _ _ _,?_⟩
  have fin:(Txt.slice z lo hi).length≤sizeLine ∧ ∀t' k,EP X pins σ Q (.str (Txt.slice z lo hi) t') { s with toks:=k }:=⟨Nat.le_trans (Txt.slice_le z _ _) (by omega),fun t' k=>⟨.str _,H,I.tok _,⟨_,rfl⟩,q⟩⟩
  cases pl with
  | none =>
    cases pu with
    | none=>exact wpAny_getItem_str_slice (l:=none) (u:=none) (st:=none) hs rfl (post_val_or_str fin)
    | int j u=>exact wpAny_getItem_str_slice (l:=none) (u:=some (j,u)) (st:=none) hs rfl (post_val_or_str fin)
  | int i u' =>
    cases pu with
    | none=>exact wpAny_getItem_str_slice (l:=some (i,u')) (u:=none) (st:=none) hs rfl (post_val_or_str fin)
    | int j u=>exact wpAny_getItem_str_slice (l:=some (i,u')) (u:=some (j,u)) (st:=none) hs rfl (post_val_or_str fin)
theorem ev_slS {lo hi:Option Expr}{l' h':Option Int}(h:Ev X a δ (.str x))(hl:EvO X lo δ l')(hh:EvO X hi δ h')(hz:x.length≤100000):Ev X (.Subscript a (.Slice lo hi none p2) pos) δ (.str (Txt.slice x l' h')):=fun σ H L Q l r k=>by
  refine we_of (pe_slice sl_str pe_we po_wo po_wo) (h σ H L _ l r fun v H1 s1 r1=>hl σ H1 L _ (l.same s1) (r.same s1) fun H2 s2=>hh σ H2 L _ ((l.same s1).same s2) ((r.same s1).same s2) fun H3 s3=>?_)
  rw [rep_str] at r1
  subst r1
  exact ⟨x,rfl,hz,k _ _ ((s1.trans s2).trans s3) (rep_str.mpr rfl)⟩
theorem ev_ixS {i:Int}{c:Nat}(ha:Ev X a δ (.str x))(hb:Ev X b δ (.int i))(h0:0≤i)(h1:i < x.length)(hz:x.length≤100000)(hc:x.cps[i.toNat]? = some c)(hs:PlainIxT b:=by exact fun _ _=>rfl):Ev X (.Subscript a b pos) δ (.str ⟨#[c]⟩):=fun σ H L Q l e k=>by
  refine we_of (pe_item_str pe_we pe_we hs) ?_
  refine ha σ H L _ l e fun v H1 s1 r1=>?_
  refine hb σ H1 L _ (l.same s1) (e.same s1) fun y H2 s2 r2=>?_
  rw [rep_str] at r1
  rw [rep_int] at r2
  subst r1 r2
  exact ⟨x,i,c,rfl,rfl,h0,by omega,h1,hc,k _ H2 (s1.trans s2) (rep_str.mpr rfl)⟩
structure Tab (P:Program)(w:World)(K:PySem.W.Frag)(mg:Str→Option Value)(x:Str)(D:List (PyData×PyData)):Prop where
  at':∃b,mg x=some (.ref b) ∧ ∀h:Heap,K.In h→StrTab P w h b D
theorem et_ninTab {D:List (PyData×PyData)}{z:Str}(T:Tab X.prog X.w X.K X.mg x D)(ha:Ev X a δ (.str z))(hg:Gl X x:=by rfl)(hd:(x == ("__debug__" : Str))=false:=by decide) :
    EvT X (.Compare a [.NotIn] [.Name x p] pos) δ (!(lookup (PyData.str z) D).isSome):=fun σ H L Q l e q=>by
  obtain ⟨nb,hm,T⟩:=T.at'
  have ho:OpR X (compareOp .NotIn) (fun u v H Q=>u = .str z∧v = .ref nb∧Q (.bl (!(lookup (PyData.str z) D).isSome)) H):=by
    intro pins s σ H u v u' v' Q I ru rv h
    obtain ⟨rfl,rfl,h⟩:=h
    obtain ⟨t,rfl⟩:=ru
    cases rv
    exact notin_tab PyProof.V.same_str (strKind_is X.prog X.w z t) (T _ I.kIn) ⟨.bl _,H,I.tok _,rfl,h⟩
  refine wt_of (pt_cmpR ho pe_we (pe_glob hg hm (v:=.ref nb) rfl hd) rfl) ?_
  refine ha σ H L _ l e fun v H1 s1 r1=>?_
  exact ⟨rep_str.mp r1,rfl,_,rfl,q H1 s1⟩
theorem ev_ixTab {D:List (PyData×PyData)}{z:Str}{i:Int}(T:Tab X.prog X.w X.K X.mg x D)(ha:Ev X a δ (.str z))(hl:lookup (PyData.str z) D=some (.int i))(hg:Gl X x:=by rfl)(hd:(x == ("__debug__" : Str))=false:=by decide)(hs:PlainIx a:=by exact fun _ _=>rfl) :
    Ev X (.Subscript (.Name x p) a pos) δ (.int i):=fun σ H L Q l e k=>by
  obtain ⟨nb,hm,T⟩:=T.at'
  have ho:IxR X (fun v u H Q=>v = .ref nb∧u = .str z∧Q (.int i) H):=by
    intro value slice pins s σ H v u v' u' Q I rv ru h hsl
    obtain ⟨rfl,rfl,h⟩:=h
    obtain ⟨t,rfl⟩:=ru
    cases rv
    obtain ⟨lo,kvs,hd',hf⟩:=T _ I.kIn
    obtain ⟨v,hv,hfl⟩:=hf.of_lookup PyProof.V.same_str hl
    obtain ⟨t2,rfl⟩:=hfl.int_inv
    exact tail_any hd'.typeIs slot_dict_getitem.lookup (wpAny_getItem_of (strKind_is X.prog X.w z t) hd'.mapOf hv ⟨.int i,H,I.tok _,⟨_,rfl⟩,h⟩) hsl
  refine we_of (pe_ix ho (pe_glob hg hm (v:=.ref nb) rfl hd) pe_we hs) ?_
  show WE X a σ H _
  refine ha σ H L _ l e fun v H1 s1 r1=>?_
  exact ⟨rfl,rep_str.mp r1,k _ H1 s1 (rep_int.mpr rfl)⟩
end
end DL
namespace DL
open PySem PySem.Spec PyProof.Rows L2
theorem st_tryR {X:Cx}{body:List Stmt}{h₀:ExceptHandler}{hs:List ExceptHandler}{pos:Pos}{δ:List En}{R:D→Prop}(hb:∀E',Blk (X.wish E') body δ (.rt R)):Stm X (.Try body (h₀::hs) [] [] pos) δ (.rt R):=fun H0 L0 σ H L E l sr k pins s I=>by
  refine wpAny_Try_except ?_
  refine wpAny_mono (hb (fun e s₁=>wpAny (model X.prog X.w) X.A (noteFrame e X.env) (fun _ s₂=>wpAny (model X.prog X.w) X.A (setFlight e none) (fun _ s₃=>wpAny (model X.prog X.w) X.A (handleBy e X.env (h₀::hs)) (SP X pins E) X.xe s₃) X.xe s₂) X.xe s₁) H0 L0 σ H L { nx:=fun _ _=>False,rt:=E.rt } l sr k pins s (I.wish _)) (fun f s1 q=>?_) (fun _ _ z=>z)
  cases f with
  | next=>obtain ⟨_,_,_,z⟩:=q; exact z.elim
  | brk=>obtain ⟨_,_,_,z⟩:=q; exact z.elim
  | cont=>obtain ⟨_,_,_,z⟩:=q; exact z.elim
  | ret u =>
    obtain ⟨σ',H',v,I',r,q⟩:=q
    exact ⟨σ',H',v,I'.unwish,r,q⟩
section
variable {X:Cx}{δ:List (Option D)}{a b:Expr}{pos:Pos}{x y:Str}
theorem rEqT {H:Hp}{L:Addr→Prop}{Q:VK}{u v:V}(h1:Rep X.K H L (.str x) u)(h2:Rep X.K H L (.str y) v)(k:∀v H',Same H H'→Rep X.K H' L (.bl (decide (x=y))) v→Q v H'):rEq u v H Q:=by
  rw [rep_str] at h1 h2; subst h1; subst h2
  refine ⟨rfl,k _ H (.refl _) (rep_bl.mpr ?_)⟩
  congr 1
  rw [Bool.eq_iff_iff]; simp
theorem rNeT {H:Hp}{L:Addr→Prop}{Q:VK}{u v:V}(h1:Rep X.K H L (.str x) u)(h2:Rep X.K H L (.str y) v)(k:∀v H',Same H H'→Rep X.K H' L (.bl (!decide (x=y))) v→Q v H'):rNe u v H Q:=by
  rw [rep_str] at h1 h2; subst h1; subst h2
  refine ⟨rfl,k _ H (.refl _) (rep_bl.mpr ?_)⟩
  congr 2
  rw [Bool.eq_iff_iff]; simp
theorem ev_eqT (ha:Ev X a δ (.str x))(hb:Ev X b δ (.str y)):Ev X (.Compare a [.Eq] [b] pos) δ (.bl (decide (x=y))):=ev_cmp2 op_eq ha hb (nomark _) fun _ _ _ _ _ _ h1 h2 k=>rEqT h1 h2 k
theorem et_eqT (ha:Ev X a δ (.str x))(hb:Ev X b δ (.str y)):EvT X (.Compare a [.Eq] [b] pos) δ (decide (x=y)):=ev_tst op_eq ha hb (nomark _) fun _ _ _ _ _ _ h1 h2 k=>rEqT h1 h2 k
theorem et_neT (ha:Ev X a δ (.str x))(hb:Ev X b δ (.str y)):EvT X (.Compare a [.NotEq] [b] pos) δ (!decide (x=y)):=ev_tst op_ne ha hb (nomark _) fun _ _ _ _ _ _ h1 h2 k=>rNeT h1 h2 k
end
section
variable {X:Cx}{δ:List En}{a e tg:Expr}{pos p:Pos}{x:Str}
def EvIF (X:Cx)(tg iter:Expr)(δ:List (Option D))(ds:List D):Prop:=
  ∀ (σ:St) (H:Hp) (L:Addr→Prop) (R:It→Hp→Prop),LOk L H→EnvR X.K H L δ σ→(∀J H',Same H H'→(∀ (H2:Hp) (i:Nat),(∀d,ds[i]? = some d→J.go i H2 ∧ ∀v H3,J.yld i H2 v H3→H3=H2 ∧ ∀K H L,Rep K H L d v)∧(ds.length≤i→J.stop i H2))→R J H')→WI X tg iter σ H R
theorem eif_range {δ:List (Option D)}{n:Nat}(h:Ev X a δ (.int n))(hm:X.mg "range" = none)(hz:n < 2 ^ 62)(hg:Gl X "range" := by rfl)(hs:starEach [a] X.env = [(false,eval a X.env)]:=by rfl):EvIF X tg (.Call (.Name "range" p) [a] [] pos) δ (ups n):=fun σ H L R l r k=>by
  refine wi_of (pi_range1 hg hm pa_wa hs) (ea1 h hs σ H L _ l r fun vs H1 s1 r1=>?_)
  obtain ⟨v,r',rfl,h1,h2⟩:=reps_cons.mp r1
  rw [reps_nil.mp h2,rep_int.mp h1]
  refine ⟨n,rfl,by omega,by exact_mod_cast hz,k _ H1 s1 fun H2 i=>⟨fun d hd=>?_,fun hi=>?_⟩⟩
  · unfold ups at hd
    rw [List.getElem?_map] at hd
    cases q:(List.range n)[i]? with
    | none=>rw [q] at hd; cases hd
    | some j =>
      rw [q] at hd
      obtain ⟨hi,ej⟩:=List.getElem?_eq_some_iff.mp q
      rw [List.length_range] at hi
      rw [List.getElem_range] at ej
      subst ej
      cases hd
      refine ⟨by show i < (n:Int).toNat; omega,fun v H3 ⟨e1,e2⟩=>⟨e1,fun K H L=>?_⟩⟩
      rw [e2]
      exact rep_int.mpr (by simp)
  · show (n:Int).toNat≤i
    unfold ups at hi
    rw [List.length_map,List.length_range] at hi
    omega
theorem st_forO {iter:Expr}{body:List Stmt}{ds:List D}(i:Nat)(en:Nat→List En)(hi:EvIF X (.Name x p) iter (opn δ) ds)(h0:en 0=δ)(ht:∀ (j:Nat) d,ds[j]? = some d→Blk X body ((en j).set i (.da d)) (.nx (en (j+1))))(hc:X.calm=true)(hN:X.N.Nodup)(hx0:X.N[i]? = some x:=by rfl)(hx:Loc X.env.scope x:=by first | exact Or.inl rfl | exact Or.inr rfl)(hf:X.fn x=true∨X.env.scope.names.lookup x=some .local:=by first | exact Or.inl rfl | exact Or.inr rfl)(hxe:PassesOwn (model X.prog X.w) X.A X.env X.xe:=by exact PassesOwn.never)(hs:∀x,foldedSetIterable iter X.env x=pure x:=by intro _; rfl):Stm X (.For (.Name x p) iter body [] pos) δ (.nx (en ds.length)):=fun H0 L0 σ H L E l s k=>by
  refine ws_of (ps_for hxe hc pi_wi (pg_name hN hx0 hx hf) pss_wb hs) (hi σ H L0 _ (s.lok0 l) (s.opnR l) fun J H1 g it=>?_)
  refine ⟨fun j m σ' H'=>j≤ds.length∧m=ds.length - j ∧ ∃L',Ext L H1 L' H'∧StR X.K H0 L0 (en j) σ' H' L',⟨ds.length,Nat.zero_le _,by simp,L,.refl,h0 ▸ s.grow g⟩,?_⟩
  rintro j m σ' H' ⟨hj,rfl,L',x',s'⟩
  by_cases hlt:j < ds.length
  · have hd:ds[j]? = some (ds[j]'(by omega)):=List.getElem?_eq_getElem (by omega)
    obtain ⟨g1,g2⟩:=(it H' j).1 _ hd
    refine .inr ⟨g1,fun σ2 H2=>∃L2,Ext L H1 L2 H2∧StR X.K H0 L0 (en (j+1)) σ2 H2 L2,fun σ2 H2 ⟨L2,x2,s2⟩=>⟨ds.length - (j+1),by omega,hlt,rfl,L2,x2,s2⟩,fun v H3 y=>?_⟩
    obtain ⟨e3,rv⟩:=g2 v H3 y
    subst e3
    exact ht j _ hd H0 L0 _ H3 L' _ l (s'.setD (rv _ _ _)) fun σ2 H2 L2 s2 x2=>⟨L2,x'.trans x2,s2⟩
  · have e:j=ds.length:=by omega
    subst e
    exact .inl ⟨(it H' _).2 (Nat.le_refl _),(k.shift (.same g)).shift x' σ' H' L' s' .refl⟩
end
end DL
namespace V
open PySem PySem.Spec L2 DL Mth
def jn (c:Nat):List (List Nat)→List Nat
  | []=>[]
  | [p]=>p
  | p::q::r=>p++c::jn c (q::r)
theorem app_sep {c:Nat}:∀ {p q A B:List Nat},c ∉ p→c ∉ q→p++c::A=q++c::B→p=q∧A=B
  | [],[],A,B,_,_,h=>⟨rfl,(List.cons.inj h).2⟩
  | [],y::q,A,B,_,hq,h=>absurd (List.mem_cons.mpr (.inl (List.cons.inj h).1)) hq
  | x::p,[],A,B,hp,_,h=>absurd (List.mem_cons.mpr (.inl (List.cons.inj h).1.symm)) hp
  | x::p,y::q,A,B,hp,hq,h=>by
    obtain ⟨e1,e2⟩:=List.cons.inj h
    obtain ⟨e3,e4⟩:=app_sep (fun z=>hp (List.mem_cons_of_mem _ z)) (fun z=>hq (List.mem_cons_of_mem _ z)) e2
    exact ⟨by rw [e1,e3],e4⟩
theorem jn_inj (c:Nat):∀ {ps qs:List (List Nat)},ps ≠ []→qs ≠ []→(∀p∈ps,c ∉ p)→(∀q∈qs,c ∉ q)→jn c ps=jn c qs→ps=qs
  | [],_,h,_,_,_,_=>absurd rfl h
  | _,[],_,h,_,_,_=>absurd rfl h
  | [p],[q],_,_,_,_,h=>by rw [show p=q from h]
  | [p],q::q'::r,_,_,hp,_,h=>by
    have h:p=q++c::jn c (q'::r):=h
    exact absurd (by rw [h]; simp) (hp p List.mem_cons_self)
  | p::p'::r,[q],_,_,_,hq,h=>by
    have h:p++c::jn c (p'::r)=q:=h
    exact absurd (by rw [← h]; simp) (hq q List.mem_cons_self)
  | p::p'::r,q::q'::r',_,_,hp,hq,h=>by
    have h:p++c::jn c (p'::r)=q++c::jn c (q'::r'):=h
    obtain ⟨e1,e2⟩:=app_sep (hp p List.mem_cons_self) (hq q List.mem_cons_self) h
    rw [e1,jn_inj c (by simp) (by simp) (fun x hx=>hp x (List.mem_cons_of_mem _ hx)) (fun x hx=>hq x (List.mem_cons_of_mem _ hx)) e2]
theorem join_cps (c:Nat):∀ps:List Str,(Str.join ⟨#[c]⟩ ps).cps.toList=jn c (ps.map fun p=>p.cps.toList)
  | []=>rfl
  | [p]=>rfl
  | p::q::r=>by
    show (p++⟨#[c]⟩++Str.join ⟨#[c]⟩ (q::r)).cps.toList=p.cps.toList++c::jn c ((q::r).map fun p=>p.cps.toList)
    rw [← join_cps c (q::r),Str.cps_append,Str.cps_append]
    simp
theorem cps_inj {x y:Str}(h:x.cps.toList=y.cps.toList):x=y:=Str.ext' (Array.toList_inj.mp h)
theorem map_cps_inj:∀ {ps qs:List Str},(ps.map fun p=>p.cps.toList)=(qs.map fun p=>p.cps.toList)→ps=qs
  | [],[],_=>rfl
  | [],_::_,h=>by cases h
  | _::_,[],h=>by cases h
  | p::ps,q::qs,h=>by
    obtain ⟨e1,e2⟩:=List.cons.inj h
    rw [cps_inj e1,map_cps_inj e2]
theorem spl_join {c:Nat}{sep:Str}(hs:sep=⟨#[c]⟩){ps:List Str}(h0:ps ≠ [])(hf:∀p∈ps,c ∉ p.cps.toList):Txt.split (Txt.join sep ps) sep=ps:=by
  subst hs
  show Txt.split (Builtin.Str.glued _ ps) _=ps
  rw [StrLaws.glued_eq_join]
  refine map_cps_inj (jn_inj c ?_ ?_ ?_ ?_ ?_)
  · have h1:=PyProof.Rows.split_pos (Str.join ⟨#[c]⟩ ps) ⟨#[c]⟩
    intro z
    have h2:=congrArg List.length z
    rw [List.length_map,List.length_nil] at h2
    omega
  · simpa using h0
  · rintro _ hp
    obtain ⟨p,hp',rfl⟩:=List.mem_map.mp hp
    exact StrLaws.split_free _ c p hp'
  · rintro _ hp
    obtain ⟨p,hp',rfl⟩:=List.mem_map.mp hp
    exact hf p hp'
  · rw [← join_cps,← join_cps,StrLaws.join_split]
theorem join_snoc (sep x:Str):∀ps:List Str,ps ≠ []→Str.join sep (ps ++ [x])=Str.join sep ps++sep++x
  | [],h=>absurd rfl h
  | [p],_=>rfl
  | p::q::r,_=>by
    show p++sep++Str.join sep ((q::r) ++ [x])=p++sep++Str.join sep (q::r)++sep++x
    rw [join_snoc sep x (q::r) (by simp)]
    simp only [Str.append_assoc]
theorem join_snoc' {sep x:Str}{ps:List Str}(h:ps ≠ []):Txt.join sep (ps ++ [x])=Txt.join sep ps++sep++x:=by
  show Builtin.Str.glued _ _=Builtin.Str.glued _ _++sep++x
  rw [StrLaws.glued_eq_join,StrLaws.glued_eq_join,join_snoc sep x ps h]
theorem mem_jn (c:Nat):∀ {ps:List (List Nat)}{x:Nat},x∈jn c ps→x=c ∨ ∃p∈ps,x∈p
  | [],_,h=>by cases h
  | [p],x,h=>.inr ⟨p,List.mem_cons_self,h⟩
  | p::q::r,x,h=>by
    have h:x∈p++c::jn c (q::r):=h
    rcases List.mem_append.mp h with h | h
    · exact .inr ⟨p,List.mem_cons_self,h⟩
    · rcases List.mem_cons.mp h with h | h
      · exact .inl h
      · rcases mem_jn c h with h | ⟨y,hy,h⟩
        · exact .inl h
        · exact .inr ⟨y,List.mem_cons_of_mem _ hy,h⟩
def sI (i:Int):Str:=Str.ofString (toString i)
def w0 (a:Nat):Str:=Txt.join "+" ((mi a).map sI)
def wd (a:Nat):Str:=if a=0 then "-" else w0 a
def pc (a:Nat):Str := " " ++ wd a
def rst (ms:List Nat):Str:=Txt.join "," (ms.map pc)
def hdt (n:Nat):Str:=sI (n:Int) ++ ":"
def txt (n:Nat)(ms:List Nat):Str:=hdt n++rst ms
def NUM0:List (Str×PyData):=[("0",.int 0),("1",.int 1),("2",.int 2),("3",.int 3),("4",.int 4),("5",.int 5)]
def NUMS:List (PyData×PyData):=NUM0.map fun p=>(.str p.1,p.2)
theorem in5 {i:Int}(h0:0≤i)(h5:i≤5):i=0∨i=1∨i=2∨i=3∨i=4∨i=5:=by omega
theorem nums_at {i:Int}(h0:0≤i)(h5:i≤5):lookup (.str (sI i)) NUMS=some (.int i):=by
  rcases in5 h0 h5 with rfl | rfl | rfl | rfl | rfl | rfl <;> kernel_rfl
theorem sI_len {i:Int}(h0:0≤i)(h5:i≤5):(sI i).length=1:=by
  rcases in5 h0 h5 with rfl | rfl | rfl | rfl | rfl | rfl <;> decide +kernel
theorem sI_free {i:Int}(h0:0≤i)(h5:i≤5):58 ∉ (sI i).cps.toList∧43 ∉ (sI i).cps.toList:=by
  rcases in5 h0 h5 with rfl | rfl | rfl | rfl | rfl | rfl <;> decide +kernel
theorem w0_nil:∀a < 32,(w0 a = "")↔a=0:=by decide +kernel
theorem wd_nil:∀a < 32,(wd a = "-")↔a=0:=by decide +kernel
theorem w0_len:∀a < 32,(w0 a).length≤9:=by decide +kernel
theorem wd_len:∀a < 32,(wd a).length≤9:=by decide +kernel
theorem pc_len:∀a < 32,1≤(pc a).length∧(pc a).length≤10:=by decide +kernel
theorem pc_free:∀a < 32,58 ∉ (pc a).cps.toList∧44 ∉ (pc a).cps.toList:=by decide +kernel
theorem pc_cut:∀a < 32,Txt.slice (pc a) (some 1) none=wd a:=by decide +kernel
theorem join_ok {sep:Str}{ts:List Str}(hs:sep.length≤1)(hl:ts.length≤1000)(h:∀t∈ts,t.length≤100):JoinOk sep ts=true:=by
  unfold JoinOk
  rw [Bool.not_eq_true']
  refine StrLaws.joinFits (B:=100) h ?_
  have:ts.length * sep.length≤1000 * 1:=Nat.mul_le_mul hl hs
  omega
theorem w0_ok {a:Nat}(ha:a < 32):JoinOk "+" ((mi a).map sI)=true:=by
  refine join_ok (by decide) (by rw [List.length_map]; have:=mi_len (a:=a); omega) fun t ht=>?_
  obtain ⟨i,hi,rfl⟩:=List.mem_map.mp ht
  obtain ⟨h0,h1⟩:=mi_lt (m:=5) (by decide) ha i hi
  rw [sI_len h0 (by omega)]
  decide
theorem rst_ok {ms:List Nat}(hl:ms.length≤100)(h:∀a∈ms,a < 32):JoinOk "," (ms.map pc)=true:=by
  refine join_ok (by decide) (by rw [List.length_map]; omega) fun t ht=>?_
  obtain ⟨a,ha,rfl⟩:=List.mem_map.mp ht
  have:=pc_len a (h a ha)
  omega
theorem glue_len (sep:Str)(hs:sep.length≤1)(n:Nat):∀ts:List Str,(∀t∈ts,t.length≤n)→(Str.join sep ts).length≤ts.length * (n+1)
  | [],_=>Nat.zero_le _
  | [x],h=>by
    have:=h x List.mem_cons_self
    show x.length≤1 * (n+1)
    omega
  | x::y::r,h=>by
    have h1:=glue_len sep hs n (y::r) fun t ht=>h t (List.mem_cons_of_mem _ ht)
    have h2:=h x List.mem_cons_self
    show (x++sep++Str.join sep (y::r)).length≤(r.length+1+1) * (n+1)
    rw [Str.length_append,Str.length_append]
    rw [List.length_cons] at h1
    rw [Nat.succ_mul]
    omega
theorem rst_len {ms:List Nat}(hl:ms.length≤100)(h:∀a∈ms,a < 32):(rst ms).length≤1100:=by
  have:=glue_len "," (by decide) 10 (ms.map pc) (fun t ht=>by
    obtain ⟨a,ha,rfl⟩:=List.mem_map.mp ht
    exact (pc_len a (h a ha)).2)
  show (Builtin.Str.glued "," (ms.map pc)).length≤1100
  rw [StrLaws.glued_eq_join]
  rw [List.length_map] at this
  omega
theorem hdt_len {n:Nat}(hn:n≤5):(hdt n).length=2:=by
  unfold hdt
  rw [Str.length_append,sI_len (by omega) (by omega)]
  decide
theorem txt_len {n:Nat}{ms:List Nat}(hn:n≤5)(hl:ms.length≤100)(h:∀a∈ms,a < 32):(txt n ms).length≤1102:=by
  unfold txt
  rw [Str.length_append,hdt_len hn]
  have:=rst_len hl h
  omega
theorem rst_free {ms:List Nat}(h:∀a∈ms,a < 32):58 ∉ (rst ms).cps.toList:=by
  show 58 ∉ (Builtin.Str.glued "," (ms.map pc)).cps.toList
  rw [StrLaws.glued_eq_join,show (("," : String):Str)=⟨#[44]⟩ from by decide +kernel,join_cps]
  intro z
  rcases mem_jn 44 z with e | ⟨p,hp,e⟩
  · cases e
  · rw [List.map_map] at hp
    obtain ⟨a,ha,rfl⟩:=List.mem_map.mp hp
    exact (pc_free a (h a ha)).1 e
theorem spl_txt {n:Nat}{ms:List Nat}(hn:n≤5)(h:∀a∈ms,a < 32):Txt.split (txt n ms) ":" = [sI n,rst ms]:=by
  have e:txt n ms=Txt.join ":" [sI n,rst ms]:=by
    show _=Builtin.Str.glued ":" [sI n,rst ms]
    rw [StrLaws.glued_eq_join]
    rfl
  rw [e]
  refine spl_join (c:=58) (by decide +kernel) (by simp) fun p hp=>?_
  rcases List.mem_cons.mp hp with rfl | hp
  · exact (sI_free (by omega) (by omega)).1
  · rw [List.mem_singleton.mp hp]; exact rst_free h
theorem rst_nil:rst [] = "" := by decide +kernel
theorem rst_one (a:Nat):rst [a]=pc a:=by
  show Builtin.Str.glued "," [pc a]=_
  rw [StrLaws.glued_eq_join]
  rfl
theorem rst_snoc {ms:List Nat}(a:Nat)(h:ms ≠ []):rst (ms ++ [a])=rst ms ++ "," ++ pc a:=by
  unfold rst
  rw [List.map_append,List.map_cons,List.map_nil,join_snoc' (by simpa using h)]
theorem rst_ne {ms:List Nat}(h:ms ≠ [])(hlt:∀a∈ms,a < 32):rst ms ≠ "" := fun z=>by
  have h2:=congrArg (fun x:Str=>x.length) z
  have h3:(("" : String):Str).length=0:=by decide
  have h4:1≤(rst ms).length:=by
    rcases List.eq_nil_or_concat ms with e | ⟨l,a,e⟩
    · exact absurd e h
    · rw [List.concat_eq_append] at e
      subst e
      have:=(pc_len a (hlt a (by simp))).1
      by_cases hl:l = []
      · subst hl
        rw [List.nil_append,rst_one]; exact this
      · rw [rst_snoc a hl,Str.length_append]; omega
  omega
theorem spl_rst {ms:List Nat}(h0:ms ≠ [])(h:∀a∈ms,a < 32):Txt.split (rst ms) "," = ms.map pc:=by
  refine spl_join (c:=44) (by decide +kernel) (by simpa using h0) fun p hp=>?_
  obtain ⟨a,ha,rfl⟩:=List.mem_map.mp hp
  exact (pc_free a (h a ha)).2
theorem spl_wd {a:Nat}(h0:a ≠ 0)(ha:a < 32):Txt.split (wd a) "+" = (mi a).map sI:=by
  unfold wd
  rw [if_neg h0]
  refine spl_join (c:=43) (by decide +kernel) ?_ fun p hp=>?_
  · intro z
    rw [List.map_eq_nil_iff] at z
    exact h0 (mi_inj ha (by decide) (by rw [z]; decide +kernel))
  · obtain ⟨i,hi,rfl⟩:=List.mem_map.mp hp
    obtain ⟨h0,h1⟩:=mi_lt (m:=5) (by decide) ha i hi
    exact (sI_free h0 (by omega)).2
theorem pc_of {a:Nat}(h:a ≠ 0):pc a = " " ++ w0 a:=by unfold pc wd; rw [if_neg h]
theorem pc_0:pc 0 = " " ++ w0 0 ++ "-" := by decide +kernel
theorem cr_0:D.tup []=cr 0:=by
  unfold cr
  rw [show mi 0 = [] from by decide +kernel]
  rfl
theorem due_due {t:List Nat}{m:Nat}(hm:m≤5)(ht:∀a∈t,a < 2 ^ m):due (due t m) m=due t m:=by
  rw [due_eq (due t m) m]
  simp only [car_due hm ht]
  rw [← due_eq]
theorem rst_step (h:Str)(ms:List Nat)(a:Nat):(if ms = [] then h++rst ms else h++rst ms ++ ",") ++ " " ++ w0 a++(if a=0 then (("-" : String):Str) else Str.empty)=h++rst (ms ++ [a]):=by
  have e:(("" : String):Str)=Str.empty:=by decide +kernel
  have hp : " " ++ w0 a++(if a=0 then (("-" : String):Str) else Str.empty)=pc a:=by
    by_cases h0:a=0
    · rw [if_pos h0,h0,pc_0]
    · rw [if_neg h0,pc_of h0,Str.append_empty]
  by_cases hm:ms = []
  · rw [if_pos hm,hm,List.nil_append,rst_one,rst_nil,e,Str.append_empty,← hp]
    simp only [Str.append_assoc]
  · rw [if_neg hm,rst_snoc a hm,← hp]
    simp only [Str.append_assoc]
end V
namespace V
open PySem PySem.Spec L2 DL Mth
abbrev aCrw:Nat→List D:=fun a=>[cr a]
abbrev aWd:Nat→List D:=fun a=>[.str (wd a)]
abbrev aNum:Int→List D:=fun i=>[.str (sI i)]
abbrev aRst:List Nat→List D:=fun ms=>[.str (rst ms)]
abbrev aTxt:List Nat×Nat→List D:=fun i=>[.str (txt i.2 i.1)]
def OkR (t:List Nat)(m:Nat):Prop:=C5 m∧t.length≤60 ∧ ∀a∈t,a < 2 ^ m
theorem OkR.lt {t:List Nat}{m:Nat}(h:OkR t m):∀a∈t,a < 32:=fun a ha=>lt32 h.1.2 (h.2.2 a ha)
theorem log_small {i:Int}(h0:0≤i)(h5:i≤5):i.natAbs.log2 < 1920:=by
  rcases in5 h0 h5 with rfl | rfl | rfl | rfl | rfl | rfl <;> decide +kernel
section
variable {P:Program}{w:World}{K:PySem.W.Frag}{mg:Str→Option Value}{base:Heap}{f:Addr}{fd:FuncData}{C:Addr}
abbrev pCShown (P:Program)(w:World)(K:PySem.W.Frag)(mg:Str→Option Value)(base:Heap):Prop:=PFn P w K mg base "crowd_shown" 1 aCrw (fun a=>a < 32) fun a d=>d = .str (wd a)
abbrev pShown (P:Program)(w:World)(K:PySem.W.Frag)(mg:Str→Option Value)(base:Heap)(C:Addr):Prop:=PFn P w K mg base "shown" 2 (aSelf C) (fun i=>OkR i.1 i.2) fun i d=>d = .str (txt i.2 i.1)
abbrev pNumR (P:Program)(w:World)(K:PySem.W.Frag)(mg:Str→Option Value)(base:Heap):Prop:=PFn P w K mg base "number_read" 1 aNum (fun i=>0≤i∧i≤5) fun i d=>d = .int i
abbrev pCrR (P:Program)(w:World)(K:PySem.W.Frag)(mg:Str→Option Value)(base:Heap):Prop:=PFn P w K mg base "crowd_read" 2 aWd (fun a=>a < 32) fun a d=>d=cr a
abbrev pCrsR (P:Program)(w:World)(K:PySem.W.Frag)(mg:Str→Option Value)(base:Heap):Prop:=PFn P w K mg base "crowds_read" 3 aRst (fun t=>t.length≤60 ∧ ∀a∈t,a < 32) fun t d=>d=crs t
abbrev pCouR (P:Program)(w:World)(K:PySem.W.Frag)(mg:Str→Option Value)(base:Heap)(C:Addr):Prop:=PFn P w K mg base "council_read" 8 aInit (fun i=>OkR i.1 i.2) fun i d=>d=cns C i.2 (due i.1 i.2)
abbrev pRead (P:Program)(w:World)(K:PySem.W.Frag)(mg:Str→Option Value)(base:Heap)(C:Addr):Prop:=PFn P w K mg base "read" 9 aTxt (fun i=>OkR i.1 i.2∧due i.1 i.2=i.1) fun i d=>d=cns C i.2 i.1
theorem scCrowdShown:FnScope ["crowd"] ["crowd"] (defScope sCrowdShown):=⟨rfl,rfl,rfl,by decide +kernel,rfl,by decide +kernel,by decide +kernel⟩
theorem d_cshown (F:Fun K "crowd_shown" "crowd_shown" sCrowdShown f fd)(B:Blt mg):FnOk P w K mg base CX0 1 f fd ["crowd"] (PureSp K aCrw (fun a=>a < 32) fun a d=>d = .str (wd a)):=by
  refine fn_pure F scCrowdShown (fun _=>rfl) fun cdv A outer s H E hr a ha=>?_
  have hlt:=mi_lt (m:=5) (by decide) ha
  by_cases h0:a=0
  · refine blk_rt (st_ifT (EvT.cast (et_eqD (hu64 hr) (ev_var 0) (Ev.cast (ev_tup ea_nil) cr_0) (noIns_cr _) (noIns_cr _) (shaped_cr _) (shaped_cr _) (eqv_cr ha (by decide))) (decide_eq_true h0)) (blk_rt (st_retE (Ev.cast ev_str ?_))))
    unfold wd
    rw [if_pos h0]
  · refine blk_cons (st_skip (EvT.cast (et_eqD (hu64 hr) (ev_var 0) (Ev.cast (ev_tup ea_nil) cr_0) (noIns_cr _) (noIns_cr _) (shaped_cr _) (shaped_cr _) (eqv_cr ha (by decide))) (decide_eq_false h0))) ?_
    refine blk_rt (st_retE (Ev.cast (ev_join (ts:=(mi a).map sI) ev_str (Ev.cast (ev_map (ks:=mi a) (g:=D.int) (f:=fun i=>D.str (sI i)) cok weak_id (ei_tup (ev_var 0)) (by have:=mi_len (a:=a); omega) (fun i hi cl C s₀ H₀ fp=>ev_strI (ev_var 0) B.str (log_small (hlt i hi).1 (by have:=(hlt i hi).2; omega)))) (by rw [List.map_map]; rfl)) (w0_ok ha)) ?_))
    unfold wd
    rw [if_neg h0]
    rfl
theorem scShown:FnScope ["council", "crowds"] ["council"] (defScope sShown):=⟨rfl,rfl,rfl,by decide +kernel,rfl,by decide +kernel,by decide +kernel⟩
theorem d_shown (F:Fun K "shown" "shown" sShown f fd)(B:Blt mg)(c:Cls K C)(Mm:mMany P w K mg base C)(Ml:mLeast P w K mg base C)(Fc:pCShown P w K mg base):FnOk P w K mg base CX0 2 f fd ["council"] (PureSp K (aSelf C) (fun i=>OkR i.1 i.2) fun i d=>d = .str (txt i.2 i.1)):=by
  refine fn_pure F scShown (fun _=>rfl) fun cdv A outer s H E hr ⟨t,m⟩ ok=>?_
  have hr1:Room 1 _:=hr.mono (by decide)
  have hm1:1≤m:=ok.1.1
  have hm:m≤5:=ok.1.2
  have hl:t.length≤60:=ok.2.1
  have ht:=ok.lt
  dsimp only at ht
  refine blk_map 1 (ds:=(t.map pc).map D.str) (ks:=t) (g:=cr) (f:=fun a=>D.str (pc a)) cok weak_id (ei_lst (Ev.cast (d:=.lst (t.map cr)) (EvP.ev (EvF.toP (ef_meth0 Ml (t,m) c hr1 (ev_var 0) (by decide +kernel) trivial) (R:=(· = .lst (t.map cr))) (fun ds h=>by subst h; rfl)) fun _ h=>h) rfl)) (by omega) (fun a ha cl C s₀ H₀ fp=>ev_addS ev_str (ev_call Fc a hr1 (ea1 (ev_var 0)) (ht a ha)) ?_) (by rw [List.map_map]; rfl) ?_ scShown.nd
  · have:=wd_len a (ht a ha)
    have:((" " : String):Str).length=1:=by decide
    omega
  · refine blk_rt (st_retE (Ev.cast (ev_addS (x:=hdt m) (y:=rst t) (ev_addS (x:=sI m) (ev_strI (EvP.ev (ev_meth0P Mm (t,m) c hr1 (ev_var 0) (by decide +kernel) trivial) fun _ h=>h) B.str (log_small (by omega) (by omega))) ev_str ?_) (ev_join ev_str (ev_var 1) (rst_ok (by omega) ht)) ?_) rfl))
    · rw [sI_len (by omega) (by omega)]
      decide
    · rw [hdt_len hm]
      have:=rst_len (by omega) ht
      omega
theorem scNumberRead:FnScope ["text"] ["text"] (defScope sNumberRead):=⟨rfl,rfl,rfl,by decide +kernel,rfl,by decide +kernel,by decide +kernel⟩
theorem d_numR (F:Fun K "number_read" "number_read" sNumberRead f fd)(T:Tab P w K mg "NUMBERS" NUMS):FnOk P w K mg base CX0 1 f fd ["text"] (PureSp K aNum (fun i=>0≤i∧i≤5) fun i d=>d = .int i):=by
  refine fn_pure F scNumberRead (fun _=>rfl) fun cdv A outer s H E hr i ⟨h0,h5⟩=>?_
  refine blk_cons (st_skip (EvT.cast (et_ninTab T (ev_var 0)) ?_)) (blk_rt (st_retE (ev_ixTab T (ev_var 0) (nums_at h0 h5))))
  rw [nums_at h0 h5]
  rfl
theorem scCrowdRead:FnScope ["text"] ["text"] (defScope sCrowdRead):=⟨rfl,rfl,rfl,by decide +kernel,rfl,by decide +kernel,by decide +kernel⟩
theorem d_crR (F:Fun K "crowd_read" "crowd_read" sCrowdRead f fd)(B:Blt mg)(Fn:pNumR P w K mg base):FnOk P w K mg base CX0 2 f fd ["text"] (PureSp K aWd (fun a=>a < 32) fun a d=>d=cr a):=by
  refine fn_pure F scCrowdRead (fun _=>rfl) fun cdv A outer s H E hr a ha=>?_
  have hr1:Room 1 _:=hr.mono (by decide)
  have hlt:=mi_lt (m:=5) (by decide) ha
  by_cases h0:a=0
  · refine blk_rt (st_ifT (EvT.cast (et_eqT (ev_var 0) ev_str) (decide_eq_true ((wd_nil a ha).mpr h0))) (blk_rt (st_retE (Ev.cast (ev_tup ea_nil) ?_))))
    rw [h0]; exact cr_0
  · refine blk_cons (st_skip (EvT.cast (et_eqT (ev_var 0) ev_str) (decide_eq_false fun z=>h0 ((wd_nil a ha).mp z)))) ?_
    refine blk_rt (st_retE (Ev.cast (ev_tuple (ev_map (ks:=mi a) (g:=fun i=>D.str (sI i)) (f:=D.int) cok weak_id (ei_lst (Ev.cast (ev_split (ev_var 0) ev_str (by decide) (by have:=wd_len a ha; omega)) ?_)) (by have:=mi_len (a:=a); omega) (fun i hi cl C s₀ H₀ fp=>ev_call Fn i hr1 (ea1 (ev_var 0)) ⟨(hlt i hi).1,by have:=(hlt i hi).2; omega⟩)) B.tuple) rfl))
    rw [spl_wd h0 ha,List.map_map]
    rfl
theorem scCrowdsRead:FnScope ["text"] ["text"] (defScope sCrowdsRead):=⟨rfl,rfl,rfl,by decide +kernel,rfl,by decide +kernel,by decide +kernel⟩
theorem d_crsR (F:Fun K "crowds_read" "crowds_read" sCrowdsRead f fd)(Fc:pCrR P w K mg base):FnOk P w K mg base CX0 3 f fd ["text"] (PureSp K aRst (fun t=>t.length≤60 ∧ ∀a∈t,a < 32) fun t d=>d=crs t):=by
  refine fn_pure F scCrowdsRead (fun _=>rfl) fun cdv A outer s H E hr t ⟨hl,ht⟩=>?_
  have hr2:Room 2 _:=hr.mono (by decide)
  by_cases h0:t = []
  · subst h0
    exact blk_rt (st_ifT (EvT.cast (et_eqT (ev_var 0) ev_str) (decide_eq_true rst_nil)) (blk_rt (st_retE (ev_lst ea_nil))))
  · refine blk_cons (st_skip (EvT.cast (et_eqT (ev_var 0) ev_str) (decide_eq_false (rst_ne h0 ht)))) ?_
    refine blk_rt (st_retE (ev_map (ks:=t) (g:=fun a=>D.str (pc a)) (f:=cr) cok weak_id (ei_lst (Ev.cast (ev_split (ev_var 0) ev_str (by decide) (by have:=rst_len (by omega) ht; omega)) ?_)) (by omega) (fun a ha cl C s₀ H₀ fp=>ev_call Fc a hr2 (ea1 (Ev.cast (ev_slS (ev_var 0) (eo_some ev_int) eo_none (by have:=pc_len a (ht a ha); omega)) ?_)) (ht a ha))))
    · rw [spl_rst h0 ht,List.map_map]
      rfl
    · rw [pc_cut a (ht a ha)]
theorem scCouncilRead:FnScope ["many", "crowds"] ["many", "crowds"] (defScope sCouncilRead):=⟨rfl,rfl,rfl,by decide +kernel,rfl,by decide +kernel,by decide +kernel⟩
theorem d_couR (F:Fun K "council_read" "council_read" sCouncilRead f fd)(Mk:nMk P w K mg base C):FnOk P w K mg base CX0 8 f fd ["many", "crowds"] (PureSp K aInit (fun i=>OkR i.1 i.2) fun i d=>d=cns C i.2 (due i.1 i.2)):=by
  refine fn_pure F scCouncilRead (fun _=>rfl) fun cdv A outer s H E hr ⟨t,m⟩ ok=>?_
  have hr7:Room 7 _:=hr.mono (by decide)
  have hl:t.length≤60:=ok.2.1
  refine blk_rt (st_tryR fun E'=>blk_rt (st_ret (EvP.imp (EvN.toP (ev_makeN Mk (t,m) hr7 (ea2 (ev_var 0) (ev_var 1)) ⟨ok.1,by dsimp only; omega,ok.2.2⟩)) ?_)))
  rintro d ⟨fs,rfl,rfl⟩
  rfl
theorem scRead:FnScope ["text", "parts", "council"] ["text"] (defScope sRead):=⟨rfl,rfl,rfl,by decide +kernel,rfl,by decide +kernel,by decide +kernel⟩
theorem d_read (F:Fun K "read" "read" sRead f fd)(B:Blt mg)(Fn:pNumR P w K mg base)(Fc:pCrsR P w K mg base)(Fo:pCouR P w K mg base C)(Fs:pShown P w K mg base C):FnOk P w K mg base CX0 9 f fd ["text"] (PureSp K aTxt (fun i=>OkR i.1 i.2∧due i.1 i.2=i.1) fun i d=>d=cns C i.2 i.1):=by
  refine fn_pure F scRead (fun _=>rfl) fun cdv A outer s H E hr ⟨t,m⟩ ⟨ok,hd⟩=>?_
  dsimp only at ok hd
  have hr1:Room 1 _:=hr.mono (by decide)
  have hr2:Room 2 _:=hr.mono (by decide)
  have hr3:Room 3 _:=hr.mono (by decide)
  have hr8:Room 8 _:=hr.mono (by decide)
  have hm:m≤5:=ok.1.2
  have hl:t.length≤60:=ok.2.1
  have ht:=ok.lt
  have hz:=txt_len hm (by omega) ht
  refine blk_set 1 (d:=.lst [.str (sI m),.str (rst t)]) (Ev.cast (ev_split (ev_var 0) ev_str (by decide) (by dsimp only; omega)) ?_) ?_ scRead.nd
  · rw [spl_txt hm ht]
    rfl
  refine blk_cons (st_skip (EvT.cast (et_ne (ev_lenL (ev_var 1) B.len) ev_int) rfl)) ?_
  refine blk_set 2 (d:=cns C m t) (Ev.cast (ev_call Fo (t,m) hr8 (ea2 (ev_call Fn (m:Int) hr1 (ea1 (ev_ixL (ev_var 1) ev_int rfl)) ⟨by omega,by omega⟩) (ev_call Fc t hr3 (ea1 (ev_ixL (ev_var 1) ev_int rfl)) ⟨hl,ht⟩)) ok) (by dsimp only; rw [hd])) ?_ scRead.nd
  refine blk_cons (st_skip (EvT.cast (et_neT (ev_call Fs (t,m) hr2 (ea1 (ev_var 2)) ok) (ev_var 0)) (by dsimp only; simp))) ?_
  exact blk_rt (st_retE (ev_var 2))
end
end V
namespace V
open PySem PySem.Spec L2 DL Mth
structure Err (K:PySem.W.Frag)(mg:Str→Option Value)(x:Str)(CV C:Addr):Prop where
  c:ErrC K mg x C
  i:ErrI K C
  t:Catch K mg "VoteError" CV C
  v:PySem.W.kitOne K (.ref C) (.type "ValueError")=some true
  n:mg "ValueError" = none
def IsA (K:PySem.W.Frag)(mg:Str→Option Value)(C:Addr)(x:Str)(b:Bool):Prop:=∃C',mg x=some (.ref C')∧PySem.W.kitOne K (.ref C) (.ref C')=some b
theorem boot_VE:bootBuiltins "ValueError" = some (.type "ValueError"):=by decide +kernel
theorem suite_of {X:Cx}{sts:List Stmt}{δ δ':List En}{j:Nat}{C:Addr}(h:∀a oa,oa.cls=Value.ref C→SuiteB (cxH X a oa) j a sts δ δ'):Suite X sts δ δ' j C:=h
theorem pn_last {X:Cx}{a:Addr}{oa:Obj}:(a,oa)∈(cxH X a oa).pn:=List.mem_append_right _ (List.mem_singleton.mpr rfl)
end V
namespace V
open PySem PySem.Spec L2 DL Mth
def okFrom (a:Int)(m:Nat):List Int→Bool
  | []=>true
  | x::r=>decide (a < x) && decide (x < m) && okFrom x m r
def prvA (a:Int)(l:List Int)(j:Nat):Int:=if j=0 then a else l.getD (j - 1) 0
theorem okFrom_split {m:Nat}:∀ (l:List Int) (a:Int),okFrom a m l=false→∃n,n < l.length∧(∀j,j < n→prvA a l j < l.getD j 0∧l.getD j 0 < m)∧(l.getD n 0≤prvA a l n∨(m:Int)≤l.getD n 0)
  | [],_,h=>by unfold okFrom at h; cases h
  | x::r,a,h=>by
    unfold okFrom at h
    by_cases hx:a < x∧x < m
    · rw [decide_eq_true hx.1,decide_eq_true hx.2,Bool.true_and,Bool.true_and] at h
      obtain ⟨n,h1,h2,h3⟩:=okFrom_split r x h
      have e:∀j,prvA a (x::r) (j+1)=prvA x r j:=fun j=>by
        unfold prvA
        rw [if_neg (by omega),Nat.add_sub_cancel]
        by_cases hj:j=0
        · subst hj; rfl
        · rw [if_neg hj]
          obtain ⟨i,rfl⟩:∃i,j=i+1:=⟨j - 1,by omega⟩
          rfl
      refine ⟨n+1,by rw [List.length_cons]; omega,fun j hj=>?_,by rw [e]; exact h3⟩
      cases j with
      | zero=>exact ⟨hx.1,hx.2⟩
      | succ j=>rw [e]; exact h2 j (by omega)
    · refine ⟨0,by rw [List.length_cons]; omega,fun j hj=>absurd hj (by omega),?_⟩
      show x≤a∨(m:Int)≤x
      omega
theorem okFrom_all {m:Nat}:∀ (l:List Int) (a:Int),okFrom a m l=true→∀x∈l,a < x∧x < m
  | [],_,_,x,hx=>by cases hx
  | y::r,a,h,x,hx=>by
    unfold okFrom at h
    rw [Bool.and_eq_true,Bool.and_eq_true] at h
    have h1:=of_decide_eq_true h.1.1
    have h2:=of_decide_eq_true h.1.2
    rcases List.mem_cons.mp hx with rfl | hx
    · exact ⟨h1,h2⟩
    · have:=okFrom_all r y h.2 x hx
      exact ⟨by omega,this.2⟩
abbrev aBadC:List Int×Nat→List D:=fun i=>[.tup (i.1.map D.int),.int i.2]
section
variable {P:Program}{w:World}{K:PySem.W.Frag}{mg:Str→Option Value}{base:Heap}{f:Addr}{fd:FuncData}{C CV CN CS CB:Addr}
abbrev rChkSize (P:Program)(w:World)(K:PySem.W.Frag)(mg:Str→Option Value)(base:Heap)(CS:Addr):Prop:=RFn P w K mg base "check_size" 1 aInt (fun n=>n < 1∨5 < n) CS
theorem d_chkSizeR {tk:Tok}(F:Fun K "check_size" "check_size" sChkSize f fd)(hM:mg "MOST_MEMBERS" = some (.int 5 tk))(e:Err K mg "BadSize" CV CS):FnOk P w K mg base (CXE P w) 1 f fd ["many"] (RaiseSp K aInt (fun n=>n < 1∨5 < n) CS):=by
  refine fn_raise F scChkSize (fun _=>rfl) fun cdv A outer s H E hr n hn=>blkx_now (stmx_ifT (EvT.cast (et_or (et_lt (ev_var 0) ev_int) (fun _=>et_gt (ev_var 0) (ev_globI hM))) ?_) (blkx_now (stmx_raise e.c hr.hd ev_str)))
  rcases hn with h | h
  · rw [decide_eq_true h,Bool.true_or]
  · rw [decide_eq_true h,Bool.or_true]
abbrev rChkCrowd (P:Program)(w:World)(K:PySem.W.Frag)(mg:Str→Option Value)(base:Heap)(CB:Addr):Prop:=RFn P w K mg base "check_crowd" 1 aBadC (fun i=>okFrom (-1) i.2 i.1=false) CB
def enBad (l:List Int)(m j:Nat):List En:=[.da (.tup (l.map D.int)),.da (.int m),.da (.int (prvA (-1) l j)),if j=0 then .no else .da (.int (l.getD (j - 1) 0))]
theorem d_chkCrowdR (F:Fun K "check_crowd" "check_crowd" sChkCrowd f fd)(e:Err K mg "BadCrowd" CV CB):FnOk P w K mg base (CXE P w) 1 f fd ["crowd", "many"] (RaiseSp K aBadC (fun i=>okFrom (-1) i.2 i.1=false) CB):=by
  refine fn_raise F scChkCrowd (fun _=>rfl) fun cdv A outer s H E hr ⟨l,m⟩ hbad=>?_
  dsimp only at hbad
  obtain ⟨n,hn,h1,h2⟩:=okFrom_split l (-1) hbad
  refine blkx_set 2 (d:=.int (-1)) (ev_neg ev_int) ?_ scChkCrowd.nd
  have eg:∀j,(hj:j < l.length)→l.getD j 0=l[j]:=fun j hj=>by rw [List.getD_eq_getElem?_getD,List.getElem?_eq_getElem hj]; rfl
  refine blkx_now (stmx_for 3 n (fun j=>enBad l m j) (ei_tup (ev_var 0)) rfl (fun j d hj hd=>?_) (d:=.int l[n]) (by rw [List.getElem?_map,List.getElem?_eq_getElem hn]; rfl) ?_ PassesOwn.leaving rfl scChkCrowd.nd)
  · obtain ⟨hj',rfl⟩:=map_get hd
    obtain ⟨q1,q2⟩:=h1 j hj
    rw [eg j hj'] at q1 q2
    unfold enBad
    refine Blk.nxc (blk_cons (st_skip (EvT.cast (et_or (et_le (ev_var 3) (ev_var 2)) (fun _=>et_ge (ev_var 3) (ev_var 1))) ?_)) (blk_set 2 (ev_var 3) blk_nil scChkCrowd.nd)) ?_
    · dsimp only
      rw [decide_eq_false (by omega),decide_eq_false (by omega)]
      rfl
    · simp [prvA,List.getD_eq_getElem?_getD,List.getElem?_eq_getElem hj']
  · unfold enBad
    refine blkx_now (stmx_ifT (EvT.cast (et_or (et_le (ev_var 3) (ev_var 2)) (fun _=>et_ge (ev_var 3) (ev_var 1))) ?_) (blkx_now (stmx_raise e.c hr.hd ev_str)))
    rw [eg n hn] at h2
    rcases h2 with h | h
    · rw [decide_eq_true h,Bool.true_or]
    · rw [decide_eq_true h,Bool.or_true]
end
end V
namespace V
open PySem PySem.Spec L2 DL Mth
abbrev tI (l:List Int):D:=.tup (l.map D.int)
abbrev aInitS:Int×D→List D:=fun i=>[.int i.1,i.2]
section
variable {P:Program}{w:World}{K:PySem.W.Frag}{mg:Str→Option Value}{base:Heap}{f:Addr}{fd:FuncData}{C CV CN CS CB:Addr}
abbrev rMkS (P:Program)(w:World)(K:PySem.W.Frag)(mg:Str→Option Value)(base:Heap)(C CS:Addr):Prop:=RMk P w K mg base "Council" C 2 aInitS (fun i=>i.1 < 1∨5 < i.1) CS
theorem d_initS (F:Fun K "__init__" "Council.__init__" sInit f fd)(R:rChkSize P w K mg base CS):FnOk P w K mg base (CXE P w) 2 f fd ["self", "many", "crowds"] (RaiseIn K C aInitS (fun i=>i.1 < 1∨5 < i.1) CS):=
  fn_raiseI F scInit (fun _=>rfl) fun cdv A outer s H E hr ⟨n,d⟩ hn=>blkx_now (stmx_expr (evx_call R n hr (ea1 (ev_var 1)) hn))
end
end V
namespace DL
open PySem PySem.Spec PyProof.Rows L2
section
variable {K:PySem.W.Frag}{H0 H H':Hp}{L0 L:Addr→Prop}{δ:List En}{σ:St}{i:Nat}{t:Str}{ns:List Int}{b:Int}
def noOw (δ:List En):Prop:=∀ (j:Nat) ds,δ[j]? ≠ some (.ow ds)
end
end DL
namespace DL
open PySem PySem.Spec PyProof.Rows L2 PySem.W PySem.Calls
structure CatchB (K:PySem.W.Frag)(mg:Str→Option Value)(x:Str)(CV C:Addr)(b:Bool):Prop where
  bound:mg x=some (.ref CV)
  hc:(clsIn K CV).isSome=true
  hT:typeIn K (.ref CV)=some (.type "type")
  hB:mroIn K CV (.type "BaseException")=some true
  hS:mroIn K C (.ref CV)=some b
end DL
namespace DL
open PySem PySem.Spec PyProof.Rows L2 PySem.W
section
variable {M:Model}{A:Around}{E:Value→Shared→Prop}{s:Shared}{base:Heap}{env:Env}{outer:List Env}{L e:Addr}
theorem note_any {cls a0 fl:Value}{Q:Unit→Shared→Prop}(hfr:A.frames=some (env::outer))(hf:env.frame=some L)(b1:base.StaysIn s.heap)(b2:base.get? e=none)(b3:s.heap.FunFrames base (env::outer))(b4:s.heap.TracedAtW base e cls a0 fl)(k:∀h',base.StaysIn h'→h'.FunFrames base (env::outer)→h'.TracedAtW base e cls a0 (rawInt L)→s.heap.UpToSlots h'→Q () { s with heap:=h' }):wpAny M A (noteFrame (.ref e) env) Q E s:=by
  by_cases hL:fl=rawInt L
  · subst hL
    exact wpAny_noteFrame_againW hf b4 (k _ b1 b3 b4 (.refl _))
  · obtain ⟨oe,vs,T,oT,ts,d1,⟨rfl,d3⟩,d4,d5,d6,d7,d8,d9,d10⟩:=b4
    have oth:∀b,b ≠ T→(s.heap.update T (Obj.mapFields fun a=>a.setIfInBounds 3 Value.none)).get? b=s.heap.get? b:=fun b hb=>Heap.get?_update_other _ _ (Ne.symm hb)
    have nT:∀b o,s.heap.get? b=some o→(∀vs,o.data ≠ .fields vs)→b ≠ T:=fun b o q n z=>by
      rw [z,d8] at q
      cases q
      exact n ts d9
    unfold noteFrame
    simp only [hf]
    refine wpAny_bind (wpAny_field d1 d4 d5 ?_)
    rw [if_pos (by simp)]
    refine wpAny_bind (wpAny_field d8 d9 d10 ?_)
    rw [if_neg (by simpa using hL)]
    refine wpAny_bind (wpAny_setField d8 d9 (Array.getElem?_eq_some_iff.mp d10).1 ?_)
    refine wpAny_entryW hfr (b3.of_keeps fun b o q n=>⟨o,(oth b (nT b o q n)).trans q,rfl⟩) hf ((oth e (Ne.symm d7)).trans d1) (fun b o q=>(oth b fun z=>by rw [z,d6] at q; cases q).trans (b1 b o q)) b2 d4 (Array.getElem?_eq_some_iff.mp d5).1 d3 fun h' ⟨x1,x2,x3,x4⟩=>?_
    exact k h' x1 x2 x3 fun b o q n=>x4 b o ((oth b (nT b o q n)).trans q) n
theorem note_any_G3 {cls a0 fl:Value}(hfr:A.frames=some (env::outer))(hl:s.heap.FunFrames base (env::outer))(hf:env.frame=some L)(ht:s.heap.TracedAtW base e cls a0 fl)(x:G2 e s.heap):wpAny M A (noteFrame (.ref e) env) (fun _ s'=>G3 e s'.heap) E s:=by
  by_cases hL:fl=rawInt L
  · subst hL
    exact wpAny_noteFrame_againW hf ht (g3_of ht x)
  · obtain ⟨oe,vs,T,oT,ts,b1,b2,b3,b4,b5,b6,b7,b8,b9⟩:=ht
    obtain ⟨o2,v2,c1,c2,c3⟩:=x
    rw [b1] at c1
    cases c1
    rw [b3] at c2
    cases c2
    unfold noteFrame
    simp only [hf]
    refine wpAny_bind (wpAny_field b1 b3 b4 ?_)
    rw [if_pos (by simp)]
    refine wpAny_bind (wpAny_field b7 b8 b9 ?_)
    rw [if_neg (by simpa using hL)]
    refine wpAny_bind (wpAny_setField b7 b8 (Array.getElem?_eq_some_iff.mp b9).1 ?_)
    refine ent_G3 hfr (hl.of_keeps fun b o q n=>⟨o,(Heap.get?_update_other _ _ fun z=>?_).trans q,rfl⟩) hf ((Heap.get?_update_other _ _ b6).trans b1) b3 c3
    rw [← z,b7] at q
    cases q
    exact n ts b8
theorem note_env {x:Value}{env':Env}(h:env'.frame=env.frame):noteFrame x env'=noteFrame x env:=by
  unfold noteFrame PySem.frameOf
  rw [h]
end
end DL
namespace DL
open PySem PySem.Spec PyProof.Rows L2 PySem.W
theorem frames_sub {h h' B B':Heap}:∀ {l:List Env},h.FunFrames B l→(∀b∈frs l,∀o,h.get? b=some o→∃o',h'.get? b=some o'∧o'.data=o.data)→(∀b,B.get? b=none→B'.get? b=none)→h'.FunFrames B' l
  | [],_,_,_=>trivial
  | env::l,⟨a1,⟨L,o,a2,a3,a4,a5⟩,a6⟩,k,q=>by
    have hm:L∈frs (env::l):=List.mem_filterMap.mpr ⟨env,List.mem_cons_self,a2⟩
    obtain ⟨o',b1,b2⟩:=k L hm o a4
    refine ⟨a1,⟨L,o',a2,q L a3,b1,fun vs z=>a5 vs (by rw [← b2]; exact z)⟩,frames_sub a6 (fun b hb=>k b ?_) q⟩
    obtain ⟨e,he,hf⟩:=List.mem_filterMap.mp hb
    exact List.mem_filterMap.mpr ⟨e,List.mem_cons_of_mem _ he,hf⟩
section
variable {X:Cx}{scope:Scope}{x:Str}{N₁:List Str}{pins P:List (Addr×Obj)}{σ σ':St}{H2 H8 H0:Hp}{s2 s8:Shared}{C Cc:Addr}{fp:List Addr}{cl:List (Str×Addr)}{m:Bool}{XE:Value→Shared→Prop}
abbrev cxCompX (X:Cx)(scope:Scope)(N':List Str)(cl:List (Str×Addr))(C:Addr)(s₀:Shared)(H₀:Hp)(fp:List Addr)(XE:Value→Shared→Prop):Cx:=(cxComp X scope N' cl C s₀ H₀ fp).wish XE
theorem compx_xe (I2:Inv X pins σ H2 s2)(f2:∀b∈fp,FpOk X pins H2 b)(hC:s2.heap.objs.size≤C)(J:Inv (cxCompX X scope (x::N₁) cl C s2 H2 fp XE) P σ' H8 s8)(hst:X.stack=X.env::X.outer)(hfr:X.env.frame=some X.env.locals)(k:XOk X m H0 Cc){e:Value}{s':Shared}(hx:CXH X.prog X.w X.stack H8 s8 (fun c x H'=>c = .ref Cc∧x=none∧Same H0 H') e s') :
    notedBy (model X.prog X.w) X.A (compEnvC scope cl C X.env) (fun z s''=>∃mm,s''.heap.Ns C mm ∧ ∀h',Heap.SameBut C s''.heap h'→∀cenv:Env,cenv.locals=C→wpAny (model X.prog X.w) X.A (passOn "comprehension.variables-let-go" z cenv:Sem Value) (fun _ _=>False) X.xe { s'' with heap:=h' }) e s':=by
  obtain ⟨a,cls,a0,fl,B,H',rfl,⟨g1,g2,g3,g4⟩,os,bare,un,hok,cov,trk,xx,hg,rfl,hx0,sm⟩:=hx
  have hfrm:X.A.frames=some (X.env::X.outer):=hst ▸ I2.ok.frames
  have hCs:C ∉ frs X.stack:=fun z=>by
    rcases List.mem_cons.mp (I2.stkSub C z) with q | q
    · exact Nat.lt_irrefl _ (Nat.lt_of_lt_of_le I2.lt (q ▸ hC))
    · exact I2.nofs hC q
  obtain ⟨mm,hns,_⟩:=J.loc
  have hns:s8.heap.Ns C mm:=hns
  obtain ⟨oC,es,epc,hoC,hnr⟩:=id hns
  have hHC:H8 C=none:=J.free
  have hC':s'.heap.get? C=some oC:=un.keep C oC hoC hHC hCs (by simp)
  have hH'C:H' C=none:=un.free C oC hoC hHC (by simp)
  obtain ⟨oB,hBC⟩:=cov C oC hoC hCs
  have hns':s'.heap.Ns C mm:=⟨oC,es,epc,hC',hnr⟩
  show wpAny _ _ (noteFrame (.ref a) (compEnvC scope cl C X.env)) _ _ s'
  rw [note_env (env':=compEnvC scope cl C X.env) (env:=X.env) rfl]
  have g3':s'.heap.FunFrames B (X.env::X.outer):=hst ▸ g3
  refine wp2 (Q:=fun _ s1=>∃h1,s1 = { s' with heap:=h1 }∧B.StaysIn h1∧h1.FunFrames B (X.env::X.outer)∧h1.TracedAtW B a (.ref Cc) a0 (rawInt X.env.locals)∧s'.heap.UpToSlots h1)
    (note_any hfrm hfr g1 g2 g3' g4 fun h1 k1 k2 k3 k4=>⟨h1,rfl,k1,k2,k3,k4⟩) (note_any_G3 (E:=fun _ _=>True) hfrm g3' hfr g4 (hg hx0)) ?_
  rintro _ _ ⟨h1,rfl,k1,k2,k3,k4⟩ kg
  refine ⟨mm,k4.ns hns',fun h' hs' cenv hce=>?_⟩
  obtain ⟨oe,vs,T,oT,ts,d1,d2,d4,d5,d6,d7,d8,d9,d10⟩:=k3
  have naC:a ≠ C:=fun z=>by rw [z,hBC] at g2; cases g2
  have nTC:T ≠ C:=fun z=>by rw [z,hBC] at d6; cases d6
  have e1:h'.get? a=some oe:=(hs'.2 a naC).trans d1
  have eT:h'.get? T=some oT:=(hs'.2 T nTC).trans d8
  unfold PySem.passOn
  refine wpAny_bind (wpAny_field e1 d4 d5 ?_)
  rw [if_neg (by simp)]
  dsimp only
  unfold setFlight
  refine wpAny_bind (wpAny_bind (wpAny_field e1 d4 d5 ?_))
  rw [if_pos (by simp)]
  refine wpAny_setField eT d9 (Array.getElem?_eq_some_iff.mp d10).1 (wpAny_throw ?_)
  generalize hv:(cenv.frame.elim Value.none fun f=>rawInt f)=v
  have oth:∀b,b ≠ T→(h'.update T (Obj.mapFields fun a=>a.setIfInBounds 3 v)).get? b=h'.get? b:=fun b hb=>Heap.get?_update_other _ _ (Ne.symm hb)
  have hT3:=Obj.data_mapFields d9 (fun a=>a.setIfInBounds 3 v)
  have eT3:=Heap.get?_update_self (Obj.mapFields fun a=>a.setIfInBounds 3 v) eT (Obj.isFreed_of_fields hT3)
  have nf:∀b o,s'.heap.get? b=some o→(∀vs,o.data ≠ .fields vs)→b ≠ C→∃sl,(h'.update T (Obj.mapFields fun a=>a.setIfInBounds 3 v)).get? b=some { o with slots:=sl }:=fun b o q n hb=>by
    obtain ⟨sl,q1⟩:=k4 b o q n
    refine ⟨sl,(oth b fun z=>?_).trans ((hs'.2 b hb).trans q1)⟩
    rw [z,d8] at q1
    cases q1
    exact n ts d9
  have frN:∀b∈frs X.stack,b ≠ C:=fun b hb z=>hCs (z ▸ hb)
  have frD:∀b∈frs X.stack,∀o,s'.heap.get? b=some o→∀vs,o.data ≠ .fields vs:=fun b hb o q=>by
    obtain ⟨_,o',q',hd'⟩:=g3.mem hb
    rw [q] at q'
    cases q'
    exact hd'
  have hB':∀b o,(hideAll B [C]).get? b=some o→b ≠ C∧B.get? b=some o:=fun b o q=>by
    refine ⟨fun z=>?_,of_hideAll _ q⟩
    rw [z,hideAll_none [C] (List.mem_singleton.mpr rfl)] at q
    cases q
  have toB':∀b o,B.get? b=some o→b ≠ C→(hideAll B [C]).get? b=some o:=fun b o q n=>hideAll_get _ q fun z=>n (List.mem_singleton.mp z)
  have stB':(hideAll B [C]).StaysIn s'.heap:=fun b o q=>g1 b o (hB' b o q).2
  have st3:(hideAll B [C]).StaysIn (h'.update T (Obj.mapFields fun a=>a.setIfInBounds 3 v)):=fun b o q=>by
    obtain ⟨n,q⟩:=hB' b o q
    exact (oth b fun z=>by rw [z,d6] at q; cases q).trans ((hs'.2 b n).trans (k1 b o q))
  have off:∀b,B.get? b=none→(hideAll B [C]).get? b=none:=fun b q=>by
    cases z:(hideAll B [C]).get? b with
    | none=>rfl
    | some o=>rw [(hB' b o z).2] at q; cases q
  have hS:∀b o,(hideAll s8.heap [C]).get? b=some o→b ≠ C∧s8.heap.get? b=some o:=fun b o q=>by
    refine ⟨fun z=>?_,of_hideAll _ q⟩
    rw [z,hideAll_none [C] (List.mem_singleton.mpr rfl)] at q
    cases q
  have neC:∀b,b < s2.heap.objs.size→b ≠ C:=fun b hb=>Nat.ne_of_lt (Nat.lt_of_lt_of_le hb hC)
  have toS:∀b o,s8.heap.get? b=some o→b ≠ C→(hideAll s8.heap [C]).get? b=some o:=fun b o q n=>hideAll_get _ q fun z=>n (List.mem_singleton.mp z)
  have u:Un (frs X.stack) fp H2 H8 s2.heap s8.heap:=J.base
  have Is:Inv X pins σ H8 { s8 with heap:=hideAll s8.heap [C] }:=by
    refine I2.call' (s':={ s8 with heap:=hideAll s8.heap [C] }) (ch:=fp) J.os ⟨fun b o q n h1 h2=>?_,fun b o q n h1 h2=>?_,u.free,fun b o q h2=>?_,u.tups,u.frzs,u.tbls⟩ (fun b ob q=>?_) J.bare fun b hb=>⟨(f2 b hb).2.2.2.1,(f2 b hb).2.1,(f2 b hb).2.2.2.2.1,(f2 b hb).2.2.2.2.2⟩
    · exact toS b o (u.keep b o q n h1 h2) (neC b (Heap.lt_size q))
    · obtain ⟨sl,q1⟩:=u.slot b o q n h1 h2
      exact ⟨sl,toS b _ q1 (neC b (Heap.lt_size q))⟩
    · obtain ⟨o',q1⟩:=u.there b o q h2
      exact ⟨o',toS b o' q1 (neC b (Heap.lt_size q))⟩
    · refine (J.hok b ob q).stay (fun c w' hc q1=>toS c w' q1 fun z=>?_) (fun _ z=>z) fun _ _ z=>z
      rcases hc with rfl | hc
      · rw [z,hHC] at q; cases q
      · rw [z,hHC] at hc; cases hc
  refine k.2.2 pins σ H8 { s8 with heap:=hideAll s8.heap [C] } (.ref a) _ Is ⟨a,.ref Cc,a0,v,hideAll B [C],H',rfl,⟨st3,off a g2,?_,?_⟩,os,bare,?_,?_,fun b o q hb=>?_,fun b o q=>?_,xx,fun _=>?_,rfl,hx0,sm⟩
  · refine frames_sub g3 (fun b hb o q=>?_) off
    obtain ⟨sl,q1⟩:=nf b o q (frD b hb o q) (frN b hb)
    exact ⟨_,q1,rfl⟩
  · exact ⟨oe,vs,T,_,_,(oth a (Ne.symm d7)).trans e1,d2,d4,d5,off T d6,d7,eT3,hT3,by simp [(Array.getElem?_eq_some_iff.mp d10).1]⟩
  · refine ⟨fun b o q n hb _=>?_,fun b o q n hb _=>?_,fun b o q n _=>un.free b o (hS b o q).2 n (by simp),fun b o q _=>?_,un.tups,un.frzs,un.tbls⟩
    · obtain ⟨nC,q⟩:=hS b o q
      have q1:=un.keep b o q n hb (by simp)
      obtain ⟨o',hB⟩:=cov b o q hb
      have:=g1 b o' hB
      rw [q1] at this
      cases this
      exact st3 b o (toB' b o hB nC)
    · obtain ⟨nC,q⟩:=hS b o q
      obtain ⟨sl,q1⟩:=un.slot b o q n hb (by simp)
      obtain ⟨sl2,q2⟩:=nf b _ q1 (frD b hb _ q1) nC
      exact ⟨sl2,q2⟩
    · obtain ⟨nC,q⟩:=hS b o q
      by_cases hb:b∈frs X.stack
      · obtain ⟨o1,q1⟩:=un.there b o q (by simp)
        obtain ⟨sl,q2⟩:=nf b o1 q1 (frD b hb o1 q1) nC
        exact ⟨_,q2⟩
      · obtain ⟨o',hB⟩:=cov b o q hb
        exact ⟨o',st3 b o' (toB' b o' hB nC)⟩
  · refine hok_on hok (B:=hideAll B [C]) (fun b o q=>?_) stB' st3
    obtain ⟨o',hB⟩:=trk b o q
    exact ⟨o',toB' b o' hB fun z=>by rw [z,hH'C] at q; cases q⟩
  · obtain ⟨nC,q⟩:=hS b o q
    obtain ⟨o',hB⟩:=cov b o q hb
    exact ⟨o',toB' b o' hB nC⟩
  · obtain ⟨o',hB⟩:=trk b o q
    exact ⟨o',toB' b o' hB fun z=>by rw [z,hH'C] at q; cases q⟩
  · obtain ⟨oe',vs',T',oT',ts',w1,w2,w3,w4,w5,_⟩:=kg
    rw [d1] at w1
    cases w1
    exact ⟨oe,vs',(oth a (Ne.symm d7)).trans e1,w2,w3⟩
end
end DL
namespace DL
open PySem PySem.Spec PyProof.Rows L2 PySem.W
theorem comp_loopX {prog:Program}{w:World}{A:Around}{R:Result→Shared→Prop}{s:Shared}{elt target iter:Expr}{ifs:List Expr}{scope:Scope}{pos:Pos}{it acc:Value}{env:Env}(I:Nat→Shared→Prop)(turn:∀n s,I n s→wpAny (model prog w) A (pyNext it) (fun r s₁=>match r with
      | none=>R (.ok .next) s₁
      | some v=>wpAny (model prog w) A (letOwnedTupleGo target it v) (fun _ s₁=>wpAny (model prog w) A (assign target env v) (fun _ s₂ =>
          wpAny (model prog w) A (forIn ifs true fun c r=>if r=true then do let ok ← isTrue c env (eval c env); pure (ForInStep.yield ok) else pure (ForInStep.yield r)) (fun ok s₃ =>
            if ok=true then wpAny (model prog w) A (eval elt env) (fun x s₄ =>
              wpAny (model prog w) A (call (.builtin "list.append") [acc,x]) (fun _ s₅=>∃m,m < n∧I m s₅) (fun _ _=>False) s₄) (notedBy (model prog w) A env fun x s'=>R (.error x) s') s₃
            else ∃m,m < n∧I m s₃) (fun _ _=>False) s₂) (fun _ _=>False) s₁) (fun _ _=>False) s₁) (fun _ _=>False) s)(n:Nat)(h:I n s):codeAny (model prog w) A (.compLoop (.ListComp elt [⟨target,iter,ifs,0⟩] scope pos) 0 it acc env) R s:=by
  refine codeAny_loop rfl I (fun n s hI=>?_) n h
  show wpAny _ A ((compTurn (.ListComp elt [⟨target,iter,ifs,0⟩] scope pos) 0 it acc env).onRaise (fun x=>do noteFrame x env; theTreesLotGoes x)) _ _ s
  refine wpAny_noted ?_
  rw [compTurn_list]
  refine wpAny_bind (wpAny_standAt (wpAny_bind (wpAny_mono (turn n s hI) (fun r s₁ h₁=>?_) fun _ _ h'=>h'.elim)))
  cases r with
  | none=>exact wpAny_pure h₁
  | some v =>
    refine wpAny_bind (wpAny_mono h₁ (fun _ s₁' h₁=>?_) fun _ _ h'=>h'.elim)
    refine wpAny_bind (wpAny_mono h₁ (fun _ s₂ h₂=>wpAny_bind (wpAny_mono h₂ (fun ok s₃ h₃=>?_) fun _ _ h'=>h'.elim)) fun _ _ h'=>h'.elim)
    cases ok with
    | false=>exact wpAny_pure ⟨rfl,h₃⟩
    | true =>
      exact wpAny_bind (wpAny_bind (wpAny_mono h₃ (fun x s₄ h₄=>wpAny_bind (wpAny_mono h₄ (fun _ s₅ h₅=>wpAny_pure (wpAny_pure ⟨rfl,h₅⟩)) fun _ _ h'=>h'.elim)) fun _ _ z=>z))
section
variable {X:Cx}{elt iter:Expr}{x:Str}{px:Pos}{scope:Scope}{pos:Pos}{N₁:List Str}
def CompWX (X:Cx)(scope:Scope)(x:Str)(N₁:List Str)(elt:Expr)(σ₁:St)(H0:Hp)(Cc:Addr):It→Hp→Prop:=fun J H1=>∃W:Nat→Nat→List V→Hp→Prop,(∃m,W 0 m [] H1) ∧ ∀i m ys H2,W i m ys H2 →
  (J.go i H2∧ys.length < sizeLine ∧ ∀v H3,J.yld i H2 v H3→∀cl C s₀ H₀ fp XE,XOk (cxCompX X scope (x::N₁) cl C s₀ H₀ fp XE) false H0 Cc→WE (cxCompX X scope (x::N₁) cl C s₀ H₀ fp XE) elt (some v::σ₁) H3 fun y H5=>∃m',m' < m∧W (i+1) m' (ys ++ [y]) H5)
theorem comp_blockX {m:Bool}{H0:Hp}{Cc:Addr}{pins:List (Addr×Obj)}{σ σ₁:St}{H2:Hp}{s2:Shared}{cl:List (Str×Addr)}{it:Addr}{fp:List Addr}{tn:Nat→Heap→Prop}{J:It}{RR:Value→Addr→Result→Shared→Prop}(O:CompOk X scope x N₁)(hl1:σ₁.length=N₁.length)(hσ:∀ (i:Nat) (y:Str) (v:V),N₁[i]? = some y→σ₁[i]? = some (some v)→X.N[i]? = some y∧σ[i]? = some (some v))(c1:∀y c,cl.lookup y=some c→X.env.cells.lookup y=some c)(c2:∀y,(y,NameKind.free)∈scope.names→∃c,cl.lookup y=some c)(I2:Inv X pins σ H2 s2)(T:Turn X.prog X.w X.K (.Name x px) J fp it tn)(st2:tn 0 s2.heap)(f2:∀b∈fp,FpOk X pins H2 b)(h:CompWX X scope x N₁ elt σ₁ H0 Cc J H2)(hst:X.stack=X.env::X.outer)(hfr:X.env.frame=some X.env.locals)(kX:XOk X m H0 Cc)(hRR:∀D C z s'',(∃mm,s''.heap.Ns C mm ∧ ∀h',Heap.SameBut C s''.heap h'→∀cenv:Env,cenv.locals=C→wpAny (model X.prog X.w) X.A (passOn "comprehension.variables-let-go" z cenv:Sem Value) (fun _ _=>False) X.xe { s'' with heap:=h' })→RR (.ref D) C (.error z) s''){E:Value→Shared→Prop} :
    wpAny (model X.prog X.w) X.A (newList []) (fun acc s₃=>wpAny (model X.prog X.w) X.A (newFunctionEnv scope X.env.globals cl [] X.env.qual none .none (some X.env)) (fun cenv s₄ =>
      codeAny (model X.prog X.w) X.A (.compStart (.ListComp elt [⟨.Name x px,iter,[],0⟩] scope pos) 0 (.ref it) acc { cenv with scope:=relabel scope X.env }) (RR acc cenv.locals) s₄) E s₃) E s2:=by
  obtain ⟨W,⟨m0,w0⟩,turn⟩:=h
  let XX:Addr→Value→Shared→Prop:=fun C=>notedBy (model X.prog X.w) X.A (compEnvC scope cl C X.env) (fun z s''=>∃mm,s''.heap.Ns C mm ∧ ∀h',Heap.SameBut C s''.heap h'→∀cenv:Env,cenv.locals=C→wpAny (model X.prog X.w) X.A (passOn "comprehension.variables-let-go" z cenv:Sem Value) (fun _ _=>False) X.xe { s'' with heap:=h' })
  refine wpAny_newObj_type (wpAny_newFunctionEnv O.cell (by intro y hy; simp at hy) (fun h₁ hns₁ hsb₁=>?_) O.kind)
  dsimp only at hns₁ hsb₁ ⊢
  generalize hG:s2.heap.push { cls:=.type "list",dict:=none,data:=.seq ([]:List Value).toArray }=G at hns₁ hsb₁ ⊢
  have hC:G.objs.size=s2.heap.objs.size+1:=by rw [← hG,Heap.size_push]
  have hDC:s2.heap.objs.size ≠ G.objs.size:=by rw [hC]; exact Nat.ne_of_lt (Nat.lt_succ_self _)
  have hCle:s2.heap.objs.size≤G.objs.size:=by rw [hC]; exact Nat.le_succ _
  have below:∀b,b < s2.heap.objs.size→b ≠ G.objs.size∧b ≠ s2.heap.objs.size:=fun b hb=>⟨by rw [hC]; exact Nat.ne_of_lt (Nat.lt_succ_of_lt hb),Nat.ne_of_lt hb⟩
  have old:∀b o,s2.heap.get? b=some o→h₁.get? b=some o:=fun b o e=>hsb₁.extBut b o (below b (Heap.lt_size e)).1 (Heap.get?_push_of_some _ (hG ▸ Heap.get?_push_of_some _ e))
  have hacc:h₁.get? s2.heap.objs.size=some { cls:=.type "list",data:=.seq ([]:List Value).toArray 0 }:=hsb₁.extBut _ _ hDC (Heap.get?_push_of_some _ (hG ▸ Heap.get?_push_size _ rfl))
  have hfp:∀b∈fp,b < s2.heap.objs.size:=fun b hb=>by
    obtain ⟨o,e,_⟩:=T.obj 0 _ st2 b hb
    exact Heap.lt_size e
  have I4:Inv (cxCompX X scope (x::N₁) cl G.objs.size s2 H2 fp (XX G.objs.size)) (X.pn++pins) (none::σ₁) H2 { s2 with heap:=h₁,toks:=s2.toks+([]:List (Str×Value)).length }:=
    (comp_inv (s4:={ s2 with heap:=h₁,toks:=s2.toks+([]:List (Str×Value)).length }) O I2 f2 hl1 hσ c1 c2 hCle hfp hns₁ old ⟨rfl,rfl⟩).wish _
  have st4:tn 0 h₁:=T.keep 0 _ _ st2 fun b hb o e=>old b o e
  have cellLt:∀y c,cl.lookup y=some c→c < s2.heap.objs.size:=fun y c e=>by
    obtain ⟨v,o,ho,_⟩:=I2.cell y c (c1 y c e)
    exact Heap.lt_size ho
  have hDc:∀y c,cl.lookup y=some c→c ≠ s2.heap.objs.size:=fun y c e=>Nat.ne_of_lt (cellLt y c e)
  have hDfs:s2.heap.objs.size ∉ frs X.stack:=fun hb=>by
    rcases List.mem_cons.mp (I2.stkSub _ hb) with z | z
    · exact absurd I2.lt (by rw [z]; exact Nat.lt_irrefl _)
    · exact I2.nofs (Nat.le_refl _) z
  have stat:∀ {P:List (Addr×Obj)}{H':Hp},(∀b∈fp,H' b=none)→(∀p∈P,p.1 ∉ fp)→∀b∈fp,FpOk (cxCompX X scope (x::N₁) cl G.objs.size s2 H2 fp (XX G.objs.size)) P H' b:=fun {P H'} hn hP b hb =>
    ⟨hn b hb,(below b (hfp b hb)).1,fun z=>by
      rcases List.mem_cons.mp (I2.stkSub b z) with z | z
      · exact (f2 b hb).2.1 z
      · exact (f2 b hb).2.2.1 z,.inl hb,fun y c e=>(f2 b hb).2.2.2.2.1 y c (c1 y c e),fun p hp z=>hP p (by simpa [cxComp] using hp) (by rw [z]; exact hb)⟩
  have pns:∀p∈X.pn++pins,p.1 ∉ fp:=fun p hp z=>(f2 p.1 z).2.2.2.2.2 p hp rfl
  have pnD:∀p∈X.pn++pins,p.1 ≠ s2.heap.objs.size:=fun p hp=>Nat.ne_of_lt (Heap.lt_size (I2.pin p hp).1)
  have loop:∀s₃:Shared,s₃ = { s2 with heap:=h₁,toks:=s2.toks+([]:List (Str×Value)).length } →
      codeAny (model X.prog X.w) X.A (.compLoop (.ListComp elt [⟨.Name x px,iter,[],0⟩] scope pos) 0 (.ref it) (.ref s2.heap.objs.size) (compEnvC scope cl G.objs.size X.env))
        (RR (.ref s2.heap.objs.size) G.objs.size) s₃:=by
    rintro s₃ rfl
    refine comp_loopX (fun n s'=>∃i ys its k ov H3,Inv (cxCompX X scope (x::N₁) cl G.objs.size s2 H2 fp (XX G.objs.size)) (X.pn++pins) (ov::σ₁) H3 s'∧tn i s'.heap∧(∀b∈fp,H3 b=none)∧H3 s2.heap.objs.size=none ∧
      s'.heap.get? s2.heap.objs.size=some { cls:=.type "list",data:=.seq its.toArray k }∧Vals ys its∧W i n ys H3) ?_ m0 ⟨0,[],[],0,none,H2,I4,st4,fun b hb=>(f2 b hb).1,I2.hok.fresh (Nat.le_refl _),hacc,.nil,w0⟩
    rintro n s3 ⟨i,ys,its,k,ov,H3,I3,st3,fr3,hD3,ho3,rv,w3⟩
    have pinD:∀ {P:List (Addr×Obj)}{σ':St}{H':Hp}{s':Shared}{its':List Value}{k':Nat},Inv (cxCompX X scope (x::N₁) cl G.objs.size s2 H2 fp (XX G.objs.size)) P σ' H' s'→H' s2.heap.objs.size=none →
        s'.heap.get? s2.heap.objs.size=some { cls:=.type "list",data:=.seq its'.toArray k' }→Inv (cxCompX X scope (x::N₁) cl G.objs.size s2 H2 fp (XX G.objs.size)) (P ++ [(s2.heap.objs.size,{ cls:=.type "list",data:=.seq its'.toArray k' })]) σ' H' s':=fun {P σ' H' s' its' k'} J' hn' ho' =>
      J'.pins_of fun p hp=>(List.mem_append.mp hp).elim (fun z=>J'.pin p (List.mem_append_right _ z)) fun z=>by
        rw [List.mem_singleton.mp z]
        exact ⟨ho',hn',hDC,hDfs,fun v q=>by cases q⟩
    obtain ⟨go,hz,step⟩:=turn i n ys H3 w3
    · have I3':=pinD I3 hD3 ho3
      have pP:∀p∈(X.pn++pins) ++ [(s2.heap.objs.size,({ cls:=.type "list",data:=.seq its.toArray k }:Obj))],p.1 ∉ fp:=fun p hp=>(List.mem_append.mp hp).elim (pns p) fun z=>by
        rw [List.mem_singleton.mp z]; exact fun q=>Nat.lt_irrefl _ (hfp _ q)
      refine thn (T.item (cxCompX X scope (x::N₁) cl G.objs.size s2 H2 fp (XX G.objs.size)) rfl rfl rfl O.calm i _ s3 _ H3 (fun _ _=>False) I3' (stat fr3 pP) st3 go) fun r s4 ⟨u,hr,h4⟩=>?_
      subst hr
      refine thn h4 fun _ s5 ⟨v,H5,I5,r5,y5,st5,fr5⟩=>?_
      have I5':=I5.pinned (stat fr5 pP) (T.obj _ _ st5)
      refine thn ((pg_name (X:=cxComp X scope (x::N₁) cl G.objs.size s2 H2 fp) (i:=0) (x:=x) O.nd rfl (.inl (by show (relabel scope X.env).names.lookup x=_; exact lookup_relabel_local O.loc)) (.inr (by show (relabel scope X.env).names.lookup x=_; exact lookup_relabel_local O.loc))) _ s5 _ H5 v u _ I5'.unwish r5
        (show gName 0 v (ov::σ₁) H5 (fun σ' H'=>σ'=some v::σ₁∧H'=H5) from ⟨rfl,rfl⟩)) fun _ s6 ⟨σ6,H6,I6',e6,e6'⟩=>?_
      subst e6; subst e6'
      have I6:=I6'.wish (XX G.objs.size)
      have xk:XOk (cxCompX X scope (x::N₁) cl G.objs.size s2 H2 fp (XX G.objs.size)) false H0 Cc:=⟨fun P' σ' H' s' e' s'' J' hx'=>compx_xe I2 f2 hCle J' hst hfr kX (cxh_of hx'),(fun z=>by cases z),fun P' σ' H' s' e' s'' J' hx'=>compx_xe I2 f2 hCle J' hst hfr kX hx'⟩
      have q7:=step v H6 y5 cl G.objs.size s2 H2 fp (XX G.objs.size) xk
      have back:∀ {H8:Hp}{s8:Shared},Inv (cxCompX X scope (x::N₁) cl G.objs.size s2 H2 fp (XX G.objs.size)) (((X.pn++pins) ++ [(s2.heap.objs.size,({ cls:=.type "list",data:=.seq its.toArray k }:Obj))])++pinsAt fp s5.heap) (some v::σ₁) H8 s8 →
          tn (i+1) s8.heap∧(∀b∈fp,H8 b=none)∧H8 s2.heap.objs.size=none∧s8.heap.get? s2.heap.objs.size=some { cls:=.type "list",data:=.seq its.toArray k }∧Inv (cxCompX X scope (x::N₁) cl G.objs.size s2 H2 fp (XX G.objs.size)) (X.pn++pins) (some v::σ₁) H8 s8:=fun {H8 s8} I8=>by
        have pD:=I8.pin (s2.heap.objs.size,{ cls:=.type "list",data:=.seq its.toArray k }) (List.mem_append_right _ (List.mem_append_left _ (List.mem_append_right _ (List.mem_singleton.mpr rfl))))
        refine ⟨T.keep _ _ _ st5 fun b hb o e=>(I8.pin (b,o) (List.mem_append_right _ (List.mem_append_right _ (mem_pinsAt hb e)))).1,fun b hb=>?_,pD.2.1,pD.1,I8.pins_of fun p hp=>I8.pin p (List.mem_append_right _ (List.mem_append_left _ (List.mem_append_left _ hp)))⟩
        obtain ⟨o,e,_⟩:=T.obj _ _ st5 b hb
        exact (I8.pin (b,o) (List.mem_append_right _ (List.mem_append_right _ (mem_pinsAt hb e)))).2.1
      refine wpAny_tests_nil ?_
      rw [if_pos rfl]
      refine wpAny_mono (q7 _ s6 I6) (fun u8 s8 ⟨y,H8,I8,r8,m',hm,w8⟩=>?_) fun _ _ z=>wpAny_mono z (fun _ _ y=>hRR _ _ _ _ y) fun _ _ y=>hRR _ _ _ _ y
      obtain ⟨a1,a2,a3,a4,a5⟩:=back I8
      have hlen:=rv.length
      refine call_meets F.slot_list_append ⟨_,a4,rfl⟩ F.entry_list_append (F.args_list_append_2 _ _) (PySem.list_append s2.heap.objs.size its.toArray k u8 (by rw [List.size_toArray]; omega)) ⟨a4,?_⟩
      have q:=PySem.IsL.update a4 (fun b=>b.push u8)
      rw [show its.toArray.push u8=(its ++ [u8]).toArray by simp] at q
      have oth:∀b o,b ≠ s2.heap.objs.size→s8.heap.get? b=some o→(s8.heap.update s2.heap.objs.size (Obj.mapSeq fun b=>b.push u8)).get? b=some o:=fun b o hb e=>(Heap.get?_update_other s8.heap _ (Ne.symm hb)).trans e
      refine ⟨m',hm,i+1,ys ++ [y],its ++ [u8],_,some v,H8,?_,T.keep _ _ _ a1 fun b hb o e=>oth b o (below b (hfp b hb)).2 e,a2,a3,q,rv.append (.cons r8 .nil),w8⟩
      exact a5.turned (t':=s8.toks) (it:=s2.heap.objs.size) (fun b o hb e=>oth b o hb e) a3 hDC (.inr (Nat.le_refl _)) (fun y c e=>hDc y c e) fun p hp=>pnD p (by simpa [cxComp] using hp)
  exact codeAny_compStart_list (loop _ rfl) (T.self X.A 0 _ _ _ st4 (loop _ rfl))
theorem we_compX {m:Bool}{H0:Hp}{Cc:Addr}{wi:TI}(O:CompOk X scope x N₁)(hi:PI X (.Name x px) iter wi){σ σ₁:St}{H:Hp}{Q:VK}(hl1:σ₁.length=N₁.length)(hσ:∀ (i:Nat) (y:Str) (v:V),N₁[i]? = some y→σ₁[i]? = some (some v)→X.N[i]? = some y∧σ[i]? = some (some v))(h:wi σ H (CompWX X scope x N₁ elt σ₁ H0 Cc))(hst:X.stack=X.env::X.outer)(hfr:X.env.frame=some X.env.locals)(kX:XOk X m H0 Cc)(hs:∀x,foldedSetIterable iter X.env x=pure x:=by intro _; rfl):WE X (.ListComp elt [⟨.Name x px,iter,[],0⟩] scope pos) σ H Q:=by
  intro pins s I
  rw [eval_ListComp]
  obtain ⟨cl,hcl,c1,c2⟩:=closureFor_of (scope:=scope) (env:=X.env) (fun y hy hk=>I.ok.has _ (O.free y hy hk))
  refine wpAny_comprehension_free (use:=none) rfl hs hcl O.kind O.names (thn (hi pins s σ H _ I h) fun v s1 h1=>thn h1 fun itv s2 h2=>?_)
  obtain ⟨it,fp,tn,J,H2,e,I2,T,st2,f2,h2⟩:=h2
  subst e
  exact comp_blockX (RR:=fun acc C=>compPost (model X.prog X.w) X.A X.xe none (EP X pins σ Q) acc C) O hl1 hσ c1 c2 I2 T st2 f2 h2 hst hfr kX fun D C z s'' q=>q
theorem we_wish {X:Cx}{E:Value→Shared→Prop}{e:Expr}{σ:St}{H:Hp}{Q:VK}(hx:∀e s,X.xe e s→E e s)(h:WE X e σ H Q):WE (X.wish E) e σ H Q:=fun pins s I =>
  wpAny_mono (h pins s I.unwish) (fun u s' ⟨v,H',I',r,q⟩=>⟨v,H',I'.wish E,r,q⟩) hx
theorem evx_map {m:Bool}{Cc:Addr}{α:Type}{ks:List α}{g f:α→D}{δ δ₁:List (Option D)}(n:Nat){kn:α}(hn:ks[n]? = some kn)(O:CompOk X scope x N₁)(hw:Weak X N₁ δ δ₁)(hi:EvI X (.Name x px) iter δ (ks.map g))(hz:ks.length≤1000)(he:∀k∈ks.take n,∀cl C s₀ H₀ fp,Ev (cxComp X scope (x::N₁) cl C s₀ H₀ fp) elt (some (g k)::δ₁) (f k))(hx:∀cl C s₀ H₀ fp XE,EvX (cxCompX X scope (x::N₁) cl C s₀ H₀ fp XE) false elt (some (g kn)::δ₁) Cc)(hst:X.stack=X.env::X.outer)(hfr:X.env.frame=some X.env.locals)(hs:∀x,foldedSetIterable iter X.env x=pure x:=by intro _; rfl):EvX X m (.ListComp elt [⟨.Name x px,iter,[],0⟩] scope pos) δ Cc:=fun σ H L Q l r k pins s I=>by
  obtain ⟨σ₁,h1,h2,h3⟩:=hw σ I.len
  have hlt:n < ks.length:=(List.getElem?_eq_some_iff.mp hn).1
  refine we_compX (H0:=H) (Cc:=Cc) O pi_wi h1 h3 (hi σ H L _ l r fun J H' s' it=>?_) hst hfr k hs pins s I
  have r':=h2 _ _ _ (r.same s')
  have l':=l.same s'
  refine ⟨fun i m ys H2=>i≤n∧m=ks.length - i∧Same H' H2∧Reps X.K H2 L ((ks.take i).map f) ys,⟨ks.length,Nat.zero_le _,by simp,.refl _,by simpa using Reps.nil⟩,?_⟩
  rintro i mm ys H2 ⟨hi',rfl,s2,rs⟩
  have hlen:=rs.length
  rw [List.length_map,List.length_take] at hlen
  have hz':ys.length < sizeLine:=small1000 (by omega)
  have hil:i < ks.length:=by omega
  obtain ⟨go,yl⟩:=(it H2 (.of s2) i).1 (g ks[i]) (by rw [List.getElem?_map,List.getElem?_eq_getElem hil]; rfl)
  refine ⟨go,hz',fun v H3 y cl C s₀ H₀ fp XE xk=>?_⟩
  obtain ⟨e3,rv⟩:=yl v H3 y
  subst e3
  have en:EnvR X.K H3 L (some (g ks[i])::δ₁) (some v::σ₁):=by
    refine ⟨by rw [List.length_cons,List.length_cons,r'.len],fun j d hd=>?_⟩
    cases j with
    | zero=>simp at hd; subst hd; exact ⟨v,rfl,rv.same s2⟩
    | succ j =>
      obtain ⟨u,h1,h2⟩:=(r'.same s2).get j d (by simpa using hd)
      exact ⟨u,by simpa using h1,h2⟩
  by_cases hin:i < n
  · have hm:ks[i]∈ks.take n:=by
      rw [List.mem_take_iff_getElem]
      exact ⟨i,by omega,rfl⟩
    refine we_wish (fun _ _ z=>z.elim) (he ks[i] hm cl C s₀ H₀ fp _ H3 L _ (l'.same s2) en fun y H5 s5 r5=>?_)
    refine ⟨ks.length - (i+1),by omega,hin,rfl,s2.trans s5,?_⟩
    rw [List.take_succ_eq_append_getElem hil,List.map_append]
    exact (rs.same s5).append (Reps.cons r5 Reps.nil)
  · have e:i=n:=by omega
    subst e
    rw [List.getElem?_eq_getElem hil] at hn
    cases hn
    exact hx cl C s₀ H₀ fp XE _ H3 L _ (l'.same s2) en (xk.mono (s'.trans s2))
end
end DL
namespace DL
open PySem PySem.Spec PyProof.Rows L2 PySem.W PySem.Calls
def EvAX (X:Cx)(m:Bool)(es:List Expr)(δ:List (Option D))(C:Addr):Prop:=∀σ H L Q,LOk L H→EnvR X.K H L δ σ→XOk X m H C→WA X es σ H Q
section
variable {X:Cx}{δ:List (Option D)}{m:Bool}{e:Expr}{es:List Expr}{pos p:Pos}{x:Str}{C:Addr}{d:D}
theorem eax_now (h:EvX X m e δ C)(hs:starEach (e::es) X.env=(false,eval e X.env)::starEach es X.env:=by rfl):EvAX X m (e::es) δ C:=fun σ H L Q l r k=>wa_of (pa_cons pe_we pa_wa hs) (h σ H L _ l r k)
theorem eax_cons (h:Ev X e δ d)(hr:EvAX X m es δ C)(hs:starEach (e::es) X.env=(false,eval e X.env)::starEach es X.env:=by rfl):EvAX X m (e::es) δ C:=fun σ H L Q l r k =>
  wa_of (pa_cons pe_we pa_wa hs) (h σ H L _ l r fun v H1 g rv=>hr σ H1 L _ (l.same g) (r.same g) (k.mono g))
theorem evx_argsC {f:Addr}(hm:X.mg x=some (.ref f))(hk:PySem.W.keepIn X.K (.ref f)=true)(ha:EvAX X m (e::es) δ C)(hg:Gl X x:=by rfl)(hdb:(x == ("__debug__" : Str))=false:=by decide)(he:starEach (e::es) X.env=(false,eval e X.env)::starEach es X.env:=by rfl)(hpl:(backTo pos (starEach es X.env)).any (·.1)=false:=by rfl):EvX X m (.Call (.Name x p) (e::es) [] pos) δ C:=fun σ H L Q l r k pins s I=>by
  refine wpAny_Call_Name_kw (ld_glob I hg hm ?_ hdb)
  exact PySem.W.callWith_K (h₀:=X.base) I.ok.mod.kin hk (thn (ha σ H L (fun _ _=>False) l r k pos pins s I) fun us s1 ⟨vs,H1,I1,rv,z⟩=>z.elim) he hpl
theorem evx_argsTy {T:String}(hm:X.mg x=none)(hv:bootBuiltins x=some (.type T))(ha:EvAX X m (e::es) δ C)(hg:Gl X x:=by rfl)(hn:x ≠ "__name__" := by decide)(hdb:(x == ("__debug__" : Str))=false:=by decide)(he:starEach (e::es) X.env=(false,eval e X.env)::starEach es X.env:=by rfl)(hpl:(backTo pos (starEach es X.env)).any (·.1)=false:=by rfl):EvX X m (.Call (.Name x p) (e::es) [] pos) δ C:=fun σ H L Q l r k pins s I=>by
  refine wpAny_Call_Name_kw (ld_blt I hg hm hv ?_ hn hdb)
  exact PyProof.Rows.callWith_type1 (thn (ha σ H L (fun _ _=>False) l r k pos pins s I) fun us s1 ⟨vs,H1,I1,rv,z⟩=>z.elim) he hpl
end
section
variable {X:Cx}{δ:List En}{m:Bool}{e:Expr}{pos py:Pos}{x:Str}{C:Addr}
theorem stmx_set (i:Nat)(h:EvX X m e (hid δ) C)(hN:X.N.Nodup)(hi:X.N[i]? = some x:=by rfl)(hx:Loc X.env.scope x:=by first | exact Or.inl rfl | exact Or.inr rfl)(hf:X.fn x=true∨X.env.scope.names.lookup x=some .local:=by first | exact Or.inl rfl | exact Or.inr rfl)(hs:swapsWith e (some (.Name x py)) pos.line X.env=pure false:=by rfl):StmX X m (.Assign [.Name x py] e pos) δ C:=fun H0 L0 σ H L E l s k =>
  ws_of (ps_set hN hi hx pe_we hs hf) (h σ H L _ s.lok s.hidR (k.mono s.same))
end
def MadeG (h h':Heap)(e C:Addr):Prop:=(∀b o,h.get? b=some o→h'.get? b=some o)∧h.get? e=none ∧ ∃oe vs a0,h'.get? e=some oe∧oe.cls = .ref C∧oe.data = .fields vs∧vs[0]? = some a0∧vs[1]? = some .none
def XOkL (X:Cx)(H0:Hp)(C:Addr):Prop:=XOk X true H0 C ∧
  (∀pins σ H s e s',Inv X pins σ H s→CXH X.prog X.w X.stack H s (fun c _ H'=>c = .ref C∧Same H0 H') e s'→X.xe e s') ∧
  (∀pins σ H s e h',Inv X pins σ H s→Same H0 H→MadeG s.heap h' e C→X.xe (.ref e) { s with heap:=h' })
theorem XOkL.mono {X:Cx}{H0 H:Hp}{C:Addr}(h:XOkL X H0 C)(g:Same H0 H):XOkL X H C:=
  ⟨h.1.mono g,fun pins σ H1 s e s' I x=>h.2.1 pins σ H1 s e s' I (cxh_imp x fun c _ H' ⟨z1,z2⟩=>⟨z1,g.trans z2⟩),fun pins σ H1 s e h' I g' x=>h.2.2 pins σ H1 s e h' I (g.trans g') x⟩
def EvL (X:Cx)(e:Expr)(δ:List (Option D))(C:Addr):Prop:=∀σ H L Q,LOk L H→EnvR X.K H L δ σ→XOkL X H C→WE X e σ H Q
def StmL (X:Cx)(st:Stmt)(δ:List En)(C:Addr):Prop:=∀H0 L0 σ H L E,LOk L0 H0→StR X.K H0 L0 δ σ H L→XOkL X H0 C→WS X st E σ H
def BlkL (X:Cx)(sts:List Stmt)(δ:List En)(C:Addr):Prop:=∀H0 L0 σ H L E,LOk L0 H0→StR X.K H0 L0 δ σ H L→XOkL X H0 C→WB X sts E σ H
section
variable {X:Cx}{δ δ':List En}{st:Stmt}{rest sts:List Stmt}{e:Expr}{pos py:Pos}{x:Str}{C:Addr}{d:D}
theorem blkl_of (h:BlkX X true sts δ C):BlkL X sts δ C:=fun H0 L0 σ H L E l s k=>h H0 L0 σ H L E l s k.1
theorem blkl_cons (h1:Stm X st δ (.nx δ'))(h2:BlkL X rest δ' C):BlkL X (st::rest) δ C:=fun H0 L0 σ H L E l s k =>
  wb_of (pss_cons ps_ws pss_wb) (h1 H0 L0 σ H L _ l s fun σ' H' L' s' _=>h2 H0 L0 σ' H' L' E l s' k)
theorem blkl_now (h1:StmL X st δ C):BlkL X (st::rest) δ C:=fun H0 L0 σ H L E l s k=>wb_of (pss_cons ps_ws pss_wb) (h1 H0 L0 σ H L _ l s k)
theorem blkl_set (i:Nat)(h:Ev X e (hid δ) d)(hr:BlkL X rest (δ.set i (.da d)) C)(hN:X.N.Nodup)(hi:X.N[i]? = some x:=by rfl)(hx:Loc X.env.scope x:=by first | exact Or.inl rfl | exact Or.inr rfl)(hf:X.fn x=true∨X.env.scope.names.lookup x=some .local:=by first | exact Or.inl rfl | exact Or.inr rfl)(hs:swapsWith e (some (.Name x py)) pos.line X.env=pure false:=by rfl):BlkL X (.Assign [.Name x py] e pos::rest) δ C:=fun H0 L0 σ H L E l s k =>
  wb_of (pss_cons (ps_set hN hi hx pe_we hs hf) pss_wb) (h σ H L _ s.lok s.hidR fun v H' g r=>hr H0 L0 _ H' L E l ((s.grow g).setD r) k)
theorem stml_set (i:Nat)(h:EvL X e (hid δ) C)(hN:X.N.Nodup)(hi:X.N[i]? = some x:=by rfl)(hx:Loc X.env.scope x:=by first | exact Or.inl rfl | exact Or.inr rfl)(hf:X.fn x=true∨X.env.scope.names.lookup x=some .local:=by first | exact Or.inl rfl | exact Or.inr rfl)(hs:swapsWith e (some (.Name x py)) pos.line X.env=pure false:=by rfl):StmL X (.Assign [.Name x py] e pos) δ C:=fun H0 L0 σ H L E l s k =>
  ws_of (ps_set hN hi hx pe_we hs hf) (h σ H L _ s.lok s.hidR (k.mono s.same))
end
def RaiseSpL {ι:Type}(K:PySem.W.Frag)(Ar:ι→List D)(Pre:ι→Prop)(C:Addr):Sp:=fun vs H _ E=>∃ (L:Addr→Prop) (i:ι),LOk L H∧Reps K H L (Ar i) vs∧Pre i ∧ ∀x H',Same H H'→E (.ref C) x H'
structure RFnL {ι:Type}(P:Program)(w:World)(K:PySem.W.Frag)(mg:Str→Option Value)(base:Heap)(x:Str)(k:Nat)(Ar:ι→List D)(Pre:ι→Prop)(C:Addr):Prop where
  ex:∃ (f:Addr) (fd:FuncData) (ps:List Str),FnOk P w K mg base (CXE P w) k f fd ps (RaiseSpL K Ar Pre C)∧mg x=some (.ref f)∧PySem.W.keepIn K (.ref f)=true∧Binds K fd ps []
section
variable {P:Program}{w:World}{K:PySem.W.Frag}{mg:Str→Option Value}{base:Heap}{ι:Type}{Ar:ι→List D}{Pre:ι→Prop}{C:Addr}{N:List Str}{qual:Str}{scope:Scope}{f:Addr}{cd:Value}{A:Around}{outer:List Env}{s:Shared}{H:Hp}{E:XK}{pins:List (Addr×Obj)}{σ:St}{H1:Hp}{s1:Shared}
theorem xe_madeG {e:Addr}{h':Heap}(I:Inv (cxOf (CXE P w) P w K mg base N qual scope f cd A outer s H E) pins σ H1 s1)(hx:MadeG s1.heap h' e C)(hE:E (.ref C) (some 0) H1) :
    (cxOf (CXE P w) P w K mg base N qual scope f cd A outer s H E).xe (.ref e) { s1 with heap:=h' }:=by
  obtain ⟨kp,hn,oe,vs,a0,he,hc,hd,h0,h1⟩:=hx
  have e0:=I.env0
  have hst:=e0.funs
  have hfrf:=e0.frf
  have ub:=I.base
  have hfr:=e0.frames
  have hfh:=funFrames_hide (l:=(cxOf (CXE P w) P w K mg base N qual scope f cd A outer s H E).stack) hst frames_in
  have sth:(hideAll s1.heap (frs (cxOf (CXE P w) P w K mg base N qual scope f cd A outer s H E).stack)).StaysIn h':=fun b o q=>kp b o (stays_hide _ _ b o q)
  have hen:(hideAll s1.heap (frs (cxOf (CXE P w) P w K mg base N qual scope f cd A outer s H E).stack)).get? e=none:=by
    cases z:(hideAll s1.heap (frs (cxOf (CXE P w) P w K mg base N qual scope f cd A outer s H E).stack)).get? e with
    | none=>rfl
    | some o=>have:=stays_hide _ _ e o z; rw [hn] at this; cases this
  refine wpAny_leaving_firstW (a0:=a0) (base:=hideAll s1.heap (frs (cxOf (CXE P w) P w K mg base N qual scope f cd A outer s H E).stack)) (outer:=outer) hfr (hfh.of_keeps fun b o q _=>⟨o,kp b o q,rfl⟩) rfl he sth hen hd h1 h0 fun h2 hL=>?_
  obtain ⟨k1,⟨_,_,k2⟩,k3,k4⟩:=hL
  rw [hc] at k3
  have hfl:Heap.FlyingW (hideAll s1.heap (frs (cxOf (CXE P w) P w K mg base N qual scope f cd A outer s H E).stack)) outer e (.ref C) a0 h2:=⟨k1,hen,k2,k3⟩
  have nL:∀b o,s.heap.get? b=some o→b∈frs (cxOf (CXE P w) P w K mg base N qual scope f cd A outer s H E).stack→b∈frs outer:=fun b o e hb=>by
    rcases List.mem_filterMap.mp hb with ⟨env,he,hf⟩
    rcases List.mem_cons.mp he with rfl | he
    · have:s.heap.objs.size=b:=Option.some.inj hf
      exact absurd (Heap.lt_size e) (by rw [this]; exact Nat.lt_irrefl _)
    · exact List.mem_filterMap.mpr ⟨env,he,hf⟩
  have cov:∀b o,s.heap.get? b=some o→b ∉ frs outer→∃o',(hideAll s1.heap (frs (cxOf (CXE P w) P w K mg base N qual scope f cd A outer s H E).stack)).get? b=some o':=fun b o e hb=>by
    obtain ⟨o',q⟩:=ub.there b o e (by show b ∉ []; simp)
    exact ⟨o',hideAll_get _ q fun z=>hb (nL b o e z)⟩
  have trk:∀b o,H1 b=some o→∃o',(hideAll s1.heap (frs (cxOf (CXE P w) P w K mg base N qual scope f cd A outer s H E).stack)).get? b=some o':=fun b o q=>by
    obtain ⟨o',ho⟩:=obj_there (I.hok b o q)
    exact ⟨o',hideAll_get _ ho fun z=>by rw [hfrf b z] at q; cases q⟩
  have hsl':s1.heap.UpToSlots h2:=(Heap.UpToSlots.of_keeps kp).trans k4
  refine ⟨e,.ref C,a0,_,H1,rfl,hfl,I.os,I.bare,un_on ub (fun b o _ z=>z) cov (stays_hide _ _) hfl.1 hsl' (fun b hb o q vs=>?_),hok_on I.hok trk (stays_hide _ _) hfl.1,cov,trk,some 0,(fun z=>by cases z),hE⟩
  obtain ⟨_,o',q',hd⟩:=hst.mem (List.mem_filterMap.mpr (by
    obtain ⟨env,he,hf⟩:=List.mem_filterMap.mp hb
    exact ⟨env,List.mem_cons_of_mem _ he,hf⟩))
  rw [q] at q'
  cases q'
  exact hd vs
theorem xok_bodyL (kE:∀x H',Same H H'→E (.ref C) x H'):XOkL (cxOf (CXE P w) P w K mg base N qual scope f cd A outer s H E) H C:=
  ⟨xok_body fun H' g=>kE none H' g,fun pins σ H1 s1 e s' I x=>xe_held I x fun c x H' ⟨h1,h3⟩=>by rw [h1]; exact kE x H' h3,fun pins σ H1 s1 e h' I g x=>xe_madeG I x (kE _ H1 g)⟩
theorem fn_raiseL {x qual:Str}{st:Stmt}{f:Addr}{fd:FuncData}{N ps:List Str}{k:Nat}(F:Fun K x qual st f fd)(S:FnScope N ps (defScope st))(hl:∀i,(Ar i).length=ps.length)(body:∀ (cdv:Value) (A:Around) (outer:List Env) (s:Shared) (H:Hp) (E:XK),Room k (A.deeper (envOfC qual (defScope st) s.heap.objs.size f cdv))→∀i,Pre i →
      BlkL (cxOf (CXE P w) P w K mg base N qual (defScope st) f cdv A outer s H E) (defBody st) (startD N (Ar i)) C):FnOk P w K mg base (CXE P w) (k+1) f fd ps (RaiseSpL K Ar Pre C):=by
  obtain ⟨oc,od,kV,doc,pm,an,cdv,ct,osl,rfl,lk,hcd⟩:=F.ex
  refine fn_of lk hcd S (fun vs H Q E h=>?_) fun A outer s H vs Q E hr hsp=>?_
  · obtain ⟨L,i,_,r,_⟩:=h
    rw [← r.length,hl]
  · obtain ⟨L,i,lk',r,pre,kE⟩:=hsp
    exact ⟨_,pss_wb,body cdv A outer s H E hr i pre H L _ H L _ lk' (start_ok lk' r) (xok_bodyL kE)⟩
end
section
variable {X:Cx}{δ:List (Option D)}{e:Expr}{es:List Expr}{pos p:Pos}{x:Str}{k:Nat}{ι:Type}{Ar:ι→List D}{Pre:ι→Prop}{C:Addr}{ds:List D}
theorem evl_call (F:RFnL X.prog X.w X.K X.mg X.base x k Ar Pre C)(i:ι)(hr:Room k X.A)(ha:EvA X (e::es) δ ds)(hp:Pre i)(hA:Ar i=ds:=by rfl)(hg:Gl X x:=by rfl)(hdb:(x == ("__debug__" : Str))=false:=by decide)(he:starEach (e::es) X.env=(false,eval e X.env)::starEach es X.env:=by rfl)(hpl:(backTo pos (starEach es X.env)).any (·.1)=false:=by rfl):EvL X (.Call (.Name x p) (e::es) [] pos) δ C:=fun σ H L Q l r q=>by
  obtain ⟨f,fd,ps,F,hm,hk,hb⟩:=F.ex
  refine we_of (pe_call (E:=fun c _ H'=>c = .ref C∧Same H H') F hr hg hm hk hb .nil (fun pins σ H s e s' I z=>q.2.1 pins σ H s e s' I (cxh_of z)) pa_wa hdb he hpl) (ha σ H L _ l r fun vs H1 s1 r1=>?_)
  exact ⟨L,i,l.same s1,by rw [List.append_nil,hA]; exact r1,hp,fun x H' g=>⟨rfl,s1.trans g⟩⟩
theorem evz_callL (F:RFnL X.prog X.w X.K X.mg X.base x k Ar Pre C)(i:ι)(hr:Room k X.A)(ha:EvA X (e::es) δ ds)(hp:Pre i)(hA:Ar i=ds:=by rfl)(hg:Gl X x:=by rfl)(hdb:(x == ("__debug__" : Str))=false:=by decide)(he:starEach (e::es) X.env=(false,eval e X.env)::starEach es X.env:=by rfl)(hpl:(backTo pos (starEach es X.env)).any (·.1)=false:=by rfl):EvZ X (.Call (.Name x p) (e::es) [] pos) δ C true:=fun σ H L pins s l r q I=>by
  obtain ⟨f,fd,ps,F,hm,hk,hb⟩:=F.ex
  refine wpAny_Call_Name_kw (ld_glob I hg hm ?_ hdb)
  refine PySem.W.callWith_K (h₀:=X.base) I.ok.mod.kin hk (thn (ha σ H L (fun vs H1=>Same H H1∧Reps X.K H1 L ds vs) l r (fun vs H1 g rs=>⟨g,rs⟩) pos pins s I) fun us s1 ⟨vs,H1,I1,rv,s1',r1⟩=>⟨I1.kIn,?_⟩) he hpl
  have sp:RaiseSpL X.K Ar Pre C vs H1 (fun _ _=>False) (fun c x H'=>c = .ref C∧(true=false→x=none)∧Same H H'):=⟨L,i,l.same s1',by rw [hA]; exact r1,hp,fun x H' g=>⟨rfl,(fun z=>by cases z),s1'.trans g⟩⟩
  have hl:us.length=ps.length:=by rw [← rv.length]; exact F.len _ _ _ _ sp
  have hb':=hb s1 us I1.kIn (by rw [List.append_nil]; exact hl)
  rw [List.append_nil] at hb'
  refine wpAny_call (codeAny_mono (F.run X.A X.stack s1 H1 ⟨us,[]⟩ us vs _ _ hr I1.env0 hb' rv sp) fun r s' hq=>?_)
  cases r with
  | error e=>exact q H1 s1 e s' I1 hq
  | ok fl =>
    cases fl with
    | ret u=>obtain ⟨_,_,_,_,_,_,_,z⟩:=hq; exact z.elim
    | next=>exact False.elim hq
    | brk=>exact False.elim hq
    | cont=>exact False.elim hq
end
end DL
namespace DL
open PySem PySem.Spec PyProof.Rows L2 PySem.W PySem.Calls
theorem entry_unchain:entryFor table "proto.unchain" = some Builtin.«proto.unchain»:=entryFor_of_tree (by kernel_rfl)
section
variable {prog:Program}{w:World}{A:Around}{E:Value→Shared→Prop}{h:Heap}{g:Array GenState}{d:Drawn}{t:Nat}{os:OsState}
variable {nm q:Str}{C N:Addr}{bs bm:List Value}{hdct:Bool}{sn:List Str}{sub:List Value}{ab:Bool}{col:Option Bool}{dd:Option Addr}{k0 k1 k2 k3 k5:Option Value}{newId:String}
theorem unchain_none {e a:Addr}{Q:Value→Shared→Prop}{s:Shared}(x:G2 a s.heap)(hq:Q .none s):wpAny (model prog w) A (runValue (.builtin "proto.unchain" ⟨[.ref e,.ref a,.ref a,.bool false],[]⟩)) Q E s:=by
  obtain ⟨oe,vs,a1,a2,a3⟩:=x
  refine wpAny_runValue (codeAny_builtin entry_unchain ?_)
  unfold Builtin.«proto.unchain»
  dsimp only
  refine wpAny_bind (wpAny_field a1 a2 a3 ?_)
  rw [if_pos (by rfl)]
  exact wpAny_pure hq
theorem raiseNew_in {α:Type}{e a:Addr}{oe:Obj}{vs:Array Value}{Q:α→Shared→Prop}{s:Shared}(hh:A.handled=some (.ref a))(x:G2 a s.heap)(hne:a ≠ e)(he:s.heap.get? e=some oe)(hd:oe.data = .fields vs)(hz:2 < vs.size)(hq:E (.ref e) { s with heap:=s.heap.update e (Obj.mapFields (·.setIfInBounds 2 (.ref a))) }):wpAny (model prog w) A (raiseNew (.ref e):Sem α) Q E s:=by
  unfold raiseNew
  refine wpAny_bind (wpAny_handled ?_)
  rw [hh]
  dsimp only
  rw [if_pos (by simpa using hne)]
  refine wpAny_bind (wpAny_holding (unchain_none x ?_))
  show wpAny _ _ (setField (.ref e) 2 (.ref a) >>= fun _=>throw (.ref e)) _ _ _
  exact wpAny_bind (wpAny_setField he hd hz (wpAny_throw hq))
theorem exc_from {e:Addr}{vs:Array Value}{msg:String}{Q:Value→Shared→Prop}(hbase:bm.contains (.type "BaseException")=true)(hC:h.get? C=some (excClassObj nm q C N bs bm hdct sn sub ab col dd k0 k1 k2 k3 k5 newId))(he:h.get? e=some { cls:=.ref C,data:=.fields vs })(hq:Q (.ref e) ⟨h,g,d,t,os⟩):wpAny (model prog w) A (excFromValue (.ref e) msg) Q E ⟨h,g,d,t,os⟩:=by
  have hcB:(Value.ref C::bm).contains (.type "BaseException")=true:=by rw [List.contains_cons,hbase,Bool.or_true]
  unfold excFromValue
  repeat (first
    | with_reducible refine wpAny_loadPart_at hC ?_
    | with_reducible refine wpAny_loadPart_at he ?_
    | (with_reducible refine wpAny_isSubtype_exc hC ?_
       rw [hcB])
    | wp_step)
  exact hq
theorem exc_isType {e:Addr}{vs:Array Value}{Q:Bool→Shared→Prop}(hC:h.get? C=some (excClassObj nm q C N bs bm hdct sn sub ab col dd k0 k1 k2 k3 k5 newId))(he:h.get? e=some { cls:=.ref C,data:=.fields vs })(hq:Q false ⟨h,g,d,t,os⟩):wpAny (model prog w) A (isType (.ref e)) Q E ⟨h,g,d,t,os⟩:=by
  unfold isType
  repeat (first
    | with_reducible refine wpAny_loadPart_at hC ?_
    | with_reducible refine wpAny_loadPart_at he ?_
    | wp_step)
  exact hq
theorem exc_inst {e:Addr}{vs:Array Value}{Q:Value→Shared→Prop}(hC:h.get? C=some (excClassObj nm q C N bs bm hdct sn sub ab col dd k0 k1 k2 k3 k5 newId))(he:h.get? e=some { cls:=.ref C,data:=.fields vs })(hq:Q (.ref e) ⟨h,g,d,t,os⟩):wpAny (model prog w) A (raisedInstance (.ref e)) Q E ⟨h,g,d,t,os⟩:=by
  unfold raisedInstance
  repeat (first
    | with_reducible refine wpAny_loadPart_at hC ?_
    | with_reducible refine wpAny_loadPart_at he ?_
    | wp_step)
  exact hq
theorem raise_from {a:Addr}{x:Sem Value}{env:Env}{c0:Sem Value}{Q:Flow→Shared→Prop}{s:Shared}(hbase:bm.contains (.type "BaseException")=true)(hh:A.handled=some (.ref a))(hx:wpAny (model prog w) A x (fun v s₁=>∃e t0,v = .ref e∧s₁.heap.get? C=some (excClassObj nm q C N bs bm hdct sn sub ab col dd k0 k1 k2 k3 k5 newId)∧s₁.heap.get? e=some { cls:=.ref C,data:=.fields #[t0,.none,.none,.none,.bool false,.none] }∧G2 a s₁.heap∧a ≠ e∧C ≠ e ∧
      ∀h',(∀b,b ≠ e→h'.get? b=s₁.heap.get? b)→(∃oe vs,h'.get? e=some oe∧oe.cls = .ref C∧oe.data = .fields vs∧vs[0]? = some t0∧vs[1]? = some .none)→E (.ref e) { s₁ with heap:=h' }) E s)(hc:∀s,wpAny (model prog w) A c0 (fun v s'=>v = .none∧s'=s) E s):wpAny (model prog w) A (raiseStmt env (some x) (some c0)) Q E s:=by
  unfold raiseStmt
  refine wpAny_bind (wpAny_mono hx (fun v s₁ h₁=>?_) fun _ _ y=>y)
  obtain ⟨e,t0,rfl,hC,he,hg,hne,hCe,hE⟩:=h₁
  obtain ⟨hp,g,d,tk,os⟩:=s₁
  dsimp only
  refine wpAny_bind (wpAny_holding (wpAny_mono (hc _) (fun v s' q=>?_) fun _ _ y=>y))
  obtain ⟨rfl,rfl⟩:=q
  refine wpAny_bind (wpAny_pure ?_)
  dsimp only at hE hg hC he ⊢
  refine wpAny_bind (wpAny_holding (exc_from hbase hC he ?_))
  rw [if_pos (by rfl)]
  refine wpAny_bind (wpAny_pure ?_)
  refine wpAny_bind (wpAny_setField he rfl (by simp) ?_)
  have he2:(hp.update e (Obj.mapFields (·.setIfInBounds 3 Value.none))).get? e=some { cls:=.ref C,data:=.fields #[t0,.none,.none,.none,.bool false,.none] }:=Heap.get?_update_self _ he rfl
  refine wpAny_bind (wpAny_setField he2 rfl (by simp) ?_)
  have he3:((hp.update e (Obj.mapFields (·.setIfInBounds 3 Value.none))).update e (Obj.mapFields (·.setIfInBounds 4 (Value.bool true)))).get? e=some { cls:=.ref C,data:=.fields #[t0,.none,.none,.none,.bool true,.none] }:=Heap.get?_update_self _ he2 rfl
  have oth:∀b,b ≠ e→((hp.update e (Obj.mapFields (·.setIfInBounds 3 Value.none))).update e (Obj.mapFields (·.setIfInBounds 4 (Value.bool true)))).get? b=hp.get? b:=fun b hb=>(Heap.get?_update_other _ _ (Ne.symm hb)).trans (Heap.get?_update_other _ _ (Ne.symm hb))
  generalize (hp.update e (Obj.mapFields (·.setIfInBounds 3 Value.none))).update e (Obj.mapFields (·.setIfInBounds 4 (Value.bool true)))=h3 at he3 oth ⊢
  have hC3:=(oth C hCe).trans hC
  have hg3:G2 a h3:=by
    obtain ⟨o,vs,a1,a2,a3⟩:=hg
    exact ⟨o,vs,(oth a hne).trans a1,a2,a3⟩
  refine wpAny_bind (exc_isType hC3 he3 ?_)
  rw [if_neg Bool.false_ne_true]
  refine wpAny_bind (exc_inst hC3 he3 ?_)
  refine wpAny_bind ?_
  unfold setFlight
  refine wpAny_bind (wpAny_field he3 rfl (x:=.none) rfl ?_)
  rw [if_neg (by decide)]
  refine wpAny_pure ?_
  refine raiseNew_in hh hg3 hne he3 rfl (by simp) (hE _ (fun b hb=>(Heap.get?_update_other _ _ (Ne.symm hb)).trans (oth b hb)) ?_)
  exact ⟨_,_,Heap.get?_update_self _ he3 rfl,rfl,rfl,rfl,rfl⟩
end
end DL
namespace DL
open PySem PySem.Spec PyProof.Rows L2 PySem.W PySem.Calls
theorem excM2 {M:Model}{A:Around}{E:Value→Shared→Prop}{s:Shared}{K:Frag}{mg:Str→Option Value}{x1 x2:Str}{e p C CV1 CV2:Addr}{r1 r2:Bool}{Q:Bool→Shared→Prop}(c1:CatchB K mg x1 CV1 C r1)(c2:CatchB K mg x2 CV2 C r2)(X:K.In s.heap)(he:OfC s.heap e C)(ht:IsTup s.heap p #[.ref CV1,.ref CV2])(hr:(r1 || r2)=true)(hq:Q true s):wpAny M A (excMatches (.ref e) (.ref p)) Q E s:=by
  obtain ⟨o,e0,hc,n,d⟩:=ht
  obtain ⟨h,g,dr,t,os⟩:=s
  have L0:=ofC_ty (M:=M) he
  have L1:=looks_typeIn (M:=M) X c1.hT
  have L2:=looks_mroIn (M:=M) X c1.hB
  have L3:=looks_mroIn (M:=M) X c1.hS
  have L4:=looks_typeIn (M:=M) X c2.hT
  have L5:=looks_mroIn (M:=M) X c2.hB
  have L6:=looks_mroIn (M:=M) X c2.hS
  obtain ⟨cdD,hcD⟩:=Option.isSome_iff_exists.mp c1.hc
  obtain ⟨cdE,hcE⟩:=Option.isSome_iff_exists.mp c2.hc
  unfold clsIn at hcD hcE
  split at hcD
  · rename_i c' d' cd' sl' ho
    split at hcE
    · rename_i c'' d'' cd'' sl'' ho2
      have hCV:h.get? CV1=_:=X _ _ ho
      have hCV2:h.get? CV2=_:=X _ _ ho2
      unfold excMatches
      refine wpAny_bind (wpAny_isInstance (T := "tuple") ⟨o,e0,hc⟩ isSubtype_tuple_tuple ?_)
      rw [if_pos rfl]
      refine wpAny_bind (wpAny_seqItems e0 d ?_)
      cases r1 with
      | true =>
        repeat lk
        all_goals exact hq
      | false =>
        obtain rfl:r2=true:=hr
        repeat lk
        all_goals exact hq
    · cases hcE
  · cases hcD
end DL
namespace DL
open PySem PySem.Spec PyProof.Rows L2 PySem.W PySem.Calls
theorem stml_try {X:Cx}{body:List Stmt}{x1 x2 xc:Str}{np1 np2 np tp cpos cp rpos hpos pos:Pos}{tk ck}{e:Expr}{δ:List En}{d:D}{C0 CV1 CV2 CN:Addr}{r1 r2:Bool}(c1:CatchB X.K X.mg x1 CV1 C0 r1)(c2:CatchB X.K X.mg x2 CV2 C0 r2)(hr:(r1 || r2)=true)(hC:ErrC X.K X.mg xc CN)(hb:∀E',BlkZ (X.wish E') body δ C0)(h:∀a oa,Ev (cxH X a oa) e (hid δ) d)(hno:noOw δ)(hpo:∀a,PassesOwnAt (model X.prog X.w) (X.A.mark (some (.ref a))) X.A X.env X.xe)(hst:X.stack=X.env::X.outer)(hfr:X.env.frame=some X.env.locals)(hg1:Gl X x1:=by rfl)(hg2:Gl X x2:=by rfl)(hgc:Gl X xc:=by rfl)(hd1:(x1 == ("__debug__" : Str))=false:=by decide)(hd2:(x2 == ("__debug__" : Str))=false:=by decide)(hdc:(xc == ("__debug__" : Str))=false:=by decide)(he2:starEach [.Name x1 np1,.Name x2 np2] X.env = [(false,eval (.Name x1 np1) X.env),(false,eval (.Name x2 np2) X.env)]:=by rfl)(he:starEach [e] X.env = [(false,eval e X.env)]:=by rfl) :
    StmL X (.Try body [.ExceptHandler (some (.Tuple [.Name x1 np1,.Name x2 np2] tk tp)) none [.Raise (some (.Call (.Name xc np) [e] [] cpos)) (some (.Constant .none ck cp)) rpos] hpos] [] [] pos) δ CN:=fun H0 L0 σ H L E l sr kL pins s I=>by
  refine wpAny_Try_except ?_
  have sh:=sr.here hno
  refine wpAny_mono (hb (fun e₁ s₁=>wpAny (model X.prog X.w) X.A (noteFrame e₁ X.env) (fun _ s₂=>wpAny (model X.prog X.w) X.A (setFlight e₁ none) (fun _ s₃=>wpAny (model X.prog X.w) X.A (handleBy e₁ X.env [.ExceptHandler (some (.Tuple [.Name x1 np1,.Name x2 np2] tk tp)) none [.Raise (some (.Call (.Name xc np) [e] [] cpos)) (some (.Constant .none ck cp)) rpos] hpos]) (SP X pins E) X.xe s₃) X.xe s₂) X.xe s₁) H L σ H L pins s sr.lok sh ?_ (I.wish _)) (fun _ _ z=>z.elim) (fun _ _ z=>z)
  intro H1 s1' e' s' I1' hx
  obtain ⟨a,cls,a0,B,H2,rfl,hfl,os,bare,un,hok,cov,trk,xx,hg0,rfl,hx0,sm⟩:=hx
  have gg:=hg0 (hx0 rfl)
  have I1:Inv X pins σ H1 s1':=I1'.unwish
  have hfl:Heap.FlyingW B (X.env::X.outer) a (.ref C0) a0 s'.heap:=hst ▸ hfl
  have hframes:X.A.frames=some (X.env::X.outer):=hst ▸ I.ok.frames
  have fr:∀b∈frs X.stack,∀o,s'.heap.get? b=some o→∀vs,o.data ≠ .fields vs:=fun b hb o q=>by
    rw [hst] at hb
    obtain ⟨_,o',q',hd'⟩:=hfl.2.2.1.mem hb
    rw [q] at q'
    cases q'
    exact hd'
  have back:∀h2:Heap,B.StaysIn h2→s'.heap.UpToSlots h2→Inv X pins σ H2 { s' with heap:=h2 }:=fun h2 hB hs2 =>
    I1.call' (s':={ s' with heap:=h2 }) os (un_on un (fun _ _ _ z=>z) cov hfl.1 hB hs2 fr) (hok_on hok trk hfl.1 hB) bare (fun b z=>absurd z (by simp))
  have hH2:H2 a=none:=by
    cases q:H2 a with
    | none=>rfl
    | some o =>
      obtain ⟨o',hB⟩:=trk a o q
      rw [hfl.2.1] at hB
      cases hB
  have facts:∀h2:Heap,Heap.FlyingW B (X.env::X.outer) a (.ref C0) a0 h2→∃oa,h2.get? a=some oa∧oa.cls = .ref C0∧(∀v,oa.data ≠ .cell v)∧a ≠ X.env.locals∧a ∉ X.fs:=fun h2 hf=>by
    obtain ⟨_,_,ff,oe,vs,_,_,_,he,hc,hdd,_⟩:=hf
    have nfr:∀b∈frs (X.env::X.outer),b ≠ a:=fun b hb z=>by
      subst z
      obtain ⟨_,o',q',hd'⟩:=ff.mem hb
      rw [he] at q'
      cases q'
      exact hd' vs hdd
    refine ⟨oe,he,hc.1,fun v z=>?_,fun z=>nfr _ (List.mem_filterMap.mpr ⟨X.env,List.mem_cons_self,hfr⟩) z.symm,fun z=>?_⟩
    · rw [hdd] at z; cases z
    · obtain ⟨env,he',hf'⟩:=List.mem_filterMap.mp z
      exact nfr a (List.mem_filterMap.mpr ⟨env,List.mem_cons_of_mem _ he',hf'⟩) rfl
  refine wp2 (Q:=fun _ s1=>∃h1,s1 = { s' with heap:=h1 }∧Heap.HeldW B (X.env::X.outer) a (.ref C0) a0 X.env.locals h1∧s'.heap.UpToSlots h1) (wpAny_looks_onW hframes hfr hfl fun h1 hheld hs1=>⟨h1,rfl,hheld,hs1⟩)
    (note_G3 (E:=fun _ _=>True) hframes hfl.2.2.1 hfr hfl.2.2.2 gg) ?_
  rintro _ _ ⟨h1,rfl,hheld,hs1⟩ gg1
  refine wp2 (Q:=fun _ s2=>∃h2,s2 = { s' with heap:=h2 }∧Heap.FlyingW B (X.env::X.outer) a (.ref C0) a0 h2∧h1.UpToSlots h2) (wpAny_landsW (s:={ s' with heap:=h1 }) hheld fun h2 hfl2 hs2=>⟨h2,rfl,hfl2,hs2⟩) (fl_G3 (E:=fun _ _=>True) (s:={ s' with heap:=h1 }) gg1) ?_
  rintro _ _ ⟨h2,rfl,hfl2,hs2⟩ gg2
  have I3:=back h2 hfl2.1 (hs1.trans hs2)
  obtain ⟨oa,e1,e2,e3,e4,e5⟩:=facts h2 hfl2
  refine wpAny_handleBy_cons (codeAny_handlers_test ?_) (by intro q; cases q)
  have I3H:=inv_H I3 e1 hH2 e4 e5 e3
  refine wpAny_Tuple_spliced ?_
  rw [he2]
  refine Calls.spliced_cons (ld_glob (X:=cxH X a oa) I3H hg1 c1.bound ?_ hd1)
  refine Calls.spliced_cons (ld_glob (X:=cxH X a oa) I3H hg2 c2.bound ?_ hd2)
  refine Calls.spliced_nil ⟨by have:=sizeLine_eq; simp; omega,?_⟩
  generalize hT:({ cls:=.type "tuple",data:=.seq [Value.ref CV1,Value.ref CV2].toArray }:Obj)=oT
  have kp3:∀b o,h2.get? b=some o→(h2.push oT).get? b=some o:=fun b o q=>Heap.get?_push_of_some _ q
  have hp:(h2.push oT).get? h2.objs.size=some oT:=Heap.get?_push_size _ (by rw [← hT]; rfl)
  refine excM2 c1 c2 (s:={ s' with heap:=h2.push oT }) (fun b o q=>kp3 b o (I3.kIn b o q)) ⟨oa,kp3 _ _ e1,e2⟩ ⟨oT,hp,by rw [← hT],_,by rw [← hT]⟩ hr ?_
  have hfl4:Heap.FlyingW B (X.env::X.outer) a (.ref C0) a0 (h2.push oT):=by
    obtain ⟨f1,f2,f3,oe,vs,T,oT',ts,t1,t2,t3,t4,t5,t6,t7,t8⟩:=hfl2
    exact ⟨fun b o q=>kp3 b o (f1 b o q),f2,f3.of_keeps fun b o q _=>⟨o,kp3 b o q,rfl⟩,oe,vs,T,oT',ts,kp3 _ _ t1,t2,t3,t4,t5,t6,kp3 _ _ t7,t8⟩
  have gg4:G3 a (h2.push oT):=by
    obtain ⟨oe,vs,T,oT',ts,t1,t2,t3,t4,t5,t6,t7,t8⟩:=gg2
    exact ⟨oe,vs,T,oT',ts,kp3 _ _ t1,t2,t3,t4,t5,kp3 _ _ t6,t7,t8⟩
  have hs4:s'.heap.UpToSlots (h2.push oT):=(hs1.trans hs2).trans (Heap.UpToSlots.of_keeps kp3)
  refine codeAny_handlers_suite ?_
  refine wp2 (Q:=fun _ s5=>∃h5,s5 = { s' with heap:=h5 }∧Heap.FlyingW B (X.env::X.outer) a (.ref C0) a0 h5∧(h2.push oT).UpToSlots h5) (lands_againW (s:={ s' with heap:=h2.push oT }) hfl4 fun h5 hfl5 hs5=>⟨h5,rfl,hfl5,hs5⟩) (fl_G3 (E:=fun _ _=>True) (s:={ s' with heap:=h2.push oT }) gg4) ?_
  rintro _ _ ⟨h5,rfl,hfl5,hs5⟩ gg5
  refine wpAny_passesOwnAt (hpo a) ?_
  refine wpAny_execs_cons ?_
  have I5:=back h5 hfl5.1 (hs4.trans hs5)
  obtain ⟨ob,f1,f2,f3,f4,f5⟩:=facts h5 hfl5
  have I5H:=inv_H I5 f1 hH2 f4 f5 f3
  obtain ⟨bm,N,nm,q,bs,hdct,sn,sub,ab,col,dd,k0,k1,k2,k3,k5,mN,hO,hN,hni,T⟩:=exc_obj I.ok.mod.kin hC.exc
  rw [arm_exec_Raise]
  refine wpAny_bind (wpAny_standAt ?_)
  refine raise_from (C:=CN) (nm:=nm) (q:=q) (N:=N) (bs:=bs) (bm:=bm) (hdct:=hdct) (sn:=sn) (sub:=sub) (ab:=ab) (col:=col) (dd:=dd) (k0:=k0) (k1:=k1) (k2:=k2) (k3:=k3) (k5:=k5) (newId := "ValueError.__new__") (a:=a) (T.hasType PySem.F.excBase_ValueError.hasBase) rfl ?_ (fun s=>?_)
  · refine wpAny_bind (wpAny_Call_ofName (ld_glob (X:=cxH X a ob) I5H hgc hC.bound ?_ hdc))
    rw [he]
    unfold callWith
    refine wpAny_bind (wpAny_holding (Calls.evalArgs_plain ?_))
    have hev:=(ea1 (h a ob) he) σ H2 L (fun vs H3=>Same H2 H3∧vs.length=1) (sr.lok.same sm) ((sr.grow sm).hidR) (fun vs H3 g rs=>⟨g,by have:=rs.length; simpa using this.symm⟩) cpos pins { s' with heap:=h5 } I5H
    rw [show starEach [e] (cxH X a ob).env = [(false,eval e X.env)] from he] at hev
    refine wpAny_mono hev (fun us s6 ⟨vs,H6,I6,rv,g6,hl⟩=>wpAny_bind (wpAny_standAt ?_)) fun _ _ z=>z.elim
    have hl1:us.length=1:=by rw [← rv.length]; exact hl
    have hp6:=(I6.pin (a,ob) (List.mem_append_left _ (List.mem_append_right _ (List.mem_singleton.mpr rfl)))).1
    have I6X:=inv_back I.ok I6
    have hC6:=I6X.bk _ _ hO
    have hN6:=hN.keeps I6X.bk
    have T6:=T.keeps I6X.bk
    have gg6:G2 a s6.heap:=by
      obtain ⟨oe,ws,w1,w2,w3⟩:=gg5.two
      have w1:h5.get? a=some oe:=w1
      rw [f1] at w1
      cases w1
      exact ⟨_,ws,hp6,w2,w3⟩
    obtain ⟨hp',g',d',t',os'⟩:=s6
    dsimp only at hC6 hN6 T6 hp6 gg6 I6X
    refine wpAny_bind (wpAny_keeperOf_exc hC6 ?_)
    refine wpAny_bind (wpAny_call_exc_subT (hrest:=by show us.length≤sizeLine; rw [hl1]; exact Nat.le_of_lt (small1000 (by decide))) PySem.F.excBase_ValueError T6 hC6 hN6 hni fun h7 e7 hm=>wpAny_bind (wpAny_holding (wpAny_point (wpAny_pure (wpAny_bind (wpAny_standAt (wpAny_pure ?_)))))))
    obtain ⟨t0,ht,_,_⟩:=hm.there
    have ne:∀b o,hp'.get? b=some o→b ≠ e7:=fun b o q z=>by rw [z,hm.new] at q; cases q
    refine ⟨e7,_,rfl,hm.keeps _ _ hC6,ht,?_,ne a _ hp6,ne CN _ hC6,fun h8 o1 o2=>?_⟩
    · obtain ⟨oe,ws,w1,w2,w3⟩:=gg6
      exact ⟨oe,ws,hm.keeps _ _ w1,w2,w3⟩
    · obtain ⟨oe,ws,w1,w2,w3,w4,w5⟩:=o2
      exact kL.2.2 pins σ H6 ⟨hp',g',d',t',os'⟩ e7 h8 I6X (sr.same.trans (sm.trans g6)) ⟨fun b o q=>(o1 b (ne b o q)).trans (hm.keeps b o q),hm.new,oe,ws,_,w1,w2,w3,w4,w5⟩
  · refine wpAny_bind ?_
    show wpAny _ _ (eval (.Constant .none ck cp) X.env) _ _ _
    exact wpAny_pure (wpAny_bind (wpAny_standAt (wpAny_pure ⟨rfl,rfl⟩)))
end DL
namespace DL
open PySem PySem.Spec PyProof.Rows L2 PySem.W
open PySem.Builtin.Str (occurrences)
def Itv (K:PySem.W.Frag)(a:Addr)(n:Nat):It where
  go:=fun i H=>∃xs x,SqL K H a xs∧xs.length=n∧i < n∧xs[n - 1 - i]? = some x
  yld:=fun i H v H'=>H'=H ∧ ∀ys,SqL K H a ys→ys[n - 1 - i]? = some v
  stop:=fun i H=>n≤i
theorem turn_rev {P:Program}{w:World}{K:PySem.W.Frag}{tg:Expr}(a it:Addr)(n:Nat):Turn P w K tg (Itv K a n) [it] it (fun i h=>i≤n∧h.IsRevIter it a ((n:Int) - 1 - (i:Int))) where
  mem:=by simp
  obj:=fun i h st b hb=>by
    have e:b=it:=by simpa using hb
    subst e
    obtain ⟨_,o,e,c,d⟩:=st
    exact ⟨o,e,fun v z=>by rw [d] at z; cases z⟩
  keep:=fun i h h' st k=>⟨st.1,st.2.at fun o e=>k it (by simp) o e⟩
  item:=by
    intro X hP hw hK hc i pins s σ H E I hf st hg
    subst hP hw hK
    obtain ⟨xs,x,hq,hn,hi,hx⟩:=hg
    obtain ⟨its,rv,p,hz⟩:=I.list hq
    obtain ⟨u,hu,ru⟩:=rv.get hx
    obtain ⟨f0,f1,f2,f3,f4,f5⟩:=hf it (by simp)
    have e:(n:Int) - 1 - (i:Int)=((n - 1 - i:Nat):Int):=by omega
    have st:=st.2
    rw [e] at st
    refine wpAny_pyNext_rev_item st p.isList (x:=u) (by simpa using hu) fun h' st' sb=>?_
    have e2:((n - 1 - i:Nat):Int) - 1=(n:Int) - 1 - ((i+1:Nat):Int):=by omega
    rw [e2] at st'
    have I1:Inv X pins σ H { s with heap:=h' }:=I.turned (t':=s.toks) (fun b o hb e=>(sb.2 b hb).trans e) f0 f1 f3 f4 f5
    obtain ⟨o,e,c,d⟩:=id st'
    exact ⟨u,rfl,go_of (s:={ s with heap:=h' }) e c d (by decide) ⟨x,H,I1,ru,⟨rfl,fun ys hy=>by rw [I.list_inj hy hq]; exact hx⟩,⟨hi,st'⟩,fun b hb=>(hf b hb).1⟩⟩
  done:=by
    intro X hP hw hK hc i pins s σ H E I hf st hg
    subst hP hw hK
    obtain ⟨f0,f1,f2,f3,f4,f5⟩:=hf it (by simp)
    have hg:n≤i:=hg
    have hg:i=n:=Nat.le_antisymm st.1 hg
    have st:=st.2
    rw [hg,show (n:Int) - 1 - (n:Int) = -1 by omega] at st
    exact wpAny_pyNext_rev_end (I.ok.hd hc) st fun h' eb=>⟨rfl,I.turned (t':=s.toks) (fun b o hb e=>eb b o hb e) f0 f1 f3 f4 f5⟩
  self:=fun _ _ _ _ _ st h=>wpAny_pyIter_revIter st.2 h
theorem boot_reversed:bootBuiltins "reversed" = some (.type "reversed"):=by decide +kernel
section
variable {X:Cx}{δ:List (Option D)}{a b c o tg:Expr}{pos apos cpos p p2:Pos}{x y:Str}
theorem ei_rev {ds:List D}(h:Ev X a δ (.lst ds))(hm:X.mg "reversed" = none)(hg:Gl X "reversed" := by rfl)(he:starEach [a] X.env = [(false,eval a X.env)]:=by rfl):EvI X tg (.Call (.Name "reversed" p) [a] [] pos) δ ds.reverse:=fun σ H L R l r k pins s I=>by
  refine wpAny_Call_Name_kw (ld_blt I hg hm boot_reversed ?_)
  refine PyProof.Rows.callWith_type1 ?_ (by rw [he]; rfl) rfl
  rw [he]
  show wpAny _ _ (spliced ((false,eval a X.env)::backTo pos [])) _ _ s
  refine Calls.spliced_cons (thn (h σ H L (fun v H'=>Same H H'∧Rep X.K H' L (.lst ds) v) l r (fun v H' s' r'=>⟨s',r'⟩) pins s I) fun u s1 ⟨v,H1,I1,rv,g1,r1⟩=>Calls.spliced_nil ?_)
  obtain ⟨q,us,rfl,hq,hr⟩:=rep_lst.mp r1
  cases rv
  obtain ⟨its,rv,pl,hz⟩:=I1.list hq.sq
  have hlen:its.toArray.size=us.length:=by rw [List.size_toArray]; exact rv.length.symm
  have hdl:us.length=ds.length:=hr.length.symm
  refine call_reversed_list pl.isList ?_
  rw [hlen]
  refine wpAny_pyIter_revIter (s:={ s1 with heap:=s1.heap.push (revObj q ((us.length:Int) - 1)) }) ⟨_,Heap.get?_push_size _ rfl,rfl,rfl⟩ ?_
  refine ⟨s1.heap.objs.size,[s1.heap.objs.size],_,Itv X.K q us.length,H1,rfl,I1.kept (t':=s1.toks) fun b o e=>Heap.get?_push_of_some _ e,turn_rev q _ us.length,?_,fun b hb=>?_,k _ H1 g1 fun H2 off i=>⟨fun d hd=>?_,fun hi=>?_⟩⟩
  · have:(us.length:Int) - 1 - ((0:Nat):Int)=(us.length:Int) - 1:=by omega
    rw [this]
    exact ⟨Nat.zero_le _,_,Heap.get?_push_size _ rfl,rfl,rfl⟩
  · have e:b=s1.heap.objs.size:=by simpa using hb
    subst e
    exact I1.fpOk (Nat.le_refl _) (I1.hok.fresh (Nat.le_refl _))
  · obtain ⟨hi,hd'⟩:=List.getElem?_eq_some_iff.mp hd
    rw [List.length_reverse] at hi
    rw [List.getElem_reverse] at hd'
    obtain ⟨v,hv,rv'⟩:=hr.get (i:=ds.length - 1 - i) (d:=d) (by rw [List.getElem?_eq_getElem (by omega),hd'])
    have hq2:=(sqL_off off hq).sq
    rw [hdl]
    refine ⟨⟨us,v,hq2,hdl,hi,hv⟩,fun v' H3 ⟨e,y⟩=>⟨e,?_⟩⟩
    have:=y us hq2
    rw [hv] at this; cases this
    exact rv'
  · rw [List.length_reverse] at hi
    show us.length≤i
    omega
theorem ev_lenS (h:Ev X a δ (.str x))(hz:x.length≤100000)(hm:X.mg "len" = none)(hg:Gl X "len" := by rfl)(he:starEach [a] X.env = [(false,eval a X.env)]:=by rfl):Ev X (.Call (.Name "len" p) [a] [] pos) δ (.int x.length):=
  ev_callB call_len_str hm PySem.boot_len (ea1 h he) (fun vs H L Q l r k=>by
    obtain ⟨v,rfl,h1⟩:=reps1 r
    rw [rep_str.mp h1]
    exact ⟨x,rfl,by have:=sizeLine_eq; omega,k _ H (.refl _) (rep_int.mpr rfl)⟩) hg (he:=he)
def inS (x y:Str):Bool:=!(occurrences y x 0 y.length 1).isEmpty
theorem et_ninS (ha:Ev X a δ (.str x))(hb:Ev X b δ (.str y))(hm:behindInMarks .NotIn b=false:=by with_unfolding_all rfl):EvT X (.Compare a [.NotIn] [b] pos) δ (!inS x y):=
  ev_tst op_notIn_str ha hb hm fun u v H L Q l h1 h2 k=>⟨x,y,rep_str.mp h1,rep_str.mp h2,k _ H (.refl _) (rep_bl.mpr rfl)⟩
theorem mt_index:MtR X "str.index" (fun u vs H Q=>∃z y i,u = .str z∧vs = [.str y]∧(∃rest,occurrences z y 0 z.length 1=i::rest)∧Q (.int (i:Nat)) H):=by
  intro pins s σ H u vs v us Q I ru rv h
  obtain ⟨z,y,i,rfl,rfl,⟨rest,ho⟩,q⟩:=h
  obtain ⟨t,rfl⟩:=ru
  obtain ⟨w',rfl,rw'⟩:=rv.one
  obtain ⟨t',rfl⟩:=rw'
  exact SC.index ho ⟨.int i,H,I.tok _,⟨_,rfl⟩,q⟩
theorem ev_index {i:Nat}(ho:Ev X o δ (.str x))(ha:Ev X a δ (.str y))(hi:(occurrences x y 0 x.length 1).head? = some i)(hst:starEach [a] X.env = [(false,eval a X.env)]:=by rfl)(hbase:attributeBase o "index" X.env (eval o X.env)=eval o X.env:=by rfl)(hfew:((backTo cpos (starEach [a] X.env)).all (fun x=>!x.1) && (backToKw cpos (keywordEach [] X.env)).all (fun x=>x.1.isSome)
      && decide ([a].length+([]:List Keyword).length+(if ([]:List Keyword).isEmpty then 0 else 1) < 30))=true:=by rfl)(hline:(apos.endLine == cpos.line)=true:=by rfl)(hplain:(backTo cpos (starEach [] X.env)).any (·.1)=false:=by rfl):Ev X (.Call (.Attribute o "index" apos) [a] [] cpos) δ (.int (i:Nat)):=fun σ H L Q l r q=>by
  refine we_of (pe_bm PySem.F.plainAttrs_str PySem.F.slot_str_index PySem.F.type_str_index mt_index pe_we (pa_cons pe_we pa_nil hst) hbase hfew hline hst hplain) ?_
  refine ho σ H L _ l r fun v H1 s1 r1=>?_
  rw [rep_str] at r1
  subst r1
  refine ⟨rfl,ha σ H1 L _ (l.same s1) (r.same s1) fun v2 H2 s2 r2=>?_⟩
  rw [rep_str] at r2
  subst r2
  obtain ⟨rest,hrest⟩:∃rest,occurrences x y 0 x.length 1=i::rest:=by
    cases z:occurrences x y 0 x.length 1 with
    | nil=>rw [z] at hi; cases hi
    | cons j rest=>rw [z] at hi; cases hi; exact ⟨rest,rfl⟩
  exact ⟨x,y,i,rfl,rfl,⟨rest,hrest⟩,q _ H2 (s1.trans s2) (rep_int.mpr rfl)⟩
theorem et_isNT {ds:List D}{j}(h:Ev X a δ (.tup ds)):EvT X (.Compare a [.Is] [.Constant .none j p] pos) δ false:=fun σ H L Q l e q=>by
  refine wt_of (pt_cmpR op_isN pe_we pe_non rfl) (h σ H L _ l e fun v H1 s1 r1=>?_)
  obtain ⟨x,vs,rfl,_⟩:=rep_tup.mp r1
  exact ⟨rfl,_,rfl,q H1 s1⟩
theorem et_isNN {j}(h:Ev X a δ .non):EvT X (.Compare a [.Is] [.Constant .none j p] pos) δ true:=fun σ H L Q l e q=>by
  refine wt_of (pt_cmpR op_isN pe_we pe_non rfl) (h σ H L _ l e fun v H1 s1 r1=>?_)
  rw [rep_non] at r1
  subst r1
  exact ⟨rfl,_,rfl,q H1 s1⟩
theorem et_inD {d:D}{ds:List D}{k:Bool}(hu:X.A.units+64 < cLine)(ha:Ev X a δ d)(hb:Ev X b δ (.lst ds))(n1:noIns d=true)(n2:noInss ds=true)(c1:(toPy d).canLay0=true)(c2:PyData.canLayAll0 (toPys ds)=true)(dp:(toPy d).depth≤60)(hk:((toPys ds).any fun y=>PyData.eqv y (toPy d))=k)(hm:behindInMarks .In b=false:=by with_unfolding_all rfl):EvT X (.Compare a [.In] [b] pos) δ k:=by
  have ho:OpR X (compareOp .In) (fun x y H Q=>∃L,LOk L H∧Rep X.K H L d x∧Rep X.K H L (.lst ds) y∧Q (.bl k) H):=by
    intro pins s σ H x y v u Q I rx ry h
    obtain ⟨L,l,r1,r2,q⟩:=h
    obtain ⟨as,ra⟩:=reads_of I n1 r1 rx
    obtain ⟨bs,rb⟩:=reads_of I (d:=.lst ds) (by unfold noIns; exact n2) r2 ry
    unfold toPy at rb
    refine SeqAt.in_list_reads rb ra c2 c1 (Nat.lt_of_le_of_lt (Nat.add_le_add_left (Nat.min_le_right _ _) _) (by omega)) ?_
    rw [hk]
    exact ⟨.bl _,H,I,rfl,q⟩
  exact ev_tst ho ha hb hm fun x y H L Q l r1 r2 q=>⟨L,l,r1,r2,q _ H (.refl _) (rep_bl.mpr rfl)⟩
end
end DL
namespace V
open PySem PySem.Spec L2 DL Mth
abbrev cp (x:Str):List Nat:=x.cps.toList
theorem cp_len (x:Str):(cp x).length=x.length:=by simp [Str.length]
theorem cp_app (x y:Str):cp (x++y)=cp x++cp y:=by unfold cp; rw [Str.cps_append,Array.toList_append]
theorem of_cp {x:Str}{l:List Nat}(h:cp x=l):x=⟨l.toArray⟩:=cps_inj h
theorem sl_idx {n:Nat}(i j:Nat):Builtin.Str.strSliceIndices (some (i:Int)) (some (j:Int)) 1 n=Builtin.Str.strSliceIndices (some ((min i n:Nat):Int)) (some ((min j n:Nat):Int)) 1 n:=by
  have h0:¬ ((i:Int) < 0):=by omega
  have h1:¬ ((j:Int) < 0):=by omega
  have h2:¬ (((min i n:Nat):Int) < 0):=by omega
  have h3:¬ (((min j n:Nat):Int) < 0):=by omega
  have h4:(1:Int) > 0:=by decide
  have e1:max 0 (min (i:Int) (n:Int))=max 0 (min ((min i n:Nat):Int) (n:Int)):=by omega
  have e2:max 0 (min (j:Int) (n:Int))=max 0 (min ((min j n:Nat):Int) (n:Int)):=by omega
  simp only [Builtin.Str.strSliceIndices,h0,h1,h2,h3,h4,if_false,if_true,e1,e2]
theorem sl_gen (x:Str){i j:Nat}(h:i≤j):cp (Txt.slice x (some (i:Int)) (some (j:Int)))=((cp x).drop i).take (j - i):=by
  have e:Txt.slice x (some (i:Int)) (some (j:Int))=Txt.slice x (some ((min i x.length:Nat):Int)) (some ((min j x.length:Nat):Int)):=by
    unfold Txt.slice
    rw [sl_idx]
  rw [e]
  have e2:Txt.slice x (some ((min i x.length:Nat):Int)) (some ((min j x.length:Nat):Int))=⟨(((cp x).drop (min i x.length)).take (min j x.length - min i x.length)).toArray⟩:=StrLaws.sliceText_nat x (by omega) (by omega)
  rw [e2]
  show ((cp x).drop (min i x.length)).take (min j x.length - min i x.length)=_
  rw [← cp_len]
  apply List.ext_getElem?
  intro k
  simp only [List.getElem?_take,List.getElem?_drop]
  by_cases hk:i+k < (cp x).length
  · have a1:min i (cp x).length=i:=by omega
    rw [a1]
    by_cases hj:k < j - i
    · rw [if_pos hj,if_pos (by omega)]
    · rw [if_neg hj,if_neg (by omega)]
  · have:(if k < j - i then (cp x)[i+k]? else none)=none:=by split <;> first | rfl | exact List.getElem?_eq_none (by omega)
    rw [this]
    split
    · exact List.getElem?_eq_none (by omega)
    · rfl
theorem sl_to (x:Str)(j:Nat):cp (Txt.slice x none (some (j:Int)))=(cp x).take j:=by
  have e:Txt.slice x none (some (j:Int))=Txt.slice x (some ((0:Nat):Int)) (some (j:Int)):=by
    unfold Txt.slice
    rw [StrLaws.sliceIdx_none_lo]
    rfl
  rw [e,sl_gen x (Nat.zero_le _),List.drop_zero,Nat.sub_zero]
theorem sl_from (x:Str)(i:Nat):cp (Txt.slice x (some (i:Int)) none)=(cp x).drop i:=by
  by_cases h:i≤x.length
  · have e:Txt.slice x (some (i:Int)) none=Txt.slice x (some (i:Int)) (some (x.length:Int)):=by
      unfold Txt.slice
      rw [StrLaws.sliceIdx_none_hi]
    rw [e,sl_gen x h,← cp_len,List.take_of_length_le]
    rw [List.length_drop]
    exact Nat.le_refl _
  · rw [PyProof.Rows.slice_beyond (by omega),List.drop_eq_nil_of_le (by rw [cp_len]; omega)]
    rfl
theorem in_one (y:Str)(c:Nat):inS ⟨#[c]⟩ y=decide (c∈cp y):=StrLaws.found_one y c
theorem one_of {x:Str}(h:x.length=1):∃c,x=⟨#[c]⟩:=by
  rw [← cp_len] at h
  match hh:cp x,h with
  | [c],_=>exact ⟨c,of_cp hh⟩
def sN (i:Nat):Str:=⟨#[48+i]⟩
theorem sN_eq:∀i < 6,sI (i:Nat)=sN i:=by decide +kernel
theorem sN_inj {i j:Nat}(h:sN i=sN j):i=j:=by
  have:=congrArg cp h
  have:[48+i] = [48+j]:=this
  simp at this
  exact this
def dg (n:Nat)(p:Str):Option Nat:=(List.range n).find? fun i=>decide (p=sN i)
theorem dg_some {n i:Nat}{p:Str}(h:dg n p=some i):i < n∧p=sN i:=by
  have h1:=List.find?_some h
  have h2:=List.mem_of_find?_eq_some h
  exact ⟨List.mem_range.mp h2,of_decide_eq_true h1⟩
theorem dg_none {n:Nat}{p:Str}(h:dg n p=none):∀i < n,p ≠ sN i:=fun i hi e=>by
  have:=List.find?_eq_none.mp h i (List.mem_range.mpr hi)
  simp [e] at this
theorem dg_sN {n i:Nat}(h:i < n):dg n (sN i)=some i:=by
  cases q:dg n (sN i) with
  | none=>exact absurd rfl (dg_none q i h)
  | some j=>rw [sN_inj (dg_some q).2]
theorem nums_none {p:Str}(h:dg 6 p=none):lookup (PyData.str p) NUMS=none:=by
  have hn:=dg_none h
  have k:∀ (a:Str) (i:Nat),i < 6→a=sN i→same (.str a) (.str p)=false:=fun a i hi ha=>by
    rw [PyProof.V.same_str]
    exact decide_eq_false fun z=>hn i hi (by rw [← z,ha])
  unfold NUMS NUM0
  simp only [List.map,lookup]
  rw [k _ 0 (by decide) (by decide +kernel),k _ 1 (by decide) (by decide +kernel),k _ 2 (by decide) (by decide +kernel),k _ 3 (by decide) (by decide +kernel),k _ 4 (by decide) (by decide +kernel),k _ 5 (by decide) (by decide +kernel)]
  rfl
theorem first_bad {α β:Type}(f:α→Option β):∀ps:List α,(∃is:List β,ps.map f=is.map some) ∨ ∃ (n:Nat) (q:α) (is:List β),ps[n]? = some q∧f q=none∧(ps.take n).map f=is.map some
  | []=>.inl ⟨[],rfl⟩
  | p::ps=>by
    cases hp:f p with
    | none=>exact .inr ⟨0,p,[],rfl,hp,rfl⟩
    | some b =>
      rcases first_bad f ps with ⟨is,h⟩ | ⟨n,q,is,h1,h2,h3⟩
      · exact .inl ⟨b::is,by rw [List.map_cons,List.map_cons,hp,h]⟩
      · exact .inr ⟨n+1,q,b::is,h1,h2,by rw [List.take_succ_cons,List.map_cons,List.map_cons,hp,h3]⟩
theorem mb_of:∀b0 b1 b2 b3 b4:Bool,∃a,a < 32∧mb a=(List.range 5).filter fun i=>[b0,b1,b2,b3,b4].getD i false:=by decide +kernel
theorem mb_lt:∀n < 6,∀a < 32,(∀i∈mb a,i < n)→a < 2 ^ n:=by decide +kernel
theorem nat_ext:∀ {a b:List Nat},a.Pairwise (· < ·)→b.Pairwise (· < ·)→(∀x,x∈a↔x∈b)→a=b
  | [],[],_,_,_=>rfl
  | [],y::b,_,_,h=>absurd ((h y).mpr (List.mem_cons_self ..)) (by simp)
  | x::a,[],_,_,h=>absurd ((h x).mp (List.mem_cons_self ..)) (by simp)
  | x::a,y::b,ha,hb,h=>by
    obtain ⟨h1,h2⟩:=List.pairwise_cons.mp ha
    obtain ⟨g1,g2⟩:=List.pairwise_cons.mp hb
    have e:x=y:=by
      rcases List.mem_cons.mp ((h x).mp (List.mem_cons_self ..)) with e | e
      · exact e
      · rcases List.mem_cons.mp ((h y).mpr (List.mem_cons_self ..)) with f | f
        · exact f.symm
        · have:=g1 x e; have:=h1 y f; omega
    subst e
    rw [nat_ext h2 g2 fun z=>⟨fun hz=>?_,fun hz=>?_⟩]
    · rcases List.mem_cons.mp ((h z).mp (List.mem_cons_of_mem _ hz)) with e | e
      · have:=h1 z hz; omega
      · exact e
    · rcases List.mem_cons.mp ((h z).mpr (List.mem_cons_of_mem _ hz)) with e | e
      · have:=g1 z hz; omega
      · exact e
theorem up_mb {n:Nat}(hn:n≤5){l:List Nat}(hu:l.Pairwise (· < ·))(hl:∀i∈l,i < n):∃a,a < 2 ^ n∧mb a=l:=by
  obtain ⟨a,ha,e⟩:=mb_of (l.contains 0) (l.contains 1) (l.contains 2) (l.contains 3) (l.contains 4)
  have e2:mb a=l:=by
    rw [e]
    refine nat_ext (List.pairwise_lt_range.filter _) hu fun x=>?_
    rw [List.mem_filter,List.mem_range]
    constructor
    · rintro ⟨h1,h2⟩
      have:x=0∨x=1∨x=2∨x=3∨x=4:=by omega
      rcases this with rfl | rfl | rfl | rfl | rfl <;> simpa using h2
    · intro hx
      have h5:=hl x hx
      have h5':x < 5:=by omega
      refine ⟨h5',?_⟩
      have:x=0∨x=1∨x=2∨x=3∨x=4:=by omega
      rcases this with rfl | rfl | rfl | rfl | rfl <;> simpa using hx
  exact ⟨a,mb_lt n (by omega) a ha (by rw [e2]; exact hl),e2⟩
theorem mb_up:∀a < 32,(mb a).Pairwise (· < ·):=by decide +kernel
theorem mb_mem:∀n < 6,∀a < 2 ^ n,∀i∈mb a,i < n:=by decide +kernel
theorem mi_mb (a:Nat):mi a=(mb a).map fun (i:Nat)=>(i:Int):=rfl
theorem w0_mb:∀a < 32,(mi a).map sI=(mb a).map sN:=by decide +kernel
theorem pc_cp:∀a < 32,(cp (pc a)).take 1 = [32]:=by decide +kernel
theorem pc_inj:∀a < 32,∀b < 32,pc a=pc b→a=b:=by decide +kernel
theorem pc_00:pc 0 = " -" := by decide +kernel
def lcr (w:Str)(n:Nat):Option Nat:=(List.range (2 ^ n)).find? fun a=>decide (w=pc a)
theorem lcr_some {w:Str}{n a:Nat}(h:lcr w n=some a):a < 2 ^ n∧w=pc a:=by
  have h1:=List.find?_some h
  have h2:=List.mem_of_find?_eq_some h
  exact ⟨List.mem_range.mp h2,of_decide_eq_true h1⟩
theorem lcr_none {w:Str}{n:Nat}:lcr w n=none ↔ ∀a < 2 ^ n,w ≠ pc a:=by
  unfold lcr
  rw [List.find?_eq_none]
  simp
theorem lcr_pc {n a:Nat}(hn:n≤5)(h:a < 2 ^ n):lcr (pc a) n=some a:=by
  cases q:lcr (pc a) n with
  | none=>exact absurd rfl (lcr_none.mp q a h)
  | some b =>
    obtain ⟨h1,h2⟩:=lcr_some q
    rw [pc_inj a (lt32 hn h) b (lt32 hn h1) h2]
def wps (w:Str):List Str:=Txt.split (Txt.slice w (some 1) none) "+"
theorem wps_pc {a:Nat}(h0:a ≠ 0)(ha:a < 32):wps (pc a)=(mb a).map sN:=by
  unfold wps
  rw [pc_cut a ha,spl_wd h0 ha,w0_mb a ha]
theorem wd_eq {w:Str}(h1:(cp w).take 1 = [32]):w = " " ++ Txt.slice w (some 1) none:=by
  apply cps_inj
  show cp w=cp (" " ++ _)
  have e:cp (Txt.slice w (some 1) none)=(cp w).drop 1:=sl_from w 1
  rw [cp_app,e]
  have:cp ((" " : String):Str) = [32]:=by decide +kernel
  rw [this,← h1,List.take_append_drop]
theorem wd_join {w:Str}{a:Nat}(ha:a < 32)(h1:(cp w).take 1 = [32])(h:wps w=(mb a).map sN):w=pc a:=by
  have hne:a ≠ 0:=by
    rintro rfl
    have:(wps w).length=0:=by rw [h]; decide +kernel
    have:=PyProof.Rows.split_pos (Txt.slice w (some 1) none) "+"
    unfold wps at *
    omega
  rw [wd_eq h1,pc_of hne]
  congr 1
  have:=StrLaws.join_split (Txt.slice w (some 1) none) "+"
  rw [← this]
  show Str.join "+" (wps w)=Builtin.Str.glued "+" _
  rw [StrLaws.glued_eq_join,h,w0_mb a ha]
theorem not_pc {w:Str}{n:Nat}(hn:n≤5)(h:(cp w).take 1 ≠ [32]):lcr w n=none:=lcr_none.mpr fun a ha e=>h (by rw [e]; exact pc_cp a (lt32 hn ha))
def Good (t:Str)(n:Nat)(ms:List Nat):Prop:=(1≤n∧n≤5)∧(∀a∈ms,a < 2 ^ n)∧due ms n=ms∧t=txt n ms
theorem sub_anti {a b:Nat}(h1:sub a b=true)(h2:sub b a=true):a=b:=by
  unfold sub at h1 h2
  have h1:=eq_of_beq h1
  have h2:=eq_of_beq h2
  rw [← h1,Nat.and_comm]
  exact h2
theorem sub_tr {a b c:Nat}(h1:sub a b=true)(h2:sub b c=true):sub a c=true:=by
  unfold sub at *
  have h1:=eq_of_beq h1
  have h2:=eq_of_beq h2
  rw [beq_iff_eq,← h1,Nat.and_assoc,h2]
theorem sub_me (a:Nat):sub a a=true:=by unfold sub; simp
theorem car_iff {t:List Nat}{c:Nat}:car t c=true ↔ ∃a∈t,sub a c=true:=by unfold car; simp
theorem due_iff {t:List Nat}{m a:Nat}:a∈due t m↔a∈cs m∧car t a=true ∧ ∀o∈cs m,car t o=true→sub o a=true→o=a:=by
  unfold due
  simp only [List.mem_filter,Bool.and_eq_true,List.all_eq_true,Bool.or_eq_true,beq_iff_eq,Bool.not_eq_true']
  constructor
  · rintro ⟨h1,h2,h3⟩
    exact ⟨h1,h2,fun o ho hc hs=>by
      rcases h3 o ⟨ho,hc⟩ with z | z
      · exact z
      · rw [hs] at z; cases z⟩
  · rintro ⟨h1,h2,h3⟩
    refine ⟨h1,h2,fun o ho=>?_⟩
    cases hs:sub o a with
    | false=>exact .inr rfl
    | true=>exact .inl (h3 o ho.1 ho.2 hs)
theorem due_up (t:List Nat)(m:Nat):(due t m).Pairwise fun a b=>rk a < rk b:=by unfold due; exact (cs_sorted m).filter _
theorem due_same {ms:List Nat}{n:Nat}(hn:n≤5)(hl:∀a∈ms,a < 2 ^ n)(hs:ms.Pairwise fun a b=>rk a < rk b)(ha:∀a∈ms,∀b∈ms,sub a b=true→a=b):due ms n=ms:=by
  refine sorted_ext (due_up _ _) hs fun a=>?_
  rw [due_iff,cs_mem hn]
  constructor
  · rintro ⟨h1,h2,h3⟩
    obtain ⟨b,hb,hs⟩:=car_iff.mp h2
    rw [← h3 b ((cs_mem hn).mpr (hl b hb)) (car_iff.mpr ⟨b,hb,sub_me b⟩) hs]
    exact hb
  · intro h
    refine ⟨hl a h,car_iff.mpr ⟨a,h,sub_me a⟩,fun o ho hc hs=>?_⟩
    obtain ⟨b,hb,hbo⟩:=car_iff.mp hc
    have e:=ha b hb a h (sub_tr hbo hs)
    subst e
    exact sub_anti hs hbo
theorem good_up {ms:List Nat}{n:Nat}(h:due ms n=ms):ms.Pairwise fun a b=>rk a < rk b:=by rw [← h]; exact due_up _ _
theorem good_anti {ms:List Nat}{n:Nat}(h:due ms n=ms):∀a∈ms,∀b∈ms,sub a b=true→a=b:=fun a ha b hb hs=>by
  rw [← h] at ha hb
  have hb':=due_iff.mp hb
  have ha':=due_iff.mp ha
  exact hb'.2.2 a ha'.1 ha'.2.1 hs
theorem hdt_cp:∀n < 6,cp (hdt n) = [48+n,58]:=by decide +kernel
theorem txt_cp {n:Nat}(hn:n≤5)(r:Str):cp (hdt n++r)=(48+n)::58::cp r:=by rw [cp_app,hdt_cp n (by omega)]; rfl
theorem head_of {t:Str}{n:Nat}(hn:n≤5)(h1:(cp t).take 1 = [48+n])(h2:((cp t).drop 1).take 1 = [58]):t=hdt n++Txt.slice t (some 2) none:=by
  apply cps_inj
  show cp t=cp (hdt n++_)
  have e:cp (Txt.slice t (some 2) none)=(cp t).drop 2:=sl_from t 2
  rw [txt_cp hn,e]
  match hh:cp t with
  | []=>rw [hh] at h1; cases h1
  | [a]=>rw [hh] at h2; cases h2
  | a::b::r =>
    rw [hh] at h1 h2
    simp at h1 h2
    rw [h1,h2]
    rfl
end V
namespace DL
open PySem PySem.Spec PyProof.Rows L2 PySem.W PySem.Calls
theorem blkz_ret {X:Cx}{δ:List En}{e:Expr}{pos:Pos}{C:Addr}{y:Bool}{rest:List Stmt}(h:EvZ X e (opn δ) C y):BlkZ X (.Return (some e) pos::rest) δ C y:=fun H0 L0 σ H L pins s l sr k I =>
  wpAny_execs_cons (wpAny_Return_some (wpAny_mono (h σ H L0 pins s (sr.lok0 l) (sr.opnR l) (k.mono sr.same) I) (fun _ _ z=>z.elim) fun _ _ z=>z))
end DL
namespace V
open PySem PySem.Spec L2 DL Mth
abbrev aStr:Str→List D:=fun t=>[.str t]
abbrev spoG (t:List Nat)(l:List Int)(u:List (List Int)):D:=.lst (t.map cr++tI l::u.map tI)
abbrev aInitG:Nat×List Nat×List Int×List (List Int)→List D:=fun i=>[.int i.1,spoG i.2.1 i.2.2.1 i.2.2.2]
def preG (i:Nat×List Nat×List Int×List (List Int)):Prop:=C5 i.1∧(∀a∈i.2.1,a < 2 ^ i.1)∧okFrom (-1) i.1 i.2.2.1=false
section
variable {P:Program}{w:World}{K:PySem.W.Frag}{mg:Str→Option Value}{base:Heap}{f:Addr}{fd:FuncData}{C CV CN CS CB:Addr}
abbrev rMkG (P:Program)(w:World)(K:PySem.W.Frag)(mg:Str→Option Value)(base:Heap)(C CB:Addr):Prop:=RMk P w K mg base "Council" C 2 aInitG preG CB
theorem d_initG (F:Fun K "__init__" "Council.__init__" sInit f fd)(Fs:pChkSize P w K mg base)(Fc:pChkCrowd P w K mg base)(R:rChkCrowd P w K mg base CB):FnOk P w K mg base (CXE P w) 2 f fd ["self", "many", "crowds"] (RaiseIn K C aInitG preG CB):=by
  refine fn_raiseI F scInit (fun _=>rfl) fun cdv A outer s H E hr ⟨m,t,l,u⟩ ⟨hm,ht,hb⟩=>?_
  dsimp only at hm ht hb
  refine blkx_cons (st_expr (ev_call Fs m hr (ea1 (ev_var 1)) hm)) ?_
  refine blkx_now (stmx_for 3 t.length (fun _=>[.no,.da (.int m),.da (spoG t l u),.no]) (ei_lst (ev_var 2)) rfl (fun j d hj hd=>?_) (d:=tI l) ?_ ?_ PassesOwn.leaving rfl scInit.nd)
  · rw [List.getElem?_append_left (by rw [List.length_map]; exact hj)] at hd
    obtain ⟨hj',rfl⟩:=map_get hd
    exact Blk.nxc (Blk.forget 3 (blk_one (st_expr (ev_call Fc (t[j],m) hr (ea2 (ev_var 3) (ev_var 1)) ⟨hm,ht _ (List.getElem_mem hj')⟩)))) rfl
  · rw [List.getElem?_append_right (by rw [List.length_map]; exact Nat.le_refl _),List.length_map,Nat.sub_self]
    rfl
  · exact blkx_now (stmx_expr (evx_call R (l,m) hr (ea2 (ev_var 3) (ev_var 1)) hb))
abbrev lCouS (P:Program)(w:World)(K:PySem.W.Frag)(mg:Str→Option Value)(base:Heap)(CN:Addr):Prop:=RFnL P w K mg base "council_read" 5 aInitS (fun i=>i.1 < 1∨5 < i.1) CN
abbrev lCouG (P:Program)(w:World)(K:PySem.W.Frag)(mg:Str→Option Value)(base:Heap)(CN:Addr):Prop:=RFnL P w K mg base "council_read" 5 aInitG preG CN
structure Cou (K:PySem.W.Frag)(mg:Str→Option Value)(C0 CN:Addr):Prop where
  ct:∃CV1 CV2 r1 r2,CatchB K mg "BadSize" CV1 C0 r1∧CatchB K mg "BadCrowd" CV2 C0 r2∧(r1 || r2)=true
  er:ErrC K mg "BadNote" CN
  wd:∃z t,mg "WORDS" = some (.str z t)
theorem d_couS (F:Fun K "council_read" "council_read" sCouncilRead f fd)(k:Cou K mg CS CN)(R:rMkS P w K mg base C CS):FnOk P w K mg base (CXE P w) 5 f fd ["many", "crowds"] (RaiseSpL K aInitS (fun i=>i.1 < 1∨5 < i.1) CN):=by
  obtain ⟨⟨CV1,CV2,r1,r2,c1,c2,hr12⟩,er,z,t,hW⟩:=k
  refine fn_raiseL F scCouncilRead (fun _=>rfl) fun cdv A outer s H E hr ⟨n,d⟩ hn=>?_
  exact blkl_now (stml_try c1 c2 hr12 er (fun E'=>blkz_ret (evz_make R (n,d) (Room.mono hr (by decide)) (ea2 (ev_var 0) (ev_var 1)) hn)) (fun a oa=>ev_globS hW) (by rintro (_ | _ | _) ds z <;> cases z) (fun a=>PassesOwnAt.leaving) rfl rfl)
theorem d_couG (F:Fun K "council_read" "council_read" sCouncilRead f fd)(k:Cou K mg CB CN)(R:rMkG P w K mg base C CB):FnOk P w K mg base (CXE P w) 5 f fd ["many", "crowds"] (RaiseSpL K aInitG preG CN):=by
  obtain ⟨⟨CV1,CV2,r1,r2,c1,c2,hr12⟩,er,z,t,hW⟩:=k
  refine fn_raiseL F scCouncilRead (fun _=>rfl) fun cdv A outer s H E hr i hn=>?_
  exact blkl_now (stml_try c1 c2 hr12 er (fun E'=>blkz_ret (evz_make R i (Room.mono hr (by decide)) (ea2 (ev_var 0) (ev_var 1)) hn)) (fun a oa=>ev_globS hW) (by rintro (_ | _ | _) ds z <;> cases z) (fun a=>PassesOwnAt.leaving) rfl rfl)
abbrev rNumR (P:Program)(w:World)(K:PySem.W.Frag)(mg:Str→Option Value)(base:Heap)(CN:Addr):Prop:=RFn P w K mg base "number_read" 1 aStr (fun p=>dg 6 p=none) CN
theorem d_numRR {z:Str}{t:Tok}(F:Fun K "number_read" "number_read" sNumberRead f fd)(T:Tab P w K mg "NUMBERS" NUMS)(e:ErrC K mg "BadNote" CN)(hW:mg "WORDS" = some (.str z t)):FnOk P w K mg base (CXE P w) 1 f fd ["text"] (RaiseSp K aStr (fun p=>dg 6 p=none) CN):=by
  refine fn_raise F scNumberRead (fun _=>rfl) fun cdv A outer s H E hr p hp=>?_
  refine blkx_now (stmx_ifT (EvT.cast (et_ninTab T (ev_var 0)) ?_) (blkx_now (stmx_raise e hr.hd (ev_globS hW))))
  rw [nums_none hp]
  rfl
end
end V
namespace V
open PySem PySem.Spec L2 DL Mth
def opt {α β:Type}(f:α→Option β):List α→Option (List β)
  | []=>some []
  | p::ps=>match f p,opt f ps with
    | some b,some bs=>some (b::bs)
    | _,_=>none
theorem opt_some {α β:Type}{f:α→Option β}:∀ {ps:List α}{is:List β},opt f ps=some is→ps.map f=is.map some
  | [],is,h=>by unfold opt at h; cases h; rfl
  | p::ps,is,h=>by
    unfold opt at h
    split at h
    · rename_i b bs h1 h2
      cases h
      rw [List.map_cons,List.map_cons,h1,opt_some h2]
    · cases h
theorem opt_none {α β:Type}{f:α→Option β}:∀ {ps:List α},opt f ps=none→∃ (n:Nat) (q:α),ps[n]? = some q∧f q=none ∧ ∀k∈ps.take n,(f k).isSome=true
  | [],h=>by unfold opt at h; cases h
  | p::ps,h=>by
    cases hp:f p with
    | none=>exact ⟨0,p,rfl,hp,fun k hk=>by simp at hk⟩
    | some b =>
      have h2:opt f ps=none:=by
        cases q:opt f ps with
        | none=>rfl
        | some bs=>unfold opt at h; rw [hp,q] at h; cases h
      obtain ⟨n,q,a1,a2,a3⟩:=opt_none h2
      refine ⟨n+1,q,a1,a2,fun k hk=>?_⟩
      rw [List.take_succ_cons] at hk
      rcases List.mem_cons.mp hk with rfl | hk
      · rw [hp]; rfl
      · exact a3 k hk
def crF (p:Str):Option (List Nat):=if p = "-" then some [] else opt (dg 6) (Txt.split p "+")
def csF (r:Str):Option (List (List Nat)):=if r = "" then some [] else opt (fun w=>crF (Txt.slice w (some 1) none)) (Txt.split r ",")
theorem map_dg {n:Nat}:∀ {ps:List Str}{is:List Nat},ps.map (dg n)=is.map some→ps=is.map sN ∧ ∀i∈is,i < n
  | [],[],_=>⟨rfl,fun _ z=>by cases z⟩
  | [],_::_,h=>by cases h
  | _::_,[],h=>by cases h
  | p::ps,i::is,h=>by
    rw [List.map_cons,List.map_cons] at h
    obtain ⟨e1,e2⟩:=List.cons.inj h
    obtain ⟨h1,h2⟩:=dg_some e1
    obtain ⟨h3,h4⟩:=map_dg e2
    refine ⟨by rw [List.map_cons,h2,h3],fun j hj=>?_⟩
    rcases List.mem_cons.mp hj with rfl | hj
    · exact h1
    · exact h4 j hj
theorem spl_le (x y:Str):(Txt.split x y).length≤x.length+2:=split_len x y
theorem jn_cnt (c:Nat):∀ps:List (List Nat),ps.length≤(jn c ps).count c+1
  | []=>Nat.zero_le _
  | [p]=>by simp
  | p::q::r=>by
    show (q::r).length+1≤(p++c::jn c (q::r)).count c+1
    have:=jn_cnt c (q::r)
    rw [List.count_append,List.count_cons_self]
    omega
theorem jn_mem {c x:Nat}:∀ {ps:List (List Nat)}{p:List Nat},p∈ps→p.length≤(jn c ps).length
  | [],_,h=>by cases h
  | [q],p,h=>by rw [List.mem_singleton.mp h]; exact Nat.le_refl _
  | q::q'::r,p,h=>by
    show p.length≤(q++c::jn c (q'::r)).length
    rw [List.length_append,List.length_cons]
    rcases List.mem_cons.mp h with rfl | h
    · omega
    · have:=jn_mem (c:=c) (x:=x) h
      omega
theorem spl_cp {c:Nat}{sep:Str}(hs:sep=⟨#[c]⟩)(x:Str):jn c ((Txt.split x sep).map cp)=cp x:=by
  have:=join_cps c (Txt.split x sep)
  rw [← hs,StrLaws.join_split] at this
  exact this.symm
theorem spl_cnt {c:Nat}{sep:Str}(hs:sep=⟨#[c]⟩)(x:Str):(Txt.split x sep).length≤(cp x).count c+1:=by
  have:=jn_cnt c ((Txt.split x sep).map cp)
  rwa [spl_cp hs,List.length_map] at this
theorem spl_piece {c:Nat}{sep:Str}(hs:sep=⟨#[c]⟩){x p:Str}(h:p∈Txt.split x sep):p.length≤x.length:=by
  have:=jn_mem (c:=c) (x:=0) (ps:=(Txt.split x sep).map cp) (List.mem_map_of_mem h)
  rwa [spl_cp hs,cp_len,cp_len] at this
theorem s44:((("," : String):Str))=⟨#[44]⟩:=by decide +kernel
theorem s43:((("+" : String):Str))=⟨#[43]⟩:=by decide +kernel
theorem two_of {t p q:Str}(h:Txt.split t ":" = [p,q]):t=p ++ ":" ++ q:=by
  have:=StrLaws.join_split t ":"
  rw [h] at this
  exact this.symm
end V
namespace V
open PySem PySem.Spec L2 DL Mth
abbrev tJ (is:List Nat):D:=.tup (is.map fun (i:Nat)=>D.int i)
theorem tJ_tI (is:List Nat):tJ is=tI (is.map fun (i:Nat)=>(i:Int)):=by unfold tJ tI; rw [List.map_map]; rfl
theorem tJ_cr (a:Nat):tJ (mb a)=cr a:=by rw [tJ_tI,← mi_mb]; rfl
abbrev aCrA:Str×List Nat→List D:=fun i=>[.str i.1]
abbrev aCsA:Str×List (List Nat)→List D:=fun i=>[.str i.1]
section
variable {P:Program}{w:World}{K:PySem.W.Frag}{mg:Str→Option Value}{base:Heap}{f:Addr}{fd:FuncData}{C CV CN CS CB:Addr}
abbrev pCrA (P:Program)(w:World)(K:PySem.W.Frag)(mg:Str→Option Value)(base:Heap):Prop:=PFn P w K mg base "crowd_read" 2 aCrA (fun i=>i.1.length≤900∧crF i.1=some i.2) fun i d=>d=tJ i.2
abbrev pCsA (P:Program)(w:World)(K:PySem.W.Frag)(mg:Str→Option Value)(base:Heap):Prop:=PFn P w K mg base "crowds_read" 3 aCsA (fun i=>i.1.length≤900∧csF i.1=some i.2) fun i d=>d = .lst (i.2.map tJ)
abbrev rCrA (P:Program)(w:World)(K:PySem.W.Frag)(mg:Str→Option Value)(base:Heap)(CN:Addr):Prop:=RFn P w K mg base "crowd_read" 2 aStr (fun p=>p.length≤900∧crF p=none) CN
abbrev rCsA (P:Program)(w:World)(K:PySem.W.Frag)(mg:Str→Option Value)(base:Heap)(CN:Addr):Prop:=RFn P w K mg base "crowds_read" 3 aStr (fun p=>p.length≤900∧csF p=none) CN
theorem d_crA (F:Fun K "crowd_read" "crowd_read" sCrowdRead f fd)(B:Blt mg)(Fn:pNumR P w K mg base):FnOk P w K mg base CX0 2 f fd ["text"] (PureSp K aCrA (fun i=>i.1.length≤900∧crF i.1=some i.2) fun i d=>d=tJ i.2):=by
  refine fn_pure F scCrowdRead (fun _=>rfl) fun cdv A outer s H E hr ⟨p,is⟩ ⟨hl,hc⟩=>?_
  have hr1:Room 1 _:=hr.mono (by decide)
  dsimp only at hl hc
  unfold crF at hc
  by_cases h0:p = "-"
  · rw [if_pos h0] at hc
    cases hc
    exact blk_rt (st_ifT (EvT.cast (et_eqT (ev_var 0) ev_str) (decide_eq_true h0)) (blk_rt (st_retE (Ev.cast (d:=.tup []) (ev_tup ea_nil) rfl))))
  · rw [if_neg h0] at hc
    obtain ⟨e1,e2⟩:=map_dg (opt_some hc)
    have hz:is.length≤902:=by
      have:=spl_le p "+"
      rw [e1,List.length_map] at this
      omega
    refine blk_cons (st_skip (EvT.cast (et_eqT (ev_var 0) ev_str) (decide_eq_false h0))) ?_
    refine blk_rt (st_retE (ev_tuple (ev_map (ks:=is) (g:=fun i=>D.str (sN i)) (f:=fun (i:Nat)=>D.int i) cok weak_id (ei_lst (Ev.cast (ev_split (ev_var 0) ev_str (by decide) (by dsimp only; omega)) ?_)) (by omega) (fun i hi cl C s₀ H₀ fp=>ev_call Fn (i:Int) hr1 (ea1 (ev_var 0)) ⟨by omega,by have:=e2 i hi; omega⟩ (hA:=by show [D.str (sI i)]=_; rw [sN_eq i (e2 i hi)]))) B.tuple))
    rw [e1,List.map_map]
    rfl
theorem d_crAR (F:Fun K "crowd_read" "crowd_read" sCrowdRead f fd)(B:Blt mg)(Fn:pNumR P w K mg base)(R:rNumR P w K mg base CN):FnOk P w K mg base (CXE P w) 2 f fd ["text"] (RaiseSp K aStr (fun p=>p.length≤900∧crF p=none) CN):=by
  refine fn_raise F scCrowdRead (fun _=>rfl) fun cdv A outer s H E hr p ⟨hl,hc⟩=>?_
  have hr1:Room 1 _:=hr
  unfold crF at hc
  by_cases h0:p = "-"
  · rw [if_pos h0] at hc; cases hc
  · rw [if_neg h0] at hc
    obtain ⟨n,q,h1,h2,h3⟩:=opt_none hc
    have hz:=spl_le p "+"
    refine blkx_cons (st_skip (EvT.cast (et_eqT (ev_var 0) ev_str) (decide_eq_false h0))) ?_
    refine blkx_now (stmx_ret (evx_argsTy B.tuple boot_tuple (eax_now (evx_map (ks:=Txt.split p "+") (g:=D.str) (f:=fun k=>D.int (((dg 6 k).getD 0:Nat):Int)) n h1 cok weak_id (ei_lst (ev_split (ev_var 0) ev_str (by decide) (by omega))) (by omega) (fun k hk cl C s₀ H₀ fp=>?_) (fun cl C s₀ H₀ fp XE=>evx_call R q hr1 (ea1 (ev_var 0)) h2) rfl rfl))))
    obtain ⟨i,hi⟩:=Option.isSome_iff_exists.mp (h3 k hk)
    obtain ⟨a1,a2⟩:=dg_some hi
    rw [hi]
    exact ev_call Fn (i:Int) hr1 (ea1 (ev_var 0)) ⟨by omega,by omega⟩ (hA:=by show [D.str (sI i)]=_; rw [sN_eq i a1,a2])
theorem d_csA (F:Fun K "crowds_read" "crowds_read" sCrowdsRead f fd)(Fc:pCrA P w K mg base):FnOk P w K mg base CX0 3 f fd ["text"] (PureSp K aCsA (fun i=>i.1.length≤900∧csF i.1=some i.2) fun i d=>d = .lst (i.2.map tJ)):=by
  refine fn_pure F scCrowdsRead (fun _=>rfl) fun cdv A outer s H E hr ⟨p,ls⟩ ⟨hl,hc⟩=>?_
  have hr2:Room 2 _:=hr.mono (by decide)
  dsimp only at hl hc
  unfold csF at hc
  by_cases h0:p = ""
  · rw [if_pos h0] at hc
    cases hc
    exact blk_rt (st_ifT (EvT.cast (et_eqT (ev_var 0) ev_str) (decide_eq_true h0)) (blk_rt (st_retE (Ev.cast (d:=.lst []) (ev_lst ea_nil) rfl))))
  · rw [if_neg h0] at hc
    have hm:=opt_some hc
    have hz:=spl_le p ","
    refine blk_cons (st_skip (EvT.cast (et_eqT (ev_var 0) ev_str) (decide_eq_false h0))) ?_
    refine blk_rt (st_retE (Ev.cast (ev_map (ks:=Txt.split p ",") (g:=D.str) (f:=fun w=>tJ ((crF (Txt.slice w (some 1) none)).getD [])) cok weak_id (ei_lst (ev_split (ev_var 0) ev_str (by decide) (by omega))) (by omega) (fun w hw cl C s₀ H₀ fp=>?_)) ?_))
    · have hwl:=spl_piece s44 hw
      have:∃l,crF (Txt.slice w (some 1) none)=some l:=by
        have:=List.mem_map_of_mem (f:=fun w=>crF (Txt.slice w (some 1) none)) hw
        rw [hm] at this
        obtain ⟨l,_,e⟩:=List.mem_map.mp this
        exact ⟨l,e.symm⟩
      obtain ⟨l,el⟩:=this
      rw [el]
      have hs:=Txt.slice_le w (some 1) none
      exact ev_call Fc (Txt.slice w (some 1) none,l) hr2 (ea1 (ev_slS (ev_var 0) (eo_some ev_int) eo_none (by omega))) ⟨by dsimp only; omega,el⟩
    · congr 1
      have:=congrArg (List.map fun o:Option (List Nat)=>tJ (o.getD [])) hm
      rw [List.map_map,List.map_map] at this
      exact this
theorem d_csAR (F:Fun K "crowds_read" "crowds_read" sCrowdsRead f fd)(Fc:pCrA P w K mg base)(R:rCrA P w K mg base CN):FnOk P w K mg base (CXE P w) 3 f fd ["text"] (RaiseSp K aStr (fun p=>p.length≤900∧csF p=none) CN):=by
  refine fn_raise F scCrowdsRead (fun _=>rfl) fun cdv A outer s H E hr p ⟨hl,hc⟩=>?_
  have hr2:Room 2 _:=hr
  unfold csF at hc
  by_cases h0:p = ""
  · rw [if_pos h0] at hc; cases hc
  · rw [if_neg h0] at hc
    obtain ⟨n,q,h1,h2,h3⟩:=opt_none hc
    have hz:=spl_le p ","
    have sl:∀w∈Txt.split p ",",(Txt.slice w (some 1) none).length≤900∧w.length≤900:=fun w hw=>by
      have hwl:=spl_piece s44 hw
      have hs:=Txt.slice_le w (some 1) none
      omega
    have hq:=sl q (List.mem_of_getElem? h1)
    refine blkx_cons (st_skip (EvT.cast (et_eqT (ev_var 0) ev_str) (decide_eq_false h0))) ?_
    refine blkx_now (stmx_ret (evx_map (ks:=Txt.split p ",") (g:=D.str) (f:=fun w=>tJ ((crF (Txt.slice w (some 1) none)).getD [])) n h1 cok weak_id (ei_lst (ev_split (ev_var 0) ev_str (by decide) (by omega))) (by omega) (fun k hk cl C s₀ H₀ fp=>?_) (fun cl C s₀ H₀ fp XE=>evx_call R (Txt.slice q (some 1) none) hr2 (ea1 (ev_slS (ev_var 0) (eo_some ev_int) eo_none (by omega))) ⟨hq.1,h2⟩) rfl rfl))
    obtain ⟨l,el⟩:=Option.isSome_iff_exists.mp (h3 k hk)
    have hk':=sl k (List.mem_of_mem_take hk)
    rw [el]
    exact ev_call Fc (Txt.slice k (some 1) none,l) hr2 (ea1 (ev_slS (ev_var 0) (eo_some ev_int) eo_none (by omega))) ⟨hk'.1,el⟩
end
end V
namespace V
open PySem PySem.Spec L2 DL Mth
theorem okFrom_up {m:Nat}:∀ (l:List Int) (a:Int),okFrom a m l=true→l.Pairwise (· < ·)
  | [],_,_=>.nil
  | x::r,a,h=>by
    have h2:okFrom x m r=true:=by
      unfold okFrom at h
      simp only [Bool.and_eq_true] at h
      exact h.2
    exact List.pairwise_cons.mpr ⟨fun y hy=>(okFrom_all r x h2 y hy).1,okFrom_up r x h2⟩
theorem ok_mb {m:Nat}(hm:m≤5){is:List Nat}(h:okFrom (-1) m (is.map fun (i:Nat)=>(i:Int))=true):∃a,a < 2 ^ m∧mb a=is:=by
  refine up_mb hm ?_ fun i hi=>?_
  · have:=okFrom_up _ _ h
    rw [List.pairwise_map] at this
    exact this.imp fun h=>by omega
  · have:=okFrom_all _ _ h i (List.mem_map_of_mem hi)
    omega
def okM (m:Nat)(is:List Nat):Option Nat:=(List.range (2 ^ m)).find? fun a=>decide (mb a=is)
theorem okM_some {m a:Nat}{is:List Nat}(h:okM m is=some a):a < 2 ^ m∧mb a=is:=by
  have h1:=List.find?_some h
  have h2:=List.mem_of_find?_eq_some h
  exact ⟨List.mem_range.mp h2,of_decide_eq_true h1⟩
theorem okM_none {m:Nat}(hm:m≤5){is:List Nat}(h:okM m is=none):okFrom (-1) m (is.map fun (i:Nat)=>(i:Int))=false:=by
  cases q:okFrom (-1) m (is.map fun (i:Nat)=>(i:Int)) with
  | false=>rfl
  | true =>
    obtain ⟨a,h1,h2⟩:=ok_mb hm q
    have:=List.find?_eq_none.mp h a (List.mem_range.mpr h1)
    simp [h2] at this
theorem okM_map {m:Nat}:∀ {ls:List (List Nat)}{ms:List Nat},ls.map (okM m)=ms.map some→ls=ms.map mb ∧ ∀a∈ms,a < 2 ^ m
  | [],[],_=>⟨rfl,fun _ z=>by cases z⟩
  | [],_::_,h=>by cases h
  | _::_,[],h=>by cases h
  | l::ls,a::ms,h=>by
    rw [List.map_cons,List.map_cons] at h
    obtain ⟨e1,e2⟩:=List.cons.inj h
    obtain ⟨h1,h2⟩:=okM_some e1
    obtain ⟨h3,h4⟩:=okM_map e2
    refine ⟨by rw [List.map_cons,h2,h3],fun j hj=>?_⟩
    rcases List.mem_cons.mp hj with rfl | hj
    · exact h1
    · exact h4 j hj
theorem tJ_map (ms:List Nat):(ms.map mb).map tJ=ms.map cr:=by
  rw [List.map_map]
  exact List.map_congr_left fun a _=>tJ_cr a
def Small (t:Str):Prop:=t.length≤900∧(cp t).count 44≤50
theorem csF_len {r:Str}{ls:List (List Nat)}(h:csF r=some ls)(hc:(cp r).count 44≤50):ls.length≤51:=by
  unfold csF at h
  by_cases h0:r = ""
  · rw [if_pos h0] at h; cases h; exact Nat.zero_le _
  · rw [if_neg h0] at h
    have:=congrArg List.length (opt_some h)
    rw [List.length_map,List.length_map] at this
    have:=spl_cnt s44 r
    omega
section
variable {P:Program}{w:World}{K:PySem.W.Frag}{mg:Str→Option Value}{base:Heap}{f:Addr}{fd:FuncData}{C CV CN CS CB:Addr}
abbrev lRead (P:Program)(w:World)(K:PySem.W.Frag)(mg:Str→Option Value)(base:Heap)(CN:Addr):Prop:=RFnL P w K mg base "read" 9 aStr (fun t=>Small t ∧ ∀n ms,¬ Good t n ms) CN
theorem d_readR {z:Str}{tk:Tok}(F:Fun K "read" "read" sRead f fd)(B:Blt mg)(Fn:pNumR P w K mg base)(Rn:rNumR P w K mg base CN)(Fc:pCsA P w K mg base)(Rc:rCsA P w K mg base CN)(Fo:pCouR P w K mg base C)(LS:lCouS P w K mg base CN)(LG:lCouG P w K mg base CN)(Fs:pShown P w K mg base C)(e:ErrC K mg "BadNote" CN)(hW:mg "WORDS" = some (.str z tk)) :
    FnOk P w K mg base (CXE P w) 9 f fd ["text"] (RaiseSpL K aStr (fun t=>Small t ∧ ∀n ms,¬ Good t n ms) CN):=by
  refine fn_raiseL F scRead (fun _=>rfl) fun cdv A outer s H E hr t ⟨⟨hl,hc⟩,hg⟩=>?_
  have hr1:Room 1 _:=hr.mono (by decide)
  have hr2:Room 2 _:=hr.mono (by decide)
  have hr3:Room 3 _:=hr.mono (by decide)
  have hr5:Room 5 _:=hr.mono (by decide)
  obtain ⟨fo,fdo,pso,_,hmo,hko,_⟩:=id Fo.ex
  refine blkl_set 1 (d:=.lst ((Txt.split t ":").map D.str)) (ev_split (ev_var 0) ev_str (by decide) (by omega)) ?_ scRead.nd
  by_cases h2:(Txt.split t ":").length=2
  rotate_left
  · refine blkl_of (blkx_now (stmx_ifT (EvT.cast (et_ne (ev_lenL (ev_var 1) B.len) ev_int) ?_) (blkx_now (stmx_raise e hr.hd (ev_globS hW)))))
    rw [List.length_map]
    simp only [Bool.not_eq_true',decide_eq_false_iff_not]
    omega
  obtain ⟨p0,p1,hp⟩:∃p0 p1,Txt.split t ":" = [p0,p1]:=by
    match hh:Txt.split t ":",h2 with
    | [a,b],_=>exact ⟨a,b,rfl⟩
  have ht:=two_of hp
  have hlen:p0.length≤900∧p1.length≤900∧(cp p1).count 44≤50:=by
    have h1:=congrArg (fun x:Str=>x.length) ht
    have h1:t.length=(p0 ++ ":" ++ p1).length:=h1
    rw [Str.length_append,Str.length_append] at h1
    have h3:=congrArg (fun x:Str=>(cp x).count 44) ht
    have h3:(cp t).count 44=(cp (p0 ++ ":" ++ p1)).count 44:=h3
    rw [cp_app,cp_app,List.count_append,List.count_append] at h3
    omega
  rw [hp]
  refine blkl_cons (st_skip (EvT.cast (et_ne (ev_lenL (ev_var 1) B.len) ev_int) rfl)) ?_
  cases h0:dg 6 p0 with
  | none=>exact blkl_of (blkx_now (stmx_set 2 (evx_argsC hmo hko (eax_now (evx_call Rn p0 hr1 (ea1 (ev_ixL (ev_var 1) ev_int rfl)) h0))) scRead.nd))
  | some i =>
    obtain ⟨hi6,hp0⟩:=dg_some h0
    have e0:aNum (i:Int) = [D.str p0]:=by show [D.str (sI i)]=_; rw [sN_eq i hi6,hp0]
    cases h1:csF p1 with
    | none=>exact blkl_of (blkx_now (stmx_set 2 (evx_argsC hmo hko (eax_cons (ev_call Fn (i:Int) hr1 (ea1 (ev_ixL (ev_var 1) ev_int rfl)) ⟨by omega,by omega⟩ (hA:=e0)) (eax_now (evx_call Rc p1 hr3 (ea1 (ev_ixL (ev_var 1) ev_int rfl)) ⟨hlen.2.1,h1⟩)))) scRead.nd))
    | some ls =>
      by_cases hi0:i=0
      · subst hi0
        exact blkl_now (stml_set 2 (evl_call LS (((0:Nat):Int),.lst (ls.map tJ)) hr5 (ea2 (ev_call Fn (((0:Nat):Int)) hr1 (ea1 (ev_ixL (ev_var 1) ev_int rfl)) ⟨by omega,by omega⟩ (hA:=e0)) (ev_call Fc (p1,ls) hr3 (ea1 (ev_ixL (ev_var 1) ev_int rfl)) ⟨hlen.2.1,h1⟩)) (.inl (by show (((0:Nat):Int)) < 1; decide))) scRead.nd)
      have c5:C5 i:=⟨by omega,by omega⟩
      rcases first_bad (okM i) ls with ⟨ms,hms⟩ | ⟨n,q,ms,b1,b2,b3⟩
      · obtain ⟨rfl,hlt⟩:=okM_map hms
        have hml:ms.length≤51:=by have:=csF_len h1 hlen.2.2; rwa [List.length_map] at this
        have okr:OkR ms i:=⟨c5,by omega,hlt⟩
        have okd:OkR (due ms i) i:=⟨c5,by have:=due_len31 (t:=ms) c5.1 c5.2; omega,due_lt c5.2⟩
        refine blkl_set 2 (d:=cns C i (due ms i)) (ev_call Fo (ms,i) hr (ea2 (ev_call Fn (i:Int) hr1 (ea1 (ev_ixL (ev_var 1) ev_int rfl)) ⟨by omega,by omega⟩ (hA:=e0)) (ev_call Fc (p1,ms.map mb) hr3 (ea1 (ev_ixL (ev_var 1) ev_int rfl)) ⟨hlen.2.1,h1⟩)) okr (hA:=by show [D.int i,crs ms]=_; rw [tJ_map]; rfl)) ?_ scRead.nd
        refine blkl_of (blkx_now (stmx_ifT (EvT.cast (et_neT (ev_call Fs (due ms i,i) hr2 (ea1 (ev_var 2)) okd) (ev_var 0)) ?_) (blkx_now (stmx_raise e hr.hd (ev_globS hW)))))
        dsimp only
        rw [Bool.not_eq_true',decide_eq_false_iff_not]
        exact fun z=>hg i (due ms i) ⟨c5,due_lt c5.2,due_due c5.2 hlt,z.symm⟩
      · have hn:n < ls.length:=(List.getElem?_eq_some_iff.mp b1).1
        obtain ⟨b4,b5⟩:=okM_map b3
        have e1:ls=ms.map mb++q::ls.drop (n+1):=by
          rw [← b4]
          have:ls[n]=q:=by rw [List.getElem?_eq_getElem hn] at b1; injection b1
          rw [← this,List.getElem_cons_drop,List.take_append_drop]
        have e2:ls.map tJ=ms.map cr++tI (q.map fun (i:Nat)=>(i:Int))::((ls.drop (n+1)).map fun l=>l.map fun (i:Nat)=>(i:Int)).map tI:=by
          conv=>lhs; rw [e1]
          rw [List.map_append,List.map_cons,tJ_map,tJ_tI,List.map_map]
          congr 2
          exact List.map_congr_left fun l _=>tJ_tI l
        exact blkl_now (stml_set 2 (evl_call LG (i,ms,q.map (fun (i:Nat)=>(i:Int)),(ls.drop (n+1)).map fun l=>l.map fun (i:Nat)=>(i:Int)) hr5 (ea2 (ev_call Fn (i:Int) hr1 (ea1 (ev_ixL (ev_var 1) ev_int rfl)) ⟨by omega,by omega⟩ (hA:=e0)) (ev_call Fc (p1,ls) hr3 (ea1 (ev_ixL (ev_var 1) ev_int rfl)) ⟨hlen.2.1,h1⟩)) ⟨c5,b5,okM_none c5.2 b2⟩ (hA:=by show [D.int i,.lst _]=_; rw [← e2])) scRead.nd)
end
end V
namespace ST
open PySem PySem.SetTable
theorem below_go (xs:Array Nat)(j:Nat)(hr:∀a b,a < b→b < xs.size→xs.getD a 0 < xs.getD b 0):∀ (fuel lo hi:Nat),lo≤hi→hi≤xs.size→hi - lo≤fuel→(∀i,i < lo→xs.getD i 0 < j)→(∀i,hi≤i→i < xs.size→j≤xs.getD i 0) →
    below.go xs j fuel lo hi≤xs.size∧(∀i,i < below.go xs j fuel lo hi→xs.getD i 0 < j) ∧ ∀i,below.go xs j fuel lo hi≤i→i < xs.size→j≤xs.getD i 0
  | 0,lo,hi,h1,h2,h3,h4,h5=>by
    have:lo=hi:=by omega
    subst this
    unfold below.go
    exact ⟨h2,h4,h5⟩
  | fuel+1,lo,hi,h1,h2,h3,h4,h5=>by
    unfold below.go
    by_cases h:lo < hi
    · rw [if_pos h]
      dsimp only
      have hm1:lo≤(lo+hi) / 2:=by omega
      have hm2:(lo+hi) / 2 < hi:=by omega
      have hg:xs.getD ((lo+hi) / 2) j=xs.getD ((lo+hi) / 2) 0:=by
        have hs:(lo+hi) / 2 < xs.size:=by omega
        simp [Array.getD,hs]
      rw [hg]
      by_cases hc:xs.getD ((lo+hi) / 2) 0 < j
      · rw [if_pos hc]
        refine below_go xs j hr fuel ((lo+hi) / 2+1) hi (by omega) h2 (by omega) (fun i hi'=>?_) h5
        rcases Nat.lt_or_ge i ((lo+hi) / 2) with q | q
        · exact Nat.lt_trans (hr i _ q (by omega)) hc
        · have:i=(lo+hi) / 2:=by omega
          rw [this]; exact hc
      · rw [if_neg hc]
        refine below_go xs j hr fuel lo ((lo+hi) / 2) (by omega) (by omega) (by omega) h4 (fun i hi' hs=>?_)
        rcases Nat.lt_or_ge ((lo+hi) / 2) i with q | q
        · have:=hr _ i q hs
          omega
        · have:i=(lo+hi) / 2:=by omega
          rw [this]; omega
    · rw [if_neg h]
      have:lo=hi:=by omega
      subst this
      exact ⟨h2,h4,h5⟩
theorem below_cut {L:List Nat}(hp:L.Pairwise (· < ·))(j:Nat):∃A B,L=A++B∧(∀x∈A,x < j)∧(∀x∈B,j≤x)∧below L.toArray j=A.length:=by
  have hr:∀a b,a < b→b < L.toArray.size→L.toArray.getD a 0 < L.toArray.getD b 0:=fun a b hab hb=>by
    have hb':b < L.length:=by simpa using hb
    have ha':a < L.length:=by omega
    have:=List.pairwise_iff_getElem.mp hp a b ha' hb' hab
    simpa [Array.getD,hb',ha'] using this
  obtain ⟨h1,h2,h3⟩:=below_go L.toArray j hr L.toArray.size 0 L.toArray.size (Nat.zero_le _) (Nat.le_refl _) (by omega) (fun i h=>absurd h (Nat.not_lt_zero _)) (fun i h h'=>absurd h' (by omega))
  have e:below L.toArray j=below.go L.toArray j L.toArray.size 0 L.toArray.size:=rfl
  rw [← e] at h1 h2 h3
  have h1':below L.toArray j≤L.length:=by simpa using h1
  refine ⟨L.take (below L.toArray j),L.drop (below L.toArray j),(List.take_append_drop _ _).symm,fun x hx=>?_,fun x hx=>?_,by rw [List.length_take]; omega⟩
  · obtain ⟨i,hi,rfl⟩:=List.mem_take_iff_getElem.mp hx
    have:=h2 i (by omega)
    have hi':i < L.length:=by omega
    simpa [Array.getD,hi'] using this
  · obtain ⟨i,hi,rfl⟩:=List.mem_drop_iff_getElem.mp hx
    have:=h3 (below L.toArray j+i) (by omega) (by simpa [Nat.add_comm] using hi)
    have hi2:below L.toArray j+i < L.length:=by omega
    simpa [Array.getD,hi2] using this
theorem slot_none {t:SetTable}{L:List Nat}(hp:L.Pairwise (· < ·))(ht:t.place=L.toArray)(hd:t.dummies = #[]){j:Nat}(hj:j ∉ L):t.slot j = .empty:=by
  obtain ⟨A,B,rfl,h1,h2,h3⟩:=below_cut hp j
  unfold SetTable.slot
  rw [ht,h3,hd]
  have:¬ ((A++B).toArray[A.length]? == some j)=true:=by
    rw [List.getElem?_toArray,List.getElem?_append_right (Nat.le_refl _),Nat.sub_self]
    intro h
    have h:=eq_of_beq h
    exact hj (List.mem_append_right _ (List.mem_of_getElem? h))
  dsimp only
  rw [if_neg this]
  rfl
theorem slot_live {t:SetTable}{L:List Nat}(hp:L.Pairwise (· < ·))(ht:t.place=L.toArray){i j:Nat}(hj:L[i]? = some j):t.slot j = .live i:=by
  obtain ⟨A,B,rfl,h1,h2,h3⟩:=below_cut hp j
  unfold SetTable.slot
  rw [ht,h3]
  have hiA:¬ i < A.length:=fun z=>by
    rw [List.getElem?_append_left z] at hj
    exact Nat.lt_irrefl _ (h1 j (List.mem_of_getElem? hj))
  have hb:B ≠ []:=by
    rintro rfl
    rw [List.append_nil] at hj
    exact hiA (List.getElem?_eq_some_iff.mp hj).1
  obtain ⟨b,B',rfl⟩:=List.exists_cons_of_ne_nil hb
  rw [List.getElem?_append_right (by omega)] at hj
  have e:i=A.length:=by
    by_cases z:i=A.length
    · exact z
    · exfalso
      have hlt:0 < i - A.length:=by omega
      obtain ⟨k,hk⟩:∃k,i - A.length=k+1:=⟨i - A.length - 1,by omega⟩
      rw [hk,List.getElem?_cons_succ] at hj
      have hm:=List.mem_of_getElem? hj
      have p2:=(List.pairwise_append.mp hp).2.1
      have:=(List.pairwise_cons.mp p2).1 j hm
      have:=h2 b (List.mem_cons_self ..)
      omega
  rw [e,Nat.sub_self] at hj
  have:((A++b::B').toArray[A.length]? == some j)=true:=by
    rw [List.getElem?_toArray,List.getElem?_append_right (Nat.le_refl _),Nat.sub_self,hj]
    exact beq_self_eq_true _
  dsimp only
  rw [if_pos this,e]
def vis (mask:Nat):Nat→Nat→Nat→List Nat
  | 0,_,_=>[]
  | f+1,i,pt=>List.range' i (runEnd mask i - i+1)++vis mask f (leap mask i pt).1 (leap mask i pt).2
def VL (mask:Nat)(h:Int):List Nat:=vis mask (turns mask) (bits h % (mask+1)) (bits h)
theorem run_le (mask i:Nat):runEnd mask i - i+1≤10:=by unfold runEnd; split <;> omega
theorem vis_len (mask:Nat):∀f i pt,(vis mask f i pt).length≤10 * f
  | 0,_,_=>Nat.le_refl _
  | f+1,i,pt=>by
    unfold vis
    rw [List.length_append,List.length_range']
    have:=vis_len mask f (leap mask i pt).1 (leap mask i pt).2
    have:=run_le mask i
    omega
def rem (mask:Nat)(p:Probe)(f:Nat):List Nat:=List.range' p.j (p.more+1)++vis mask f (leap mask p.i p.perturb).1 (leap mask p.i p.perturb).2
theorem rem_start (t:SetTable)(h:Int):rem t.mask (t.probeStart h) (t.mask+14)=VL t.mask h:=rfl
theorem rem_step {t:SetTable}{p:Probe}{f x:Nat}{r:List Nat}(h:rem t.mask p f=x::r)(hr:r ≠ []):x=p.j∧(t.advance p).dummy=p.dummy ∧ ∃f',rem t.mask (t.advance p) f'=r:=by
  unfold rem at h
  rw [List.range'_succ,List.cons_append] at h
  injection h with h1 h2
  refine ⟨h1.symm,?_,?_⟩
  · unfold SetTable.advance
    split <;> rfl
  · by_cases hm:p.more > 0
    · refine ⟨f,?_⟩
      unfold rem SetTable.advance
      rw [if_pos hm]
      dsimp only
      rw [← h2,show p.more - 1+1=p.more by omega]
    · have h0:p.more=0:=by omega
      rw [h0,List.range'_zero,List.nil_append] at h2
      cases f with
      | zero=>exact absurd h2.symm hr
      | succ f =>
        refine ⟨f,?_⟩
        unfold rem SetTable.advance
        rw [if_neg hm]
        dsimp only
        rw [← h2]
        rfl
section
variable {t:SetTable}{L:List Nat}{ha:Nat→Int}{h:Int}(hp:L.Pairwise (· < ·))(ht:t.place=L.toArray)
include hp ht
theorem go_pass:∀ (pre:List Nat) {p:Probe}{f fuel j:Nat}{post:List Nat},p.dummy=none→rem t.mask p f=pre++j::post→pre.length < fuel→(∀x∈pre,∃i,L[i]? = some x∧ha i ≠ h) →
    ∃ (p':Probe) (fuel':Nat),p'.dummy=none∧p'.j=j∧probe.go t ha h fuel p=probe.go t ha h (fuel'+1) p'
  | [],p,f,fuel,j,post,hd,he,hf,_=>by
    obtain ⟨fuel,rfl⟩:∃k,fuel=k+1:=⟨fuel - 1,by simp only [List.length_nil] at hf; omega⟩
    refine ⟨p,fuel,hd,?_,rfl⟩
    unfold rem at he
    rw [List.range'_succ,List.cons_append] at he
    injection he
  | x::pre,p,f,fuel,j,post,hd,he,hf,hx=>by
    obtain ⟨fuel,rfl⟩:∃k,fuel=k+1:=⟨fuel - 1,by simp only [List.length_cons] at hf; omega⟩
    obtain ⟨e1,e2,f',e3⟩:=rem_step (r:=pre++j::post) he (by simp)
    obtain ⟨i,hi,hne⟩:=hx x (List.mem_cons_self ..)
    obtain ⟨p',fuel',a1,a2,a3⟩:=go_pass pre (p:=t.advance p) (fuel:=fuel) (by rw [e2]; exact hd) e3 (by simp only [List.length_cons] at hf; omega) fun y hy=>hx y (List.mem_cons_of_mem _ hy)
    refine ⟨p',fuel',a1,a2,?_⟩
    rw [← a3]
    show probe.go t ha h (fuel+1) p=_
    conv=>lhs; unfold probe.go
    rw [← e1,slot_live hp ht hi]
    dsimp only
    rw [if_neg (by simpa using hne)]
theorem probe_pass {pre post:List Nat}{j:Nat}(he:VL t.mask h=pre++j::post)(hx:∀x∈pre,∃i,L[i]? = some x∧ha i ≠ h) :
    ∃ (p':Probe) (fuel':Nat),p'.dummy=none∧p'.j=j∧t.probe ha h (t.probeStart h)=probe.go t ha h (fuel'+1) p':=by
  have hl:(VL t.mask h).length≤10 * turns t.mask:=vis_len _ _ _ _
  rw [he,List.length_append,List.length_cons] at hl
  exact go_pass hp ht pre (f:=t.mask+14) rfl ((rem_start t h).trans he) (by omega) hx
theorem probe_free (hd:t.dummies = #[]){pre post:List Nat}{j:Nat}(he:VL t.mask h=pre++j::post)(hx:∀x∈pre,∃i,L[i]? = some x∧ha i ≠ h)(hj:j ∉ L) :
    t.probe ha h (t.probeStart h)=some (.empty j none):=by
  obtain ⟨p',fuel',a1,a2,a3⟩:=probe_pass hp ht he hx
  rw [a3]
  unfold probe.go
  rw [a2,slot_none hp ht hd hj,a1]
theorem probe_hit {pre post:List Nat}{i j:Nat}(he:VL t.mask h=pre++j::post)(hx:∀x∈pre,∃i,L[i]? = some x∧ha i ≠ h)(hj:L[i]? = some j)(hh:ha i=h) :
    ∃nx,t.probe ha h (t.probeStart h)=some (.candidate j i nx):=by
  obtain ⟨p',fuel',a1,a2,a3⟩:=probe_pass hp ht he hx
  refine ⟨t.advance p',?_⟩
  rw [a3]
  unfold probe.go
  rw [a2,slot_live hp ht hj]
  dsimp only
  rw [if_pos (by simpa using hh)]
end
end ST
namespace ST
open PySem PySem.SetTable
def bm (l:List Nat):Nat:=l.foldl (fun a s=>a ||| 1 <<< s) 0
theorem bm_mem':∀ (l:List Nat) (a s:Nat),(l.foldl (fun a s=>a ||| 1 <<< s) a).testBit s=true→a.testBit s=true∨s∈l
  | [],a,s,h=>.inl h
  | x::l,a,s,h=>by
    rw [List.foldl_cons] at h
    rcases bm_mem' l _ s h with q | q
    · rw [Nat.testBit_or,Bool.or_eq_true] at q
      rcases q with q | q
      · exact .inl q
      · rw [Nat.testBit_shiftLeft,Bool.and_eq_true,decide_eq_true_eq] at q
        refine .inr ?_
        have h1:=q.2
        by_cases e:s=x
        · rw [e]; exact List.mem_cons_self ..
        · exfalso
          have:s - x ≠ 0:=by have:=q.1; omega
          obtain ⟨k,hk⟩:∃k,s - x=k+1:=⟨s - x - 1,by omega⟩
          rw [hk,Nat.testBit_succ] at h1
          simp at h1
    · exact .inr (List.mem_cons_of_mem _ q)
def Cov (mask:Nat)(h:Int):Prop:=∀s,s≤mask→s∈VL mask h
theorem cov_of {mask:Nat}{h:Int}(e:bm (VL mask h)=2 ^ (mask+1) - 1):Cov mask h:=fun s hs=>by
  have:(bm (VL mask h)).testBit s=true:=by
    rw [e,Nat.testBit_two_pow_sub_one]
    exact decide_eq_true (by omega)
  rcases bm_mem' _ 0 s this with q | q
  · simp at q
  · exact q
theorem vis_le (mask:Nat):∀f i pt,i≤mask→∀x∈vis mask f i pt,x≤mask
  | 0,_,_,_,x,h=>by unfold vis at h; cases h
  | f+1,i,pt,hi,x,h=>by
    unfold vis at h
    rcases List.mem_append.mp h with h | h
    · rw [List.mem_range'_1] at h
      have:runEnd mask i≤mask:=by unfold runEnd; split <;> omega
      have:i≤runEnd mask i:=by unfold runEnd; split <;> omega
      omega
    · refine vis_le mask f _ _ ?_ x h
      have:(i * 5+1+pt / 32) % (mask+1) < mask+1:=Nat.mod_lt _ (by omega)
      exact Nat.le_of_lt_succ this
theorem VL_le {mask:Nat}{h:Int}:∀x∈VL mask h,x≤mask:=vis_le mask _ _ _ (Nat.le_of_lt_succ (Nat.mod_lt _ (by omega)))
theorem some_free {mask:Nat}{L:List Nat}(hl:L.length≤mask):∃s,s≤mask∧s ∉ L:=by
  apply Classical.byContradiction
  intro hn
  have hsub:List.range (mask+1) ⊆ L:=fun s hs=>Classical.byContradiction fun z=>hn ⟨s,by have:=List.mem_range.mp hs; omega,z⟩
  have:=List.Nodup.length_le_of_subset List.nodup_range hsub
  rw [List.length_range] at this
  omega
theorem first_not {L:List Nat}{W:List Nat}{s:Nat}(hs:s∈W)(hn:s ∉ L):∃pre j post,W=pre++j::post∧(∀x∈pre,x∈L)∧j ∉ L:=by
  cases h:W.find? (fun x=>!(L.contains x)) with
  | none =>
    have:=List.find?_eq_none.mp h s hs
    simp at this
    exact absurd this hn
  | some j =>
    obtain ⟨h1,as,bs,h2,h3⟩:=List.find?_eq_some_iff_append.mp h
    refine ⟨as,j,bs,h2,fun x hx=>?_,?_⟩
    · have:=h3 x hx
      simpa using this
    · simpa using h1
def Rch (mask:Nat)(L:List Nat)(h:Int)(j:Nat):Prop:=∃pre post,VL mask h=pre++j::post∧j ∉ pre ∧ ∀x∈pre,x∈L
theorem Rch.mono {mask:Nat}{L L':List Nat}{h:Int}{j:Nat}(r:Rch mask L h j)(hs:∀x∈L,x∈L'):Rch mask L' h j:=by
  obtain ⟨pre,post,a,b,c⟩:=r
  exact ⟨pre,post,a,b,fun x hx=>hs x (c x hx)⟩
theorem rch_free {mask:Nat}{L:List Nat}{h:Int}(c:Cov mask h)(hl:L.length≤mask):∃j,j≤mask∧j ∉ L∧Rch mask L h j:=by
  obtain ⟨s,h1,h2⟩:=some_free hl
  obtain ⟨pre,j,post,a,b,d⟩:=first_not (c s h1) h2
  exact ⟨j,VL_le j (by rw [a]; exact List.mem_append_right _ (List.mem_cons_self ..)),d,pre,post,a,fun z=>d (b j z),b⟩
theorem free_first (mask:Nat)(owner:Array (Option Nat)):∀fuel i pt,(∃x∈vis mask fuel i pt,(owner.getD x (some 0)).isNone=true) →
    ∃j pre post,layClean.free mask owner fuel i pt=some j∧vis mask fuel i pt=pre++j::post∧(owner.getD j (some 0)).isNone=true ∧ ∀x∈pre,¬ (owner.getD x (some 0)).isNone=true
  | 0,_,_,⟨x,h,_⟩=>by unfold vis at h; cases h
  | fuel+1,i,pt,⟨x,hx,hn⟩=>by
    have hrun:runEnd mask i+1 - i=runEnd mask i - i+1:=by unfold runEnd; split <;> omega
    unfold layClean.free
    rw [hrun]
    unfold vis at hx ⊢
    cases hf:(List.range (runEnd mask i - i+1)).find? (fun k=>(owner.getD (i+k) (some 0)).isNone) with
    | some k =>
      obtain ⟨h1,as,bs,h2,h3⟩:=List.find?_eq_some_iff_append.mp hf
      refine ⟨i+k,as.map (i + ·),bs.map (i + ·)++vis mask fuel (leap mask i pt).1 (leap mask i pt).2,rfl,?_,h1,fun y hy=>?_⟩
      · rw [List.range'_eq_map_range,h2,List.map_append,List.map_cons,List.append_assoc,List.cons_append]
      · obtain ⟨z,hz,rfl⟩:=List.mem_map.mp hy
        have:=h3 z hz
        rw [Bool.not_eq_true'] at this
        exact fun q=>by rw [this] at q; cases q
    | none =>
      have hno:=List.find?_eq_none.mp hf
      have hrest:x∈vis mask fuel (leap mask i pt).1 (leap mask i pt).2:=by
        rcases List.mem_append.mp hx with h | h
        · rw [List.range'_eq_map_range] at h
          obtain ⟨z,hz,rfl⟩:=List.mem_map.mp h
          exact absurd hn (hno z hz)
        · exact h
      obtain ⟨j,pre,post,a1,a2,a3,a4⟩:=free_first mask owner fuel _ _ ⟨x,hrest,hn⟩
      refine ⟨j,List.range' i (runEnd mask i - i+1)++pre,post,a1,?_,a3,fun y hy=>?_⟩
      · rw [a2,List.append_assoc]
      · rcases List.mem_append.mp hy with h | h
        · rw [List.range'_eq_map_range] at h
          obtain ⟨z,hz,rfl⟩:=List.mem_map.mp h
          exact hno z hz
        · exact a4 y h
def layStep (mask:Nat)(acc:Option (Array (Option Nat)×Nat))(h:Int):Option (Array (Option Nat)×Nat):=do
  let (owner,k) ← acc
  let j ← layClean.free mask owner (turns mask) (bits h % (mask+1)) (bits h)
  pure (owner.setIfInBounds j (some k),k+1)
theorem layClean_eq (mask:Nat)(hs:List Int):layClean mask hs.toArray=(hs.foldl (layStep mask) (some (Array.replicate (mask+1) none,0))).map (·.1):=by
  unfold layClean
  rw [← Array.foldl_toList]
  rfl
structure LayI (mask:Nat)(P:List Nat)(hs:List Int)(owner:Array (Option Nat)):Prop where
  sz:owner.size=mask+1
  pl:∀i j:Nat,P[i]? = some j↔owner[j]? = some (some i)
  len:P.length=hs.length
  rch:∀ (i j:Nat) (h:Int),P[i]? = some j→hs[i]? = some h→Rch mask P h j
theorem LayI.start (mask:Nat):LayI mask [] [] (Array.replicate (mask+1) none):=by
  refine ⟨Array.size_replicate,fun i j=>⟨fun h=>by simp at h,fun h=>?_⟩,rfl,fun i j h a=>by simp at a⟩
  rw [Array.getElem?_replicate] at h
  split at h <;> simp at h
theorem LayI.step {mask:Nat}{P:List Nat}{hs:List Int}{owner:Array (Option Nat)}{h:Int}(I:LayI mask P hs owner)(c:Cov mask h)(hl:hs.length≤mask) :
    ∃j,layStep mask (some (owner,hs.length)) h=some (owner.setIfInBounds j (some hs.length),hs.length+1)∧LayI mask (P ++ [j]) (hs ++ [h]) (owner.setIfInBounds j (some hs.length)):=by
  have hP:∀x,x≤mask→((owner.getD x (some 0)).isNone=true↔x ∉ P):=fun x hx=>by
    have hlt:x < owner.size:=by rw [I.sz]; omega
    have hg:owner[x]? = some owner[x]:=Array.getElem?_eq_getElem hlt
    have hd:owner.getD x (some 0)=owner[x]:=by simp [Array.getD,hlt]
    rw [hd]
    constructor
    · intro h1 h2
      obtain ⟨i,hi,hx'⟩:=List.getElem_of_mem h2
      have:=(I.pl i x).mp (by rw [List.getElem?_eq_getElem hi,hx'])
      rw [hg] at this
      injection this with this
      rw [this] at h1
      cases h1
    · intro h1
      cases ho:owner[x] with
      | none=>rfl
      | some i =>
        exfalso
        have:=(I.pl i x).mpr (by rw [hg,ho])
        exact h1 (List.mem_of_getElem? this)
  obtain ⟨s,s1,s2,_⟩:=rch_free (L:=P) c (by rw [I.len]; exact hl)
  obtain ⟨j,pre,post,a1,a2,a3,a4⟩:=free_first mask owner (turns mask) (bits h % (mask+1)) (bits h) ⟨s,c s s1,(hP s s1).mpr s2⟩
  have a2':VL mask h=pre++j::post:=a2
  have hjm:j≤mask:=VL_le (h:=h) j (by rw [a2']; exact List.mem_append_right _ (List.mem_cons_self ..))
  have hjP:j ∉ P:=(hP j hjm).mp a3
  have hpre:∀x∈pre,x∈P:=fun x hx=>Classical.byContradiction fun z=>a4 x hx ((hP x (VL_le (h:=h) x (by rw [a2']; exact List.mem_append_left _ hx))).mpr z)
  have hjs:j < owner.size:=by rw [I.sz]; omega
  refine ⟨j,?_,?_⟩
  · unfold layStep
    simp only [Option.bind_eq_bind,Option.bind_some,a1]
    rfl
  · refine ⟨by rw [Array.size_setIfInBounds]; exact I.sz,fun i j'=>?_,by rw [List.length_append,List.length_append,I.len]; rfl,fun i j' h' b1 b2=>?_⟩
    · rw [Array.getElem?_setIfInBounds]
      by_cases hi:i < P.length
      · rw [List.getElem?_append_left hi]
        by_cases e:j=j'
        · subst e
          rw [if_pos rfl,if_pos hjs]
          constructor
          · intro z; exact absurd (List.mem_of_getElem? z) hjP
          · intro z
            injection z with z
            injection z with z
            rw [I.len] at hi
            omega
        · rw [if_neg e]
          exact I.pl i j'
      · rw [List.getElem?_append_right (by omega)]
        by_cases e:j=j'
        · subst e
          rw [if_pos rfl,if_pos hjs]
          constructor
          · intro z
            have:i - P.length=0:=by
              by_cases q:i - P.length=0
              · exact q
              · rw [List.getElem?_eq_none (by simp; omega)] at z; cases z
            have:i=hs.length:=by rw [← I.len]; omega
            rw [this]
          · intro z
            injection z with z
            injection z with z
            rw [← z,I.len,Nat.sub_self]
            rfl
        · rw [if_neg e]
          constructor
          · intro z
            have hm:=List.mem_of_getElem? z
            rw [List.mem_singleton] at hm
            exact absurd hm.symm e
          · intro z
            have:=(I.pl i j').mpr z
            rw [List.getElem?_eq_none (by omega)] at this
            cases this
    · by_cases hi:i < P.length
      · rw [List.getElem?_append_left hi] at b1
        rw [List.getElem?_append_left (by rw [← I.len]; exact hi)] at b2
        exact (I.rch i j' h' b1 b2).mono fun x hx=>List.mem_append_left _ hx
      · rw [List.getElem?_append_right (by omega)] at b1
        rw [List.getElem?_append_right (by rw [← I.len]; omega)] at b2
        have e1:=List.mem_singleton.mp (List.mem_of_getElem? b1)
        have e2:=List.mem_singleton.mp (List.mem_of_getElem? b2)
        subst e1 e2
        exact ⟨pre,post,a2',fun z=>hjP (hpre _ z),fun x hx=>List.mem_append_left _ (hpre x hx)⟩
theorem lay_fold {mask:Nat}:∀ (rest hs:List Int) (P:List Nat) (owner:Array (Option Nat)),LayI mask P hs owner→(∀h∈rest,Cov mask h)→hs.length+rest.length≤mask →
    ∃owner' P',rest.foldl (layStep mask) (some (owner,hs.length))=some (owner',hs.length+rest.length)∧LayI mask P' (hs++rest) owner'
  | [],hs,P,owner,I,_,_=>⟨owner,P,rfl,by rw [List.append_nil]; exact I⟩
  | h::rest,hs,P,owner,I,c,hl=>by
    rw [List.length_cons] at hl
    obtain ⟨j,e,I'⟩:=I.step (c h (List.mem_cons_self ..)) (by omega)
    obtain ⟨owner',P',e',I2⟩:=lay_fold rest (hs ++ [h]) _ _ I' (fun h' hh=>c h' (List.mem_cons_of_mem _ hh)) (by rw [List.length_append]; simp only [List.length_cons,List.length_nil]; omega)
    refine ⟨owner',P',?_,by rw [List.append_assoc] at I2; exact I2⟩
    rw [List.foldl_cons,e]
    rw [List.length_append] at e'
    rw [show hs.length+1=hs.length + [h].length from rfl,e',List.length_cons]
    simp only [List.length_cons,List.length_nil]
    congr 2
    omega
theorem lay_ok {mask:Nat}{hs:List Int}(c:∀h∈hs,Cov mask h)(hl:hs.length≤mask):∃owner P,layClean mask hs.toArray=some owner∧LayI mask P hs owner:=by
  obtain ⟨owner,P,e,I⟩:=lay_fold hs [] [] _ (LayI.start mask) c (by simpa using hl)
  refine ⟨owner,P,?_,by simpa using I⟩
  rw [layClean_eq]
  rw [List.length_nil] at e
  rw [e]
  rfl
def liveOf (mask:Nat)(owner:Array (Option Nat)):List (Nat×Nat):=(List.range (mask+1)).filterMap fun j=>(owner.getD j none).map (j,·)
theorem live_mem {mask:Nat}{P:List Nat}{hs:List Int}{owner:Array (Option Nat)}(I:LayI mask P hs owner){j i:Nat}:(j,i)∈liveOf mask owner↔P[i]? = some j:=by
  unfold liveOf
  rw [List.mem_filterMap,I.pl]
  constructor
  · rintro ⟨x,hx,e⟩
    have hlt:x < owner.size:=by rw [I.sz]; exact List.mem_range.mp hx
    have hd:owner.getD x none=owner[x]:=by simp [Array.getD,hlt]
    rw [hd] at e
    obtain ⟨y,h1,h2⟩:=Option.map_eq_some_iff.mp e
    injection h2 with h2 h3
    subst h2 h3
    rw [Array.getElem?_eq_getElem hlt,h1]
  · intro h
    obtain ⟨hlt,e⟩:=Array.getElem?_eq_some_iff.mp h
    refine ⟨j,List.mem_range.mpr (by rw [← I.sz]; exact hlt),?_⟩
    have hd:owner.getD j none=owner[j]:=by simp [Array.getD,hlt]
    rw [hd,e]
    rfl
theorem live_up (mask:Nat)(owner:Array (Option Nat)):((liveOf mask owner).map (·.1)).Pairwise (· < ·):=by
  unfold liveOf
  rw [List.pairwise_map,List.pairwise_filterMap]
  refine List.Pairwise.imp ?_ List.pairwise_lt_range
  intro a b hab x hx y hy
  obtain ⟨_,_,rfl⟩:=Option.map_eq_some_iff.mp hx
  obtain ⟨_,_,rfl⟩:=Option.map_eq_some_iff.mp hy
  exact hab
theorem live_perm {mask:Nat}{P:List Nat}{hs:List Int}{owner:Array (Option Nat)}(I:LayI mask P hs owner):((liveOf mask owner).map (·.2)).Perm (List.range hs.length):=by
  refine (List.perm_ext_iff_of_nodup ?_ List.nodup_range).mpr fun i=>?_
  · unfold List.Nodup
    rw [List.pairwise_map]
    have up:=live_up mask owner
    rw [List.pairwise_map] at up
    refine List.Pairwise.imp_of_mem ?_ up
    rintro ⟨j,i⟩ ⟨j',i'⟩ h1 h2 hlt
    show i ≠ i'
    rintro rfl
    have e1:=(live_mem I).mp h1
    have e2:=(live_mem I).mp h2
    rw [e1] at e2
    injection e2 with e2
    exact Nat.lt_irrefl j (by rw [e2] at hlt ⊢; exact hlt)
  · rw [List.mem_range,← I.len,List.mem_map]
    constructor
    · rintro ⟨⟨j,i'⟩,h,rfl⟩
      exact (List.getElem?_eq_some_iff.mp ((live_mem I).mp h)).1
    · intro h
      exact ⟨(P[i],i),(live_mem I).mpr (List.getElem?_eq_getElem h),rfl⟩
end ST
namespace ST
open PySem PySem.SetTable
def Cov3 (h:Int):Prop:=Cov 7 h∧Cov 31 h∧Cov 127 h
abbrev ZL:=List (Nat×Int×Value)
abbrev slots (Z:ZL):List Nat:=Z.map (·.1)
abbrev ents (Z:ZL):List (Int×Value):=Z.map (·.2)
theorem sl_app (A B:ZL):slots (A++B)=slots A++slots B:=List.map_append
theorem sl_cons (e:Nat×Int×Value)(B:ZL):slots (e::B)=e.1::slots B:=rfl
theorem en_app (A B:ZL):ents (A++B)=ents A++ents B:=List.map_append
theorem en_cons (e:Nat×Int×Value)(B:ZL):ents (e::B)=e.2::ents B:=rfl
theorem sl_len (A:ZL):(slots A).length=A.length:=List.length_map ..
theorem en_len (A:ZL):(ents A).length=A.length:=List.length_map ..
theorem sl_at (A:ZL)(i:Nat):(slots A)[i]? = A[i]?.map (·.1):=List.getElem?_map ..
theorem en_at (A:ZL)(i:Nat):(ents A)[i]? = A[i]?.map (·.2):=List.getElem?_map ..
structure Lying (mask:Nat)(Z:ZL):Prop where
  up:(slots Z).Pairwise (· < ·)
  le:∀z∈Z,z.1≤mask
  rch:∀z∈Z,Rch mask (slots Z) z.2.1 z.1
structure SOk (bt:Bool)(Z:ZL)(t:SetTable):Prop where
  place:t.place=(slots Z).toArray
  dum:t.dummies = #[]
  led:t.led = !bt
  plain:t.plain=true
  mask:t.mask=7∨t.mask=31∨t.mask=127
  room:Z.length * 5 < t.mask * 3
  lie:Lying t.mask Z
  cov:∀z∈Z,Cov3 z.2.1
theorem fm_map {α β:Type}{f:α→Option β}{g:α→β}:∀ {l:List α},(∀x∈l,f x=some (g x))→l.filterMap f=l.map g
  | [],_=>rfl
  | x::l,h=>by rw [List.filterMap_cons,h x (List.mem_cons_self ..),List.map_cons,fm_map fun y hy=>h y (List.mem_cons_of_mem _ hy)]
section
variable {bt:Bool}{Z Z1:ZL}{t:SetTable}{h:Int}{x:Value}
theorem SOk.fits (S:SOk bt Z t):t.fits (ents Z).toArray.size=true:=by
  unfold SetTable.fits SetTable.fill
  rw [S.place,S.dum]
  have:=S.room
  simp only [List.size_toArray,List.length_map,Bool.and_eq_true,beq_self_eq_true,decide_eq_true_eq,true_and,List.size_toArray,List.length_nil]
  show Z.length+0≤t.mask
  rcases S.mask with e | e | e <;> rw [e] at this ⊢ <;> omega
theorem SOk.fresh (bt:Bool):SOk bt [] (SetTable.fresh 0 0 (!bt)):=
  ⟨rfl,rfl,rfl,rfl,.inl rfl,(by show 0 < 7 * 3; decide),⟨.nil,fun _ h=>(by cases h),fun _ h=>(by cases h)⟩,fun _ h=>(by cases h)⟩
theorem SOk.covm (S:SOk bt Z t)(c:Cov3 h):Cov t.mask h:=by
  obtain ⟨c1,c2,c3⟩:=c
  rcases S.mask with e | e | e <;> rw [e] <;> assumption
theorem slots_at {i:Nat}{z:Nat×Int×Value}(h:Z[i]? = some z):(slots Z)[i]? = some z.1:=by rw [sl_at,h]; rfl
theorem of_slots {j:Nat}(h:j∈slots Z):∃ (i:Nat) (z:Nat×Int×Value),Z[i]? = some z∧z.1=j:=by
  obtain ⟨z,hz,rfl⟩:=List.mem_map.mp h
  obtain ⟨i,hi,e⟩:=List.getElem_of_mem hz
  exact ⟨i,z,by rw [List.getElem?_eq_getElem hi,e],rfl⟩
theorem SOk.ins (S:SOk bt Z t)(c:Cov3 h){ha:Nat→Int}(hne:∀ (i:Nat) z,Z[i]? = some z→ha i ≠ h)(x:Value):∃ (j:Nat) (Z1:ZL),t.probe ha h (t.probeStart h)=some (.empty j none)∧(t.put j).1 = { t with place:=(slots Z1).toArray } ∧
    insertAt (ents Z).toArray (t.put j).2 (h,x)=(ents Z1).toArray∧Z1.Perm ((j,h,x)::Z)∧Lying t.mask Z1:=by
  have hm:=S.room
  have hl:(slots Z).length≤t.mask:=by rw [sl_len]; omega
  obtain ⟨j,j1,j2,pre,post,r1,r2,r3⟩:=rch_free (S.covm c) hl
  have hpr:t.probe ha h (t.probeStart h)=some (.empty j none):=probe_free S.lie.up S.place S.dum r1 (fun y hy=>by
    obtain ⟨i,z,hz,e⟩:=of_slots (r3 y hy)
    exact ⟨i,by rw [slots_at hz,e],hne i z hz⟩) j2
  obtain ⟨A,B,e,h1,h2,h3⟩:=below_cut S.lie.up j
  obtain ⟨ZA,ZB,rfl,eA,eB⟩:=List.map_eq_append_iff.mp e
  have hlen:A.length=ZA.length:=by rw [← eA,List.length_map]
  have hbl:below t.place j=ZA.length:=by rw [S.place,h3,hlen]
  have hsl:slots (ZA++(j,h,x)::ZB)=A++j::B:=by
    rw [sl_app,sl_cons,show slots ZA=A from eA,show slots ZB=B from eB]
  have hperm:(ZA++(j,h,x)::ZB).Perm ((j,h,x)::(ZA++ZB)):=List.perm_middle
  refine ⟨j,ZA++(j,h,x)::ZB,hpr,?_,?_,hperm,?_⟩
  · unfold SetTable.put
    dsimp only
    rw [hbl,S.dum]
    have hh:has #[] j=false:=rfl
    rw [hh,if_neg Bool.false_ne_true]
    have hp:insertAt t.place ZA.length j=(slots (ZA++(j,h,x)::ZB)).toArray:=by
      apply Array.toList_inj.mp
      rw [toList_insertAt,S.place]
      show List.take ZA.length (slots (ZA++ZB))++j::List.drop ZA.length (slots (ZA++ZB))=slots (ZA++(j,h,x)::ZB)
      rw [hsl,e,List.take_left' hlen,List.drop_left' hlen]
    rw [hp]
  · apply Array.toList_inj.mp
    rw [toList_insertAt]
    show List.take (below t.place j) (ents (ZA++ZB))++(h,x)::List.drop (below t.place j) (ents (ZA++ZB))=ents (ZA++(j,h,x)::ZB)
    rw [hbl,en_app,en_app,en_cons,List.take_left' (en_len _),List.drop_left' (en_len _)]
  · refine ⟨?_,fun z hz=>?_,fun z hz=>?_⟩
    · rw [hsl]
      have up:=S.lie.up
      rw [e] at up
      obtain ⟨u1,u2,u3⟩:=List.pairwise_append.mp up
      have hjA:∀y∈B,j < y:=fun y hy=>by
        have:=h2 y hy
        have:y ≠ j:=fun q=>j2 (by rw [e,← q]; exact List.mem_append_right _ hy)
        omega
      refine List.pairwise_append.mpr ⟨u1,List.pairwise_cons.mpr ⟨hjA,u2⟩,fun a ha' b hb=>?_⟩
      rcases List.mem_cons.mp hb with rfl | hb
      · exact h1 a ha'
      · exact u3 a ha' b hb
    · rcases List.mem_cons.mp (hperm.mem_iff.mp hz) with rfl | hz
      · exact j1
      · exact S.lie.le z hz
    · have hsub:∀y∈slots (ZA++ZB),y∈slots (ZA++(j,h,x)::ZB):=fun y hy=>by
        rw [e] at hy
        rw [hsl]
        rcases List.mem_append.mp hy with q | q
        · exact List.mem_append_left _ q
        · exact List.mem_append_right _ (List.mem_cons_of_mem _ q)
      rcases List.mem_cons.mp (hperm.mem_iff.mp hz) with rfl | hz
      · exact Rch.mono ⟨pre,post,r1,r2,r3⟩ hsub
      · exact (S.lie.rch z hz).mono hsub
theorem SOk.hit (S:SOk bt Z t)(hn:(Z.map (·.2.1)).Nodup){ha:Nat→Int}(hha:∀ (i:Nat) z,Z[i]? = some z→ha i=z.2.1){z:Nat×Int×Value}(hz:z∈Z) :
    ∃ (i:Nat) (nx:Probe),t.probe ha z.2.1 (t.probeStart z.2.1)=some (.candidate z.1 i nx)∧Z[i]? = some z:=by
  obtain ⟨i,hi,e⟩:=List.getElem_of_mem hz
  have hz':Z[i]? = some z:=by rw [List.getElem?_eq_getElem hi,e]
  obtain ⟨pre,post,r1,r2,r3⟩:=S.lie.rch z hz
  obtain ⟨nx,hnx⟩:=probe_hit S.lie.up S.place (ha:=ha) (i:=i) r1 (fun y hy=>by
    obtain ⟨i',z',hz2,e2⟩:=of_slots (r3 y hy)
    refine ⟨i',by rw [slots_at hz2,e2],fun q=>?_⟩
    rw [hha i' z' hz2] at q
    have h1:(Z.map (·.2.1))[i']? = some z.2.1:=by rw [List.getElem?_map,hz2,Option.map_some,q]
    have h2:(Z.map (·.2.1))[i]? = some z.2.1:=by rw [List.getElem?_map,hz']; rfl
    obtain ⟨l1,g1⟩:=List.getElem?_eq_some_iff.mp h1
    obtain ⟨l2,g2⟩:=List.getElem?_eq_some_iff.mp h2
    have hii:i'=i:=by
      rcases Nat.lt_trichotomy i' i with q | q | q
      · exact absurd (g1.trans g2.symm) (List.pairwise_iff_getElem.mp hn i' i l1 l2 q)
      · exact q
      · exact absurd (g2.trans g1.symm) (List.pairwise_iff_getElem.mp hn i i' l2 l1 q)
    subst hii
    rw [hz'] at hz2
    injection hz2 with hz2
    rw [hz2,e2] at r2
    exact r2 hy) (slots_at hz') (hha i z hz')
  exact ⟨i,nx,hnx,hz'⟩
theorem SOk.next (S:SOk bt Z t)(hp:∃e,Z1.Perm (e::Z)∧Cov3 e.2.1)(L1:Lying t.mask Z1)(hf:({ t with place:=(slots Z1).toArray }:SetTable).tooFull=false):SOk bt Z1 { t with place:=(slots Z1).toArray }:=by
  obtain ⟨e,hp,hc⟩:=hp
  refine ⟨rfl,S.dum,S.led,S.plain,S.mask,?_,L1,fun z hz=>?_⟩
  · unfold SetTable.tooFull SetTable.fill at hf
    dsimp only at hf ⊢
    rw [S.dum] at hf
    have hf:=of_decide_eq_false hf
    simp only [List.size_toArray,List.length_map,List.length_nil] at hf
    have:(#[]:Array Nat).size=0:=rfl
    omega
  · rcases List.mem_cons.mp (hp.mem_iff.mp hz) with rfl | hz
    · exact hc
    · exact S.cov z hz
theorem relaid_eq {mask:Nat}{owner:Array (Option Nat)}{hs:List Int}(ho:layClean mask hs.toArray=some owner)(finger moves:Nat)(led plain:Bool) :
    laid mask finger moves led plain hs.toArray=some ({ mask,place:=((liveOf mask owner).map (·.1)).toArray,dummies:=#[],finger,led,moves,plain },((liveOf mask owner).map (·.2)).toArray):=by
  unfold laid
  rw [ho]
  rfl
theorem SOk.relay (S:SOk bt Z t)(hp:∃e,Z1.Perm (e::Z)∧Cov3 e.2.1)(h32:Z1.length≤33)(hf:({ t with place:=(slots Z1).toArray }:SetTable).tooFull=true) :
    ∃ (t2:SetTable) (order:Array Nat) (Z2:ZL),({ t with place:=(slots Z1).toArray }:SetTable).relaid ((ents Z1).toArray.map (·.1)) (grown Z1.length)=some (t2,order)∧order.toList.Perm (List.range Z1.length) ∧
      order.filterMap ((ents Z1).toArray[·]?)=(ents Z2).toArray∧SOk bt Z2 t2∧(ents Z2).Perm (ents Z1)∧sizeAbove (grown Z1.length)≤128:=by
  obtain ⟨e,hp,hc⟩:=hp
  have hl1:Z1.length=Z.length+1:=by rw [hp.length_eq,List.length_cons]
  have hcov:∀z∈Z1,Cov3 z.2.1:=fun z hz=>by
    rcases List.mem_cons.mp (hp.mem_iff.mp hz) with rfl | hz
    · exact hc
    · exact S.cov z hz
  have hfl:t.mask * 3≤Z1.length * 5:=by
    unfold SetTable.tooFull SetTable.fill at hf
    dsimp only at hf
    rw [S.dum] at hf
    have hf:=of_decide_eq_true hf
    simp only [List.size_toArray,List.length_map,List.length_nil] at hf
    have:(#[]:Array Nat).size=0:=rfl
    omega
  have hr:=S.room
  obtain ⟨m',hm',hsz,hM,hroom⟩:∃m',(m'=31∨m'=127)∧sizeAbove (grown Z1.length)=m'+1∧Z1.length≤m'∧Z1.length * 5 < m' * 3:=by
    rcases S.mask with q | q | q <;> rw [q] at hfl hr
    · have:Z1.length=5:=by omega
      rw [this]
      exact ⟨31,.inl rfl,by decide +kernel,by decide,by decide⟩
    · have:Z1.length=19:=by omega
      rw [this]
      exact ⟨127,.inr rfl,by decide +kernel,by decide,by decide⟩
    · omega
  have hcm:∀h∈Z1.map (·.2.1),Cov m' h:=fun h hh=>by
    obtain ⟨z,hz,rfl⟩:=List.mem_map.mp hh
    obtain ⟨_,c2,c3⟩:=hcov z hz
    rcases hm' with rfl | rfl <;> assumption
  obtain ⟨owner,P,ho,I⟩:=lay_ok hcm (by rw [List.length_map]; exact hM)
  have hPl:P.length=Z1.length:=by rw [I.len,List.length_map]
  have hash:(ents Z1).toArray.map (·.1)=(Z1.map (·.2.1)).toArray:=by
    rw [List.map_toArray,List.map_map]
    rfl
  let Z2:ZL:=(liveOf m' owner).map fun p=>(p.1,(ents Z1)[p.2]?.getD (0,.none))
  have hsl:slots Z2=(liveOf m' owner).map (·.1):=by
    show List.map _ (List.map _ _)=_
    rw [List.map_map]
    rfl
  have hlt:∀p∈liveOf m' owner,p.2 < Z1.length:=fun p hpm=>by
    have:=(List.getElem?_eq_some_iff.mp ((live_mem I).mp (show (p.1,p.2)∈_ from hpm))).1
    omega
  have hfm:((liveOf m' owner).map (·.2)).filterMap (fun i=>(ents Z1)[i]?)=ents Z2:=by
    show _=List.map _ (List.map _ _)
    rw [List.filterMap_map,List.map_map]
    refine fm_map fun p hpm=>?_
    have h1:=hlt p hpm
    have hes:(ents Z1)[p.2]? = some Z1[p.2].2:=by rw [en_at,List.getElem?_eq_getElem h1]; rfl
    simp only [Function.comp_def]
    rw [hes]
    rfl
  have hpm:=live_perm I
  rw [List.length_map] at hpm
  have hents:(ents Z2).Perm (ents Z1):=by
    rw [← hfm]
    refine (hpm.filterMap _).trans ?_
    have:=filterMap_getElem?_range (ents Z1).toArray
    simp only [List.size_toArray,List.length_map,List.getElem?_toArray] at this
    rw [this]
  refine ⟨{ mask:=m',place:=((liveOf m' owner).map (·.1)).toArray,dummies:=#[],finger:=t.finger,led:=t.led,moves:=({ t with place:=(slots Z1).toArray }:SetTable).movedTo m',plain:=t.plain },((liveOf m' owner).map (·.2)).toArray,Z2,?_,hpm,?_,?_,hents,by rw [hsz]; rcases hm' with rfl | rfl <;> decide⟩
  · unfold SetTable.relaid
    rw [hsz,Nat.add_sub_cancel,hash]
    exact relaid_eq ho _ _ _ _
  · rw [List.filterMap_toArray,← hfm]
    simp only [List.getElem?_toArray]
  · have hZ2l:Z2.length=Z1.length:=by
      have:=hents.length_eq
      rwa [en_len,en_len] at this
    refine ⟨by rw [hsl],rfl,S.led,S.plain,?_,?_,⟨?_,fun z hz=>?_,fun z hz=>?_⟩,fun z hz=>?_⟩
    · dsimp only
      rcases hm' with rfl | rfl
      · exact .inr (.inl rfl)
      · exact .inr (.inr rfl)
    · rw [hZ2l]; exact hroom
    · rw [hsl]; exact live_up _ _
    · obtain ⟨p,hpm',rfl⟩:=List.mem_map.mp hz
      have hq:=(live_mem I).mp (show (p.1,p.2)∈_ from hpm')
      have:=(I.pl p.2 p.1).mp hq
      have:=(Array.getElem?_eq_some_iff.mp this).1
      rw [I.sz] at this
      exact Nat.le_of_lt_succ this
    · obtain ⟨p,hpm',rfl⟩:=List.mem_map.mp hz
      have hq:=(live_mem I).mp (show (p.1,p.2)∈_ from hpm')
      have h1:=hlt p hpm'
      have hes:(ents Z1)[p.2]? = some Z1[p.2].2:=by rw [en_at,List.getElem?_eq_getElem h1]; rfl
      have hr2:=I.rch p.2 p.1 Z1[p.2].2.1 hq (by rw [List.getElem?_map,List.getElem?_eq_getElem h1]; rfl)
      show Rch m' (slots Z2) ((ents Z1)[p.2]?.getD (0,.none)).1 p.1
      rw [hes]
      refine hr2.mono fun y hy=>?_
      obtain ⟨i,hi,e2⟩:=List.getElem_of_mem hy
      rw [hsl]
      exact List.mem_map.mpr ⟨(y,i),(live_mem I).mpr (by rw [List.getElem?_eq_getElem hi,e2]),rfl⟩
    · have:z.2∈ents Z1:=hents.mem_iff.mp (List.mem_map_of_mem hz)
      obtain ⟨z1,hz1,e1⟩:=List.mem_map.mp this
      rw [← e1]
      exact hcov z1 hz1
end
end ST
namespace ST
open PySem PySem.SetTable
theorem slot_si_next:Slot "set_iterator" "__next__" "set_iterator.__next__" :=
  .of (owner := "set_iterator") (n := "__next__") (by rw [typeLookup_type,builtinLookup_eq_fast]; kernel_rfl) (by decide +kernel) (by decide +kernel) (by decide +kernel)
    (by first | exact .inl (by decide +kernel) | exact .inr (by decide +kernel)) (by rw [isSubtype_type]; kernel_rfl)
theorem entry_si_next:entryFor table "set_iterator.__next__" = some Builtin.«set_iterator.__next__»:=entryFor_of_tree (by kernel_rfl)
theorem owner_si:Manifest.owners.lookup (String.ofList ['r','o','t','a','r','e','t','i','_','t','e','s'].reverse)=some Manifest.sig_set_iterator:=by kernel_rfl
theorem args_si_next (a:Value):argsOk "set_iterator.__next__" ⟨[a],[]⟩:=by
  unfold argsOk; rw [signature?_of (id := "set_iterator.__next__") (n:=['_','_','t','x','e','n','_','_']) (o:=['r','o','t','a','r','e','t','i','_','t','e','s']) (by kernel_rfl) owner_si]; kernel_rfl
theorem slot_si_iter:Slot "set_iterator" "__iter__" "set_iterator.__iter__" :=
  .of (owner := "set_iterator") (n := "__iter__") (by rw [typeLookup_type,builtinLookup_eq_fast]; kernel_rfl) (by decide +kernel) (by decide +kernel) (by decide +kernel)
    (by first | exact .inl (by decide +kernel) | exact .inr (by decide +kernel)) (by rw [isSubtype_type]; kernel_rfl)
theorem entry_si_iter:entryFor table "set_iterator.__iter__" = some Builtin.«dict_keyiterator.__iter__»:=
  entryFor_alias (id' := "dict_keyiterator.__iter__") (by kernel_rfl) rfl (by decide +kernel) (by kernel_rfl)
theorem args_si_iter (a:Value):argsOk "set_iterator.__iter__" ⟨[a],[]⟩:=by
  unfold argsOk; rw [signature?_of (id := "set_iterator.__iter__") (n:=['_','_','r','e','t','i','_','_']) (o:=['r','o','t','a','r','e','t','i','_','t','e','s']) (by kernel_rfl) owner_si]; kernel_rfl
theorem entry_s_iter:entryFor table "set.__iter__" = some Builtin.«frozenset.__iter__»:=
  entryFor_alias (id' := "frozenset.__iter__") (by kernel_rfl) rfl (by decide +kernel) (by kernel_rfl)
def bt (w:World):Bool:=w.params.followText "set-order"
def SetAt (w:World)(h:Heap)(S:Addr)(Z:ZL)(ep:Nat):Prop:=
  ∃ (o:Obj) (t:SetTable),h.get? S=some o∧o.ExactSet∧o.data = .set (ents Z).toArray ep t∧SOk (bt w) Z t
theorem er_perm {α:Type}{l:List α}{i:Nat}(h:i < l.length):(l[i]::l.eraseIdx i).Perm l:=by
  rw [List.eraseIdx_eq_take_drop_succ]
  refine List.perm_middle.symm.trans ?_
  rw [← List.drop_eq_getElem_cons h,List.take_append_drop]
theorem pick_go {α:Type}(next:Nat→Nat):∀ (fuel k:Nat) (left:List α) (out:Array α),left.length=fuel→(pickOrder.go next fuel k left out).toList.Perm (out.toList++left)
  | 0,k,left,out,h=>by
    rw [List.length_eq_zero_iff.mp h,List.append_nil]
    exact .refl _
  | fuel+1,k,left,out,h=>by
    unfold pickOrder.go
    have hlt:next k % left.length < left.length:=Nat.mod_lt _ (by omega)
    rw [List.getElem?_eq_getElem hlt]
    dsimp only
    refine (pick_go next fuel (k+1) _ _ (by rw [List.length_eraseIdx_of_lt hlt]; omega)).trans ?_
    rw [Array.toList_push,List.append_assoc]
    exact (er_perm hlt).append_left _
theorem pick_perm {α:Type}(next:Nat→Nat)(xs:Array α):(pickOrder next xs).toList.Perm xs.toList:=by
  have:=pick_go next xs.size 0 xs.toList #[] (Array.length_toList ..)
  rw [List.nil_append] at this
  exact this
def wlk (w:World)(S:Addr)(ep:Nat)(Z:ZL):List (Int×Value):=if bt w then (pickOrder (w.params.setOrder S ep) (ents Z).toArray).toList else ents Z
theorem wlk_perm (w:World)(S:Addr)(ep:Nat)(Z:ZL):(wlk w S ep Z).Perm (ents Z):=by
  unfold wlk
  split
  · exact pick_perm _ _
  · exact .refl _
def IsSetIter (h:Heap)(it S:Addr)(slot i n ep:Nat):Prop:=∃o,h.get? it=some o∧o.cls = .type "set_iterator" ∧ o.data = .fields #[.int slot 0,.int i 0,.ref S,.int n 0,.int ep 0]
theorem IsSetIter.typeIs {s:Shared}{it S slot i n ep}(x:IsSetIter s.heap it S slot i n ep):s.TypeIs (.ref it) "set_iterator" := let ⟨o,ho,hc,_⟩:=x; ⟨o,ho,hc⟩
theorem IsSetIter.at {h h':Heap}{it S slot i n ep}(x:IsSetIter h it S slot i n ep)(e:∀o,h.get? it=some o→h'.get? it=some o):IsSetIter h' it S slot i n ep:=let ⟨o,ho,r⟩:=x; ⟨o,e _ ho,r⟩
theorem SetAt.typeIs {w:World}{s:Shared}{S Z ep}(x:SetAt w s.heap S Z ep):s.TypeIs (.ref S) "set" := let ⟨o,_,ho,hc,_⟩:=x; ⟨o,ho,hc.1⟩
theorem SetAt.at {w:World}{h h':Heap}{S Z ep}(x:SetAt w h S Z ep)(e:∀o,h.get? S=some o→h'.get? S=some o):SetAt w h' S Z ep:=let ⟨o,t,ho,r⟩:=x; ⟨o,t,e _ ho,r⟩
theorem below_zero {L:List Nat}(hp:L.Pairwise (· < ·)):below L.toArray 0=0:=by
  obtain ⟨A,B,rfl,h1,h2,h3⟩:=below_cut hp 0
  rw [h3]
  cases A with
  | nil=>rfl
  | cons a A=>exact absurd (h1 a (List.mem_cons_self ..)) (Nat.not_lt_zero _)
theorem below_next {L:List Nat}(hp:L.Pairwise (· < ·)){i j:Nat}(h:L[i]? = some j):below L.toArray (j+1)=i+1:=by
  obtain ⟨A,B,rfl,h1,h2,h3⟩:=below_cut hp (j+1)
  rw [h3]
  have hi:i < A.length:=Classical.byContradiction fun z=>by
    rw [List.getElem?_append_right (by omega)] at h
    have:=h2 j (List.mem_of_getElem? h)
    omega
  rw [List.getElem?_append_left hi] at h
  have hpA:=(List.pairwise_append.mp hp).1
  obtain ⟨_,hj⟩:=List.getElem?_eq_some_iff.mp h
  apply Classical.byContradiction
  intro z
  have hlt:i+1 < A.length:=by omega
  have a1:=List.pairwise_iff_getElem.mp hpA i (i+1) hi hlt (Nat.lt_succ_self _)
  have a2:=h1 A[i+1] (List.getElem_mem hlt)
  omega
def WSt (w:World)(it S:Addr)(Z:ZL)(ep:Nat)(i:Nat)(h:Heap):Prop:=(∃slot,IsSetIter h it S slot i Z.length ep∧(bt w=false→below (slots Z).toArray slot=i))∧SetAt w h S Z ep
section
variable {prog:Program}{w:World}{A:Around}{E:Value→Shared→Prop}{s:Shared}{S it:Addr}{Z:ZL}{ep i:Nat}
theorem st_setState {o:Obj}{t:SetTable}{Q:(Array (Int×Value)×Nat×SetTable)→Shared→Prop}(ho:s.heap.get? S=some o)(hd:o.data = .set (ents Z).toArray ep t)(k:SOk (bt w) Z t)(h:Q ((ents Z).toArray,ep,t) s):wpAny (model prog w) A (setState S) Q E s:=
  wpAny_setState_of ho hd k.fits h
theorem st_byText {Q:Bool→Shared→Prop}(h:Q (bt w) s):wpAny (model prog w) A setsByText Q E s:=by
  unfold setsByText
  exact wpAny_bind (wpAny_askSetting (wpAny_pure h))
theorem pyIter_set {Q:Value→Shared→Prop}(hS:SetAt w s.heap S Z ep)(hQ:Q (.ref s.heap.objs.size) { s with heap:=s.heap.push { cls:=.type "set_iterator",data:=.fields #[.int 0 0,.int 0 0,.ref S,.int Z.length 0,.int ep 0] } }):wpAny (model prog w) A (pyIter (.ref S)) Q E s:=by
  have hT:=hS.typeIs
  obtain ⟨o,t,ho,hx,hd,k⟩:=hS
  refine wpAny_pyIter_slot hT PySem.F.slot_set_iter (wpAny_call_entry PySem.F.slot_set_iter hT entry_s_iter ?_ (PySem.F.args_set_iter_1 _))
  unfold Builtin.«frozenset.__iter__» Builtin.Frozenset.slot0 slotArgs
  simp only [List.isEmpty_nil,Bool.not_true,Bool.false_eq_true,↓reduceIte,bind_assoc,List.length_nil,bne_self_eq_false]
  unfold Builtin.Frozenset.addrOf Builtin.Frozenset.sizeOf
  refine wpAny_bind (wpAny_pure ?_)
  try dsimp only
  refine wpAny_bind (wpAny_pure ?_)
  refine wpAny_bind (wpAny_bind (wpAny_setEntries_of ho hd k.fits (wpAny_pure ?_)))
  refine wpAny_bind ?_
  unfold setDrawn
  refine wpAny_bind (wpAny_setState_of ho hd k.fits ?_)
  dsimp only
  refine wpAny_bind (st_byText (wpAny_pure ?_))
  split
  · rename_i h
    have h':(!bt w && (!t.plain && decide ((ents Z).toArray.size > 1)))=true:=h
    rw [k.plain] at h'
    simp at h'
  · refine wpAny_bind (wpAny_pure ?_)
    refine wpAny_bind (wpAny_setEpoch_of ho hd k.fits ?_)
    unfold newFields
    refine wpAny_bind (wpAny_newObj_type (wpAny_pure ⟨_,rfl, "set_iterator",_,⟨_,Heap.get?_push_size _ rfl,rfl⟩,slot_si_next.lookup,?_⟩))
    simpa [rawInt,en_len] using hQ
theorem pyIter_siter {slot n:Nat}{Q:Value→Shared→Prop}(hit:IsSetIter s.heap it S slot i n ep)(h:Q (.ref it) s):wpAny (model prog w) A (pyIter (.ref it)) Q E s:=by
  refine wpAny_pyIter_slot hit.typeIs slot_si_iter (wpAny_call_entry slot_si_iter hit.typeIs entry_si_iter ?_ (args_si_iter _))
  show wpAny _ _ (ret (.ref it)) _ _ s
  exact wpAny_pure ⟨_,rfl, "set_iterator",_,hit.typeIs,slot_si_next.lookup,h⟩
theorem wlk_len (w:World)(S:Addr)(ep:Nat)(Z:ZL):(wlk w S ep Z).length=Z.length:=by rw [(wlk_perm w S ep Z).length_eq,en_len]
theorem setNext_at {slot:Nat}{Q:Option (Value×Nat)→Shared→Prop}(hS:SetAt w s.heap S Z ep)(hsl:bt w=false→below (slots Z).toArray slot=i)(hQ:∀r,(∀e,(wlk w S ep Z)[i]? = some e→∃slot',r=some (e.2,slot')∧(bt w=false→below (slots Z).toArray slot'=i+1))→((wlk w S ep Z)[i]? = none→r=none)→Q r s):wpAny (model prog w) A (setNext S slot i ep) Q E s:=by
  obtain ⟨o,t,ho,hx,hd,k⟩:=id hS
  unfold setNext
  refine wpAny_bind (st_setState ho hd k ?_)
  dsimp only
  refine wpAny_bind (st_byText ?_)
  by_cases hb:bt w=true
  · rw [if_pos hb]
    simp only [bne_self_eq_false,Bool.false_eq_true,↓reduceIte]
    refine wpAny_bind ?_
    unfold setWalk
    refine wpAny_bind (st_setState ho hd k ?_)
    dsimp only
    refine wpAny_bind (st_byText ?_)
    rw [if_pos hb]
    refine wpAny_bind (wpAny_askSetting (wpAny_pure ?_))
    refine wpAny_pure ?_
    have hw:wlk w S ep Z=(pickOrder (w.params.setOrder S ep) (ents Z).toArray).toList:=by unfold wlk; rw [if_pos hb]
    have hg:(pickOrder (w.params.setOrder S ep) (ents Z).toArray)[i]? = (wlk w S ep Z)[i]?:=by rw [hw,Array.getElem?_toList]
    refine hQ _ (fun e he=>⟨slot,?_,fun z=>by rw [z] at hb; cases hb⟩) fun he=>?_
    · show Option.map _ ((pickOrder (w.params.setOrder S ep) (ents Z).toArray)[i]?)=_
      rw [hg,he]
      rfl
    · show Option.map _ ((pickOrder (w.params.setOrder S ep) (ents Z).toArray)[i]?)=_
      rw [hg,he]
      rfl
  · rw [if_neg hb]
    have hb:bt w=false:=by simpa using hb
    split
    · rename_i h
      have h':(!t.plain && decide ((ents Z).toArray.size > 1))=true:=h
      rw [k.plain] at h'
      simp at h'
    · refine wpAny_bind ?_
      show wpAny _ _ (if (!t.led && !(ents Z).toArray.isEmpty)=true then unsupported "set:maker-not-led" else pure ()) _ _ _
      rw [if_neg (by rw [k.led,hb]; simp)]
      refine wpAny_pure ?_
      refine wpAny_pure ?_
      have hw:wlk w S ep Z=ents Z:=by unfold wlk; rw [hb]; rfl
      rw [k.place,hsl hb,List.getElem?_toArray,List.getElem?_toArray]
      rw [hw] at hQ
      refine hQ _ (fun e he=>?_) fun he=>?_
      · rw [he]
        rw [en_at] at he
        obtain ⟨z,hz,rfl⟩:=Option.map_eq_some_iff.mp he
        have hs:=slots_at hz
        rw [hs]
        exact ⟨z.1+1,rfl,fun _=>below_next k.lie.up hs⟩
      · rw [he]
theorem next_item {Q:Option Value→Shared→Prop}(st:WSt w it S Z ep i s.heap)(hi:i < Z.length)(hne:S ≠ it)(hQ:∀h' e,(wlk w S ep Z)[i]? = some e→WSt w it S Z ep (i+1) h'→Heap.SameBut it s.heap h'→Q (some e.2) { s with heap:=h' }):wpAny (model prog w) A (pyNext (.ref it)) Q E s:=by
  obtain ⟨⟨slot,hit,hsl⟩,hS⟩:=st
  obtain ⟨oi,hoi,hci,hdi⟩:=id hit
  obtain ⟨o,t,ho,hx,hd,k⟩:=id hS
  unfold pyNext
  refine wpAny_bind (wpAny_attempt (wpAny_callSpecial?_slot (name:=Str.ofString "__next__") hit.typeIs slot_si_next
    (wpAny_call_entry slot_si_next hit.typeIs entry_si_next ?_ (args_si_next _))))
  unfold Builtin.«set_iterator.__next__»
  refine wpAny_bind (wpAny_pure ?_)
  dsimp only
  refine wpAny_bind (wpAny_fieldsOf hoi hdi ?_)
  dsimp only
  refine wpAny_bind (wpAny_setEntries_of ho hd k.fits ?_)
  rw [if_neg (by rw [List.size_toArray,en_len]; simp)]
  simp only [Int.toNat_natCast]
  refine wpAny_bind (setNext_at hS hsl fun r h1 h2=>?_)
  obtain ⟨e,he⟩:∃e,(wlk w S ep Z)[i]? = some e:=⟨_,List.getElem?_eq_getElem (by rw [wlk_len]; exact hi)⟩
  obtain ⟨slot',rfl,hs'⟩:=h1 e he
  dsimp only
  refine wpAny_bind (wpAny_setField hoi hdi (by simp) ?_)
  have g1:=Heap.get?_update_self (Obj.mapFields (·.setIfInBounds 0 (rawInt (slot':Int)))) hoi (Obj.isFreed_of_fields (Obj.data_mapFields hdi _))
  refine wpAny_bind (wpAny_setField g1 (Obj.data_mapFields hdi _) (by simp) ?_)
  have g2:=Heap.get?_update_self (Obj.mapFields (·.setIfInBounds 1 (rawInt ((i:Int)+1)))) g1 (Obj.isFreed_of_fields (Obj.data_mapFields (Obj.data_mapFields hdi _) _))
  have sb:Heap.SameBut it s.heap ((s.heap.update it (Obj.mapFields (·.setIfInBounds 0 (rawInt (slot':Int))))).update it (Obj.mapFields (·.setIfInBounds 1 (rawInt ((i:Int)+1))))):=(Heap.SameBut.update ..).trans (Heap.SameBut.update ..)
  refine wpAny_pure ⟨_,rfl,wpAny_pure (hQ _ e he ⟨⟨slot',⟨_,g2,?_,?_⟩,hs'⟩,hS.at fun o e=>(sb.2 S hne).trans e⟩ sb)⟩
  · rw [Obj.cls_mapFields,Obj.cls_mapFields]; exact hci
  · rw [Obj.data_mapFields (Obj.data_mapFields hdi _)]; simp [rawInt]
theorem next_end {Q:Option Value→Shared→Prop}(hh:A.handled=none)(st:WSt w it S Z ep Z.length s.heap)(hQ:∀h',Heap.ExtBut it s.heap h'→Q none { s with heap:=h' }):wpAny (model prog w) A (pyNext (.ref it)) Q E s:=by
  obtain ⟨⟨slot,hit,hsl⟩,hS⟩:=st
  obtain ⟨oi,hoi,hci,hdi⟩:=id hit
  obtain ⟨o,t,ho,hx,hd,k⟩:=id hS
  unfold pyNext
  refine wpAny_bind (wpAny_attempt (wpAny_callSpecial?_slot (name:=Str.ofString "__next__") hit.typeIs slot_si_next
    (wpAny_call_entry slot_si_next hit.typeIs entry_si_next ?_ (args_si_next _))))
  unfold Builtin.«set_iterator.__next__»
  refine wpAny_bind (wpAny_pure ?_)
  dsimp only
  refine wpAny_bind (wpAny_fieldsOf hoi hdi ?_)
  dsimp only
  refine wpAny_bind (wpAny_setEntries_of ho hd k.fits ?_)
  rw [if_neg (by rw [List.size_toArray,en_len]; simp)]
  simp only [Int.toNat_natCast]
  refine wpAny_bind (setNext_at hS hsl fun r h1 h2=>?_)
  obtain rfl:=h2 (List.getElem?_eq_none (by rw [wlk_len]; exact Nat.le_refl _))
  dsimp only
  refine wpAny_bind (wpAny_setField hoi hdi (by simp) ?_)
  refine wpAny_bind ?_
  simp only [newExc,newTuple]
  refine wpAny_bind (wpAny_newObj_type ?_ (by size_fits))
  refine wpAny_bind (m:=firstArgMember _ _) (wpAny_of_eq (a:=Value.none) (by first | rfl | (simp only [firstArgMember]; rfl)) ?_)
  refine wpAny_newObj_type ?_ (by size_fits)
  simp only [raiseNew]
  refine wpAny_bind (wpAny_handled ?_)
  rw [show A.in1.handled=none from hh]
  refine wpAny_bind (wpAny_pure (wpAny_throw ?_))
  refine wpAny_bind (wpAny_isInstance (T := "StopIteration") (b:=true) ⟨_,Heap.get?_push_size _ rfl,rfl⟩ isSubtype_stop ?_)
  exact wpAny_pure (hQ _ (((Heap.SameBut.update ..).extBut.push _).push _))
theorem walks_set (hh:A.handled=none)(hne:S ≠ it):Walks prog w A it [it,S] [it] Z.length (fun i v=>∃e,(wlk w S ep Z)[i]? = some e∧v=e.2) (fun i h=>WSt w it S Z ep i h) where
  sub:=fun b hb=>by simp at hb; simp [hb]
  frame:=fun _ _ _ st hk=>⟨by
    obtain ⟨slot,h1,h2⟩:=st.1
    exact ⟨slot,h1.at fun o e=>hk it (by simp) o e,h2⟩,st.2.at fun o e=>hk S (by simp) o e⟩
  item:=fun i s Q E hi st hQ=>next_item st hi hne fun h' e he st' hs'=>hQ e.2 h' s.toks ⟨e,he,rfl⟩ st' fun b o hb q=>hs'.extBut b o (fun h=>hb (by simp [h])) q
  done:=fun s Q E st hQ=>next_end hh st fun h' he'=>hQ h' s.toks fun b o hb e=>he' b o (fun h=>hb (by simp [h])) e
  self:=fun _ _ _ _ st hQ=>by
    obtain ⟨slot,h1,_⟩:=st.1
    exact pyIter_siter h1 hQ
end
end ST
namespace ST
open PySem PySem.SetTable
section
variable {prog:Program}{w:World}{A:Around}{E:Value→Shared→Prop}{s:Shared}{S it:Addr}{Z:ZL}{ep i:Nat}
theorem items_list {P:Nat→Value→Prop}{l:List (Int×Value)}{acc:Array Value}(h:ItemsOf (fun i v=>∃e,l[i]? = some e∧v=e.2) acc l.length):acc.toList=l.map (·.2):=by
  refine List.ext_getElem? fun i=>?_
  rw [List.getElem?_map,Array.getElem?_toList]
  by_cases hi:i < l.length
  · have hs:i < acc.size:=by rw [h.1]; exact hi
    obtain ⟨e,he,hv⟩:=h.2 i acc[i] (Array.getElem?_eq_getElem hs)
    rw [Array.getElem?_eq_getElem hs,he,hv]
    rfl
  · rw [Array.getElem?_eq_none (by rw [h.1]; omega),List.getElem?_eq_none (by omega)]
    rfl
theorem collect_set {Q:List Value→Shared→Prop}(hh:A.handled=none)(hS:SetAt w s.heap S Z ep)(hn:Z.length≤1000)(hQ:∀s' (vs:List (Int×Value)),(∀b o,s.heap.get? b=some o→s'.heap.get? b=some o)→s'.gens=s.gens→s'.drawn=s.drawn→s'.os=s.os→s.toks≤s'.toks→vs.Perm (ents Z)→Q (vs.map (·.2)) s'):wpAny (model prog w) A (collect (.ref S)) Q E s:=by
  have hSlt:S < s.heap.objs.size:=by obtain ⟨o,t,ho,_⟩:=hS; exact Heap.lt_size ho
  have hS1:SetAt w (s.heap.push { cls:=.type "list",data:=.seq ([]:List Value).toArray }) S Z ep:=hS.at fun o e=>Heap.get?_push_of_some _ e
  have hT1:({ s with heap:=s.heap.push { cls:=.type "list",data:=.seq ([]:List Value).toArray } }:Shared).TypeIs (.ref S) "set" := SetAt.typeIs (s:={ s with heap:=s.heap.push { cls:=.type "list",data:=.seq ([]:List Value).toArray } }) hS1
  unfold collect
  refine wpAny_bind (wpAny_runValue (codeAny_builtin F.entry_proto_collect ?_))
  rw [Around.under_plainId F.plain_proto_collect _]
  show wpAny _ A.in1 (newList [] >>= fun l=>again (.builtin "list.__iadd__" ⟨[l,.ref S],[]⟩)) _ _ s
  refine wpAny_bind (wpAny_newObj_type ?_)
  refine wpAny_pure ⟨plainId_quiet F.plain_list_iadd _,codeAny_builtin F.entry_list_iadd ?_⟩
  rw [Around.under_plainId F.plain_list_iadd _]
  show wpAny _ A.in1 (Builtin.List.listExtendWith (.ref s.heap.objs.size) (.ref S) (.ref s.heap.objs.size)) _ _ _
  unfold Builtin.List.listExtendWith
  refine wpAny_bind (wpAny_typeOf hT1 ?_)
  have h1:Builtin.List.listSameRef (.ref s.heap.objs.size) (.ref S)=false:=by
    have:s.heap.objs.size ≠ S:=Nat.ne_of_gt hSlt
    simp [Builtin.List.listSameRef,this]
  have h2:(Value.type "set" == Value.type "list")=false:=by decide
  have h3:(Value.type "set" == Value.type "tuple")=false:=by decide
  simp only [h1,h2,h3,Bool.or_false,Bool.false_eq_true,if_false]
  refine wpAny_bind (pyIter_set (s:={ s with heap:=s.heap.push { cls:=.type "list",data:=.seq ([]:List Value).toArray } }) hS1 ?_)
  refine wpAny_bind (wpAny_holding ?_)
  have hT2:({ s with heap:=(s.heap.push { cls:=.type "list",data:=.seq ([]:List Value).toArray }).push { cls:=.type "set_iterator",data:=.fields #[.int 0 0,.int 0 0,.ref S,.int Z.length 0,.int ep 0] } }:Shared).TypeIs (.ref S) "set" :=
    SetAt.typeIs (w:=w) (Z:=Z) (ep:=ep) (hS1.at fun o e=>Heap.get?_push_of_some _ e)
  unfold Builtin.List.listLengthHint
  refine wpAny_bind (wpAny_specialOf hT2 F.slot_set_len.lookup ?_)
  have hsp:splitId "set.__len__" = some ("set", "__len__"):=by decide +kernel
  dsimp -zeta -zetaHave only
  rw [hsp]
  dsimp -zeta -zetaHave only
  refine wpAny_bind (wpAny_isInstance hT2 sub_set_self ?_)
  rw [if_neg (show ¬ (!true)=true from by decide)]
  split
  rotate_left
  · rename_i h
    exact absurd (by decide +kernel) h
  refine wpAny_bind (wpAny_typeOf hT2 ?_)
  dsimp only
  refine wpAny_pure ?_
  split
  rotate_left
  · rename_i h
    exact absurd (by decide +kernel) h
  refine wpAny_bind (wpAny_rule ?_)
  have hsz:(s.heap.push { cls:=.type "list",data:=.seq ([]:List Value).toArray }).objs.size=s.heap.objs.size+1:=Heap.size_push ..
  generalize hI:({ cls:=.type "set_iterator",data:=.fields #[.int 0 0,.int 0 0,.ref S,.int Z.length 0,.int ep 0] }:Obj)=oI
  have hS₁:((s.heap.push { cls:=.type "list",data:=.seq ([]:List Value).toArray }).push oI).get? s.heap.objs.size=some { cls:=.type "list",data:=.seq ([]:List Value).toArray }:=Heap.get?_push_of_some _ (Heap.get?_push_size _ rfl)
  have hI₁:((s.heap.push { cls:=.type "list",data:=.seq ([]:List Value).toArray }).push oI).get? (s.heap.objs.size+1)=some oI:=by
    rw [← hsz]
    exact Heap.get?_push_size _ (by rw [← hI]; rfl)
  have hk₁:∀b o,s.heap.get? b=some o→((s.heap.push { cls:=.type "list",data:=.seq ([]:List Value).toArray }).push oI).get? b=some o:=fun b o e=>Heap.get?_push_of_some _ (Heap.get?_push_of_some _ e)
  rw [hsz]
  generalize (s.heap.push { cls:=.type "list",data:=.seq ([]:List Value).toArray }).push oI=g at hS₁ hI₁ hk₁
  refine wpAny_bind ?_
  show wpAny _ A.in1 (updateSeq s.heap.objs.size (·.push .none) >>= fun _=>updateSeq s.heap.objs.size (·.pop)) _ _ _
  refine wpAny_bind (wpAny_updateSeq hS₁ rfl ?_)
  have hS₂:=Heap.get?_update_self (Obj.mapSeq (·.push Value.none)) hS₁ rfl
  refine wpAny_updateSeq hS₂ rfl ?_
  have hS₃:=Heap.get?_update_self (Obj.mapSeq (·.pop)) hS₂ rfl
  have oth:∀b o,b ≠ s.heap.objs.size→g.get? b=some o→((g.update s.heap.objs.size (Obj.mapSeq (·.push Value.none))).update s.heap.objs.size (Obj.mapSeq (·.pop))).get? b=some o:=
    fun b o hb e=>(Heap.get?_update_other _ _ (Ne.symm hb)).trans ((Heap.get?_update_other _ _ (Ne.symm hb)).trans e)
  have hneS:S ≠ s.heap.objs.size+1:=Nat.ne_of_lt (Nat.lt_succ_of_lt hSlt)
  have hfp:s.heap.objs.size ∉ [s.heap.objs.size+1,S]:=fun z=>by
    rcases List.mem_cons.mp z with z | z
    · exact absurd z (Nat.ne_of_lt (Nat.lt_succ_self _))
    · exact absurd (List.mem_singleton.mp z) (Nat.ne_of_gt hSlt)
  have W:=(walks_set (prog:=prog) (w:=w) (A:=A.in1) (S:=S) (it:=s.heap.objs.size+1) (Z:=Z) (ep:=ep) hh hneS).toS
  have st0:WSt w (s.heap.objs.size+1) S Z ep 0 ((g.update s.heap.objs.size (Obj.mapSeq (·.push Value.none))).update s.heap.objs.size (Obj.mapSeq (·.pop))):=by
    obtain ⟨o,t,ho,hx,hd,k⟩:=id hS
    exact ⟨⟨0,⟨oI,oth _ _ (Nat.ne_of_gt (Nat.lt_succ_self _)) hI₁,by rw [← hI],by rw [← hI]; rfl⟩,fun _=>below_zero k.lie.up⟩,hS.at fun o e=>oth S o (Nat.ne_of_lt hSlt) (hk₁ S o e)⟩
  refine wpAny_pure ⟨plainId_quiet F.plain_extend_loop _,codeAny_extend_loopS W (by rw [sizeLine_eq]; omega) _ hfp _ Z.length 0 _ _ _ rfl (Nat.zero_le _) st0 hS₃ (ItemsOf.nil _) fun s' acc' c' hm hS' hacc=>?_⟩
  show wpAny _ A (load s.heap.objs.size >>= _) _ _ s'
  refine wpAny_bind (wpAny_load hS' ?_)
  rw [← wlk_len w S ep Z] at hacc
  dsimp only
  rw [items_list (P:=fun _ _=>True) hacc]
  refine wpAny_pure (hQ s' (wlk w S ep Z) (fun b o e=>?_) hm.gens hm.drawn hm.os hm.toks (wlk_perm w S ep Z))
  · have hlt:=Heap.lt_size e
    exact hm.heap b o (fun z=>by
      rcases List.mem_cons.mp z with z | z
      · exact absurd z (Nat.ne_of_lt hlt)
      · exact absurd (List.mem_singleton.mp z) (Nat.ne_of_lt (Nat.lt_succ_of_lt hlt))) (oth b o (Nat.ne_of_lt hlt) (hk₁ b o e))
end
end ST
namespace ST
open PySem PySem.SetTable
abbrev hshs (Z:ZL):List Int:=Z.map (·.2.1)
def Step (Z Z':ZL)(h:Int)(v:Value):Prop:=(h∈hshs Z∧Z'=Z)∨(h ∉ hshs Z∧(ents Z').Perm ((h,v)::ents Z))
section
variable {prog:Program}{w:World}{A:Around}{E:Value→Shared→Prop}{s:Shared}{S:Addr}{Z:ZL}{ep:Nat}
theorem put_get {o:Obj}{es es':Array (Int×Value)}{t t':SetTable}(ho:s.heap.get? S=some o)(hd:o.data = .set es ep t) :
    (s.heap.update S (Obj.putSet es' t')).get? S=some { o with data:=.set es' (ep+1) t' }:=by
  have:=Heap.get?_update_self (Obj.putSet es' t') ho (by rw [putSet_of _ _ hd]; rfl)
  rw [putSet_of _ _ hd] at this
  exact this
theorem small_es {Z':ZL}(h:Z'.length≤33):(ents Z').toArray.size≤sizeLine:=by
  rw [sizeLine_eq,List.size_toArray,en_len]; omega
theorem add_int {k:Int}{tk:Tok}{Q:Bool→Shared→Prop}(hS:SetAt w s.heap S Z ep)(hel:∀z∈Z,∃i t,z.2=(hashInt i,.int i t))(hinj:∀z∈Z,z.2.1=hashInt k→∃t,z.2.2 = .int k t)(c:Cov3 (hashInt k))(hl:Z.length≤32)(h:∀b h' Z' ep',Heap.SameBut S s.heap h'→SetAt w h' S Z' ep'→Step Z Z' (hashInt k) (.int k tk)→Q b { s with heap:=h' }) :
    wpAny (model prog w) A (setAddHashed S (.int k tk) (hashInt k)) Q E s:=by
  obtain ⟨o,t,ho,hx,hd,K⟩:=id hS
  have hEl:ElemsOf (intKind prog w) (ents Z).toArray.toList:=fun e he=>by
    obtain ⟨z,hz,rfl⟩:=List.mem_map.mp (show e∈ents Z from he)
    obtain ⟨i,t,e⟩:=hel z hz
    rw [e]
    exact ⟨⟨i,intKind_is _ _ _ _,rfl⟩,rfl⟩
  have hb:(ents Z).toArray.size < scanBound:=by
    unfold scanBound
    rw [List.size_toArray,en_len]; omega
  unfold setAddHashed setAddHashedIn
  refine wpAny_holding (wpAny_bind (st_setState ho hd K ?_))
  dsimp only
  rw [byScan_of (knd:=intKind prog w) rfl hb hEl,if_pos rfl]
  unfold setAddByScan
  refine wpAny_bind (wpAny_bind (wpAny_rule (wpAny_bind (wpAny_setScan_of (knd:=intKind prog w) (k:=k) (intKind_is _ _ _ _) ho hd K.fits hEl ?_))))
  cases hr:List.findIdx? (fun e=>(intKind prog w).is k e.2) (ents Z).toArray.toList with
  | some j =>
    dsimp only
    obtain ⟨hj,hpj,_⟩:=List.findIdx?_eq_some_iff_getElem.mp hr
    refine wpAny_pure (wpAny_pure ?_)
    refine h false s.heap Z ep (.refl _ _) hS (.inl ⟨?_,rfl⟩)
    have hm:(ents Z).toArray.toList[j]∈ents Z:=List.getElem_mem hj
    obtain ⟨z,hz,e⟩:=List.mem_map.mp hm
    obtain ⟨i,t,e2⟩:=hel z hz
    rw [← e,e2] at hpj
    have:k=i:=(intKind prog w).inj _ _ _ hpj (intKind_is _ _ _ _)
    subst this
    exact List.mem_map.mpr ⟨z,hz,by rw [e2]⟩
  | none =>
    dsimp only
    have hno:hashInt k ∉ hshs Z:=fun hm=>by
      obtain ⟨z,hz,e⟩:=List.mem_map.mp hm
      obtain ⟨t,e2⟩:=hinj z hz e
      have:=List.findIdx?_eq_none_iff.mp hr z.2 (List.mem_map_of_mem hz)
      rw [e2,intKind_is] at this
      cases this
    obtain ⟨j,Z1,hpr,hput,hins,hperm,hly⟩:=K.ins c (ha:=fun _=>hashInt k+1) (fun _ _ _=>by omega) (.int k tk)
    have hl1:Z1.length=Z.length+1:=by rw [hperm.length_eq]; rfl
    have hfree:t.freeSlot (hashInt k)=some (j,false):=by unfold SetTable.freeSlot; rw [hpr]; rfl
    have hfit1:({ t with place:=(slots Z1).toArray }:SetTable).fits (ents Z1).toArray.size=true:=by
      unfold SetTable.fits SetTable.fill
      dsimp only
      rw [K.dum]
      have hr:=K.room
      simp only [List.size_toArray,List.length_map,Bool.and_eq_true,beq_self_eq_true,decide_eq_true_eq,true_and,List.length_nil]
      rcases K.mask with e | e | e <;> rw [e] at hr ⊢ <;> omega
    have hlay:layNew t (ents Z).toArray (hashInt k) (.int k tk)=((ents Z1).toArray,{ t with place:=(slots Z1).toArray },false,false):=by
      unfold layNew
      rw [hfree]
      dsimp only
      rw [hins,hput]
      unfold SetTable.orStandIn
      rw [hfit1]
      rfl
    have hnext:=K.next ⟨_,hperm,c⟩ hly
    have hrelay:=K.relay ⟨_,hperm,c⟩ (show Z1.length≤33 by omega)
    have hpl:({ t with place:=(slots Z1).toArray }:SetTable).plain=true:=K.plain
    rw [hlay]
    generalize ({ t with place:=(slots Z1).toArray }:SetTable)=t1 at hnext hrelay hpl
    dsimp only
    have hp1:(ents Z1).Perm ((hashInt k,.int k tk)::ents Z):=hperm.map (·.2)
    refine wpAny_bind (show wpAny _ _ (pure ()) _ _ _ from wpAny_pure ?_)
    rw [hpl,if_pos rfl,hashByValue_scannable 8 (x:=.int k tk) rfl]
    refine wpAny_bind (wpAny_pure ?_)
    rw [show plainKind (.int k tk)=true from rfl,if_pos rfl]
    refine wpAny_bind (wpAny_storeSet_of ho hd ?_ (small_es (by omega)))
    have g1:=put_get (es':=(ents Z1).toArray) (t':=t1) ho hd
    have sb1:=Heap.SameBut.update s.heap S (Obj.putSet (ents Z1).toArray t1)
    split
    · rename_i hf
      obtain ⟨t2,order,Z2,hrel,hop,hes,K2,hp2,_⟩:=hrelay (by simpa using hf)
      have hra:relayAll t1 (ents Z1).toArray (grown (ents Z1).toArray.size)=((ents Z2).toArray,t2,false):=by
        unfold relayAll
        rw [show (ents Z1).toArray.size=Z1.length from by rw [List.size_toArray,en_len],hrel]
        dsimp only
        rw [hes]
        have h1:coversAll order Z1.length=true:=by unfold coversAll; exact List.isPerm_iff.mpr hop
        rw [h1,K2.fits]
        rfl
      rw [hra]
      dsimp only
      refine wpAny_bind (show wpAny _ _ (pure ()) _ _ _ from wpAny_pure ?_)
      have hl2:Z2.length=Z1.length:=by have:=hp2.length_eq; rwa [en_len,en_len] at this
      refine wpAny_bind (wpAny_storeSet_of g1 rfl ?_ (small_es (by omega)))
      have g2:=put_get (s:={ s with heap:=s.heap.update S (Obj.putSet (ents Z1).toArray t1) }) (es':=(ents Z2).toArray) (t':=t2) g1 rfl
      exact wpAny_pure (wpAny_pure (h true _ Z2 _ (sb1.trans (Heap.SameBut.update ..)) ⟨_,t2,g2,hx,rfl,K2⟩ (.inr ⟨hno,hp2.trans hp1⟩)))
    · rename_i hf
      exact wpAny_pure (wpAny_pure (h true _ Z1 _ sb1 ⟨_,_,g1,hx,rfl,hnext (by simpa using hf)⟩ (.inr ⟨hno,hp1⟩)))
end
end ST
namespace ST
open PySem PySem.SetTable DL PyProof.Rows PySem.W
def tupH (ks:List Int):Int:=reduceHash (Builtin.Tuple.tupleHashOf (ks.map hashInt))
def rowH (k:Ky):Int:=reduceHash (Builtin.Tuple.tupleHashOf [hashInt k.1,tupH k.2])
section
variable {prog:Program}{w:World}{A:Around}{E:Value→Shared→Prop}{s:Shared}{S:Addr}{Z:ZL}{ep:Nat}
theorem items_of:∀ {its:List Value}{ns:List Int},IntsAre its ns→ItemsAre (intKind prog w) ns its
  | _,_,.nil=>.nil
  | _,_,.cons n t h=>.cons (intKind_is _ _ _ _) (items_of h)
theorem tk_of {h:Heap}{c:Addr}{its:List Value}{ns:List Int}(p:IsTup h c its.toArray)(i:IntsAre its ns):IsTupleKey (intKind prog w) h ns c:=by
  obtain ⟨o,e,hc,n,d⟩:=p
  exact ⟨o,_,n,e,hc,d,by simpa using items_of i⟩
theorem pyHash_row {u:Value}{k:Ky}{Q:Int→Shared→Prop}(hu:A.units+8 < cLine)(hk:KeyAt s.heap u k)(h:∀tk,s.toks≤tk→Q (rowH k) { s with toks:=tk }):wpAny (model prog w) A (pyHash u) Q E s:=by
  obtain ⟨a,c,t,its,rfl,p1,p2,i1⟩:=hk
  obtain ⟨o,e,hc,n,d⟩:=p1
  have hT:s.TypeIs (.ref a) "tuple" := ⟨o,e,hc⟩
  unfold pyHash
  first | unfold pyHashByItsType | skip
  first | refine wpAny_bind (wpAny_cRoomFor_or (.inr (by omega)) ?_) | skip
  refine wpAny_bind (wpAny_specialOf hT PySem.F.slot_tuple_hash.lookup ?_)
  show wpAny _ _ (if (some (Value.builtin "tuple.__hash__") == some Value.none)=true then _ else _) Q E s
  rw [if_neg (by rw [beq_builtin_none]; exact Bool.false_ne_true)]
  refine wpAny_bind (wpAny_specialOf hT PySem.F.slot_tuple_hash.lookup ?_)
  show wpAny _ _ (callSpecialIfBoundUnlessNone? (.ref a) "__hash__" _ >>= _) Q E s
  refine wpAny_bind (wpAny_callSpecialIfBoundUnlessNone?_slot hT PySem.F.slot_tuple_hash (wpAny_call_entry PySem.F.slot_tuple_hash hT PySem.F.entry_tuple_hash ?_ (PySem.F.args_tuple_hash_1 _)))
  show wpAny _ _ (Builtin.Tuple.tupleItemsOf (.ref a) >>= _) _ _ s
  refine wpAny_bind (wpAny_tupleItemsOf e d ?_)
  rw [← Array.forIn_toList]
  show wpAny _ _ (forIn [Value.int k.1 t,Value.ref c] _ _ >>= _) _ _ s
  simp only [List.forIn_cons,List.forIn_nil]
  refine wpAny_bind (wpAny_bind (wpAny_bind ((intKind prog w).pyHash (k:=k.1) (intKind_is _ _ _ _) (wpAny_pure ?_))))
  dsimp only
  refine wpAny_bind (wpAny_bind (wpAny_pyHash_tuple (s:={ s with toks:=s.toks+1 }) (knd:=intKind prog w) (by have:A.in1.units=A.units+1:=rfl; omega) (tk_of p2 i1) (wpAny_pure ?_)))
  dsimp only
  refine wpAny_pure ?_
  have e2:tupleKeyHash (intKind prog w) k.2=tupH k.2:=rfl
  have e1:(intKind prog w).hash k.1=hashInt k.1:=rfl
  rw [e1,e2]
  show wpAny _ _ (retInt (Builtin.Tuple.tupleHashOf [hashInt k.1,tupH k.2])) _ _ _
  unfold rowH at h
  generalize Builtin.Tuple.tupleHashOf [hashInt k.1,tupH k.2]=v at h
  refine wpAny_ret_mkInt ?_
  show wpAny _ _ (if (decide (-(2:Int) ^ 63≤v) && decide (v < 2 ^ 63))=true then _ else _) Q E _
  unfold reduceHash at h
  split
  · rename_i hv
    rw [if_pos hv] at h
    exact wpAny_pure (h _ (by dsimp only; omega))
  · rename_i hv
    rw [if_neg hv] at h
    exact wpAny_bind (wpAny_rule (wpAny_pure (h _ (by dsimp only; omega))))
theorem hbv_ints {n:Nat}:∀ {its:List Value}{ns:List Int},IntsAre its ns→∀x∈its,hashByValue n x=pure true
  | _,_,.nil,x,h=>by cases h
  | _,_,.cons i t r,x,h=>by
    rcases List.mem_cons.mp h with rfl | h
    · cases n <;> rfl
    · exact hbv_ints r x h
theorem hbv_tup {n:Nat}{c:Addr}{its:List Value}{Q:Bool→Shared→Prop}(p:IsTup s.heap c its.toArray)(hi:∀x∈its,∀Q':Bool→Shared→Prop,Q' true s→wpAny (model prog w) A (hashByValue n x) Q' E s)(h:Q true s) :
    wpAny (model prog w) A (hashByValue (n+1) (.ref c)) Q E s:=by
  obtain ⟨o,e,hc,m,d⟩:=p
  unfold hashByValue
  refine wpAny_bind (wpAny_specialOf (T := "tuple") ⟨o,e,hc⟩ PySem.F.slot_tuple_hash.lookup ?_)
  show wpAny _ _ (seqItems? (.ref c) >>= _) _ _ _
  refine wpAny_bind (wpAny_seqItems e d ?_)
  refine wpAny_bind ?_
  show wpAny _ _ (forIn its.toArray _ _) _ _ _
  rw [← Array.forIn_toList]
  refine wpAny_forIn_list _ (fun rest b s'=>s'=s∧b=(none,()) ∧ ∀x∈rest,x∈its) _ ?_ ?_ _ _ ⟨rfl,rfl,fun x hx=>hx⟩
  · rintro x rest b s' ⟨rfl,rfl,hr⟩
    refine wpAny_bind (hi x (hr x (List.mem_cons_self ..)) _ ?_)
    exact wpAny_pure ⟨rfl,rfl,fun y hy=>hr y (List.mem_cons_of_mem _ hy)⟩
  · rintro b s' ⟨rfl,rfl,_⟩
    exact wpAny_pure h
theorem hbv_row {u:Value}{k:Ky}{Q:Bool→Shared→Prop}(hk:KeyAt s.heap u k)(h:Q true s):wpAny (model prog w) A (hashByValue 8 u) Q E s:=by
  obtain ⟨a,c,t,its,rfl,p1,p2,i1⟩:=hk
  refine hbv_tup p1 (fun x hx Q' q=>?_) h
  rcases List.mem_cons.mp hx with rfl | hx
  · exact wpAny_pure q
  · rw [List.mem_singleton.mp hx]
    exact hbv_tup p2 (fun y hy Q2 q2=>by rw [hbv_ints i1 y hy]; exact wpAny_pure q2) q
theorem eiq_tup {n:Nat}{c:Addr}{its:List Value}{Q:Bool→Shared→Prop}(p:IsTup s.heap c its.toArray)(hi:∀x∈its,∀Q':Bool→Shared→Prop,Q' true s→wpAny (model prog w) A (eqIsQuiet n x) Q' E s)(h:Q true s) :
    wpAny (model prog w) A (eqIsQuiet (n+1) (.ref c)) Q E s:=by
  obtain ⟨o,e,hc,m,d⟩:=p
  unfold eqIsQuiet
  refine wpAny_bind (wpAny_specialOf (T := "tuple") ⟨o,e,hc⟩ PySem.F.slot_tuple_eq.lookup ?_)
  show wpAny _ _ (isInstance (.ref c) (.type "tuple") >>= _) _ _ _
  refine wpAny_bind (wpAny_isInstance (T := "tuple") ⟨o,e,hc⟩ isSubtype_tuple_tuple ?_)
  rw [if_neg (show ¬ (!true)=true from by decide)]
  refine wpAny_bind (wpAny_seqItems e d ?_)
  refine wpAny_bind ?_
  show wpAny _ _ (forIn its.toArray _ _) _ _ _
  rw [← Array.forIn_toList]
  refine wpAny_forIn_list _ (fun rest b s'=>s'=s∧b=(none,()) ∧ ∀x∈rest,x∈its) _ ?_ ?_ _ _ ⟨rfl,rfl,fun x hx=>hx⟩
  · rintro x rest b s' ⟨rfl,rfl,hr⟩
    refine wpAny_bind (hi x (hr x (List.mem_cons_self ..)) _ ?_)
    exact wpAny_pure ⟨rfl,rfl,fun y hy=>hr y (List.mem_cons_of_mem _ hy)⟩
  · rintro b s' ⟨rfl,rfl,_⟩
    exact wpAny_pure h
theorem ints_mem:∀ {its:List Value}{ns:List Int},IntsAre its ns→∀x∈its,∃i t,x=Value.int i t
  | _,_,.nil,x,h=>by cases h
  | _,_,.cons i t r,x,h=>by
    rcases List.mem_cons.mp h with rfl | h
    · exact ⟨_,_,rfl⟩
    · exact ints_mem r x h
theorem eiq_row {u:Value}{k:Ky}{Q:Bool→Shared→Prop}(hk:KeyAt s.heap u k)(h:Q true s):wpAny (model prog w) A (eqIsQuiet 8 u) Q E s:=by
  obtain ⟨a,c,t,its,rfl,p1,p2,i1⟩:=hk
  refine eiq_tup p1 (fun x hx Q' q=>?_) h
  rcases List.mem_cons.mp hx with rfl | hx
  · exact wpAny_pure q
  · rw [List.mem_singleton.mp hx]
    refine eiq_tup p2 (fun y hy Q2 q2=>?_) q
    obtain ⟨i,t,rfl⟩:=ints_mem i1 y hy
    exact wpAny_pure q2
theorem oac_tup {n:Nat}{c:Addr}{its:List Value}{Q:Bool→Shared→Prop}(p:IsTup s.heap c its.toArray)(hi:∀x∈its,∀Q':Bool→Shared→Prop,Q' false s→wpAny (model prog w) A (ofAClassStatement n x) Q' E s)(h:Q false s) :
    wpAny (model prog w) A (ofAClassStatement (n+1) (.ref c)) Q E s:=by
  obtain ⟨o,e,hc,m,d⟩:=p
  unfold ofAClassStatement
  refine wpAny_bind (wpAny_typeOf (T := "tuple") ⟨o,e,hc⟩ ?_)
  dsimp only
  rw [if_pos (show ("tuple" == "tuple")=true by decide)]
  refine wpAny_bind (wpAny_pure ?_)
  rw [if_neg (show ¬ (!true)=true from by decide)]
  refine wpAny_bind (wpAny_seqItems e d ?_)
  dsimp only
  refine wpAny_bind ?_
  rw [← Array.forIn_toList]
  refine wpAny_forIn_list _ (fun rest b s'=>s'=s∧b=(none,()) ∧ ∀x∈rest,x∈its) _ ?_ ?_ _ _ ⟨rfl,rfl,fun x hx=>hx⟩
  · rintro x rest b s' ⟨rfl,rfl,hr⟩
    refine wpAny_bind (hi x (hr x (List.mem_cons_self ..)) _ ?_)
    exact wpAny_pure ⟨rfl,rfl,fun y hy=>hr y (List.mem_cons_of_mem _ hy)⟩
  · rintro b s' ⟨rfl,rfl,_⟩
    exact wpAny_pure h
theorem oac_row {u:Value}{k:Ky}{Q:Bool→Shared→Prop}(hk:KeyAt s.heap u k)(h:Q false s):wpAny (model prog w) A (ofAClassStatement 8 u) Q E s:=by
  obtain ⟨a,c,t,its,rfl,p1,p2,i1⟩:=hk
  refine oac_tup p1 (fun x hx Q' q=>?_) h
  rcases List.mem_cons.mp hx with rfl | hx
  · exact wpAny_pure q
  · rw [List.mem_singleton.mp hx]
    refine oac_tup p2 (fun y hy Q2 q2=>?_) q
    obtain ⟨i,t,rfl⟩:=ints_mem i1 y hy
    exact wpAny_pure q2
theorem unseen {u:Value}{k:Ky}{l:List Value}{Q:Bool→Shared→Prop}(hk:KeyAt s.heap u k)(hl:∀y∈l,∃k',KeyAt s.heap y k')(h:Q false s):wpAny (model prog w) A (searchCouldBeSeen u l) Q E s:=by
  unfold searchCouldBeSeen
  refine wpAny_bind ?_
  refine wpAny_forIn_list _ (fun rest b s'=>s'=s∧b=(none,()) ∧ ∀x∈rest,x∈l) _ ?_ ?_ _ _ ⟨rfl,rfl,fun x hx=>hx⟩
  · rintro y rest b s' ⟨rfl,rfl,hr⟩
    obtain ⟨k',hy⟩:=hl y (hr y (List.mem_cons_self ..))
    have fin:s'=s'∧(none,())=((none,()):Option Bool×Unit) ∧ ∀x∈rest,x∈l:=⟨rfl,rfl,fun y hy=>hr y (List.mem_cons_of_mem _ hy)⟩
    have more:wpAny (model prog w) A (do
        if !(← eqIsQuiet 8 u) then return ForInStep.done (some true,())
        if !(← eqIsQuiet 8 y) then return ForInStep.done (some true,())
        if ← ofAClassStatement 8 u then return ForInStep.done (some true,())
        if ← ofAClassStatement 8 y then return ForInStep.done (some true,())
        return ForInStep.yield (none,())) (fun r s''=>r=ForInStep.yield (none,())∧s''=s') E s':=by
      refine wpAny_bind (eiq_row hk ?_)
      rw [if_neg (show ¬ (!true)=true from by decide)]
      refine wpAny_bind (eiq_row hy ?_)
      rw [if_neg (show ¬ (!true)=true from by decide)]
      refine wpAny_bind (oac_row hk ?_)
      rw [if_neg Bool.false_ne_true]
      refine wpAny_bind (oac_row hy ?_)
      rw [if_neg Bool.false_ne_true]
      exact wpAny_pure ⟨rfl,rfl⟩
    dsimp only
    split
    all_goals
      split
      · exact wpAny_pure fin
      · refine wpAny_mono more (fun r s'' h=>?_) fun _ _ h=>h
        obtain ⟨rfl,rfl⟩:=h
        exact fin
  · rintro b s' ⟨rfl,rfl,_⟩
    exact wpAny_pure h
theorem row_reads {h:Heap}{u:Value}{k:Ky}(hk:KeyAt h u k):Reads h u (.tuple [.int k.1,.tuple (k.2.map PyData.int)]) []:=by
  obtain ⟨a,c,t,its,rfl,⟨o,e,hc,n,d⟩,⟨o',e',hc',n',d'⟩,i1⟩:=hk
  refine .tuple e hc d ?_
  have r2:Reads h (.ref c) (.tuple (k.2.map PyData.int)) []:=.tuple e' hc' d' (by simpa using readsAll_of_ints i1)
  exact .cons (as:=[]) (bs:=[]) (.int _ _) (.cons (as:=[]) (bs:=[]) r2 .nil)
theorem row_eq {u v:Value}{k:Ky}{Q:Bool→Shared→Prop}(hu:A.units+8 < cLine)(h1:KeyAt s.heap u k)(h2:KeyAt s.heap v k)(h:Q true s):wpAny (model prog w) A (eqBool u v) Q E s:=by
  have hc:(PyData.tuple [.int k.1,.tuple (k.2.map PyData.int)]).canLay0=true:=by
    show PyData.canLayAll0 [.int k.1,.tuple (k.2.map PyData.int)]=true
    have:=canLayAll0_ints k.2
    unfold PyData.canLayAll0 PyData.canLay0 PyData.canLayAll0 PyData.canLay0
    rw [this]
    rfl
  have hd:(PyData.tuple [.int k.1,.tuple (k.2.map PyData.int)]).depth≤3:=by
    have:=PyProof.Rows.depthAll_ints k.2
    have h0:PyData.depthAll []=0:=by unfold PyData.depthAll; rfl
    unfold PyData.depth PyData.depthAll PyData.depth PyData.depthAll PyData.depth
    omega
  refine SeqAt.eqBoolOverData prog w A E s u v _ _ _ _ Q (row_reads h1) (row_reads h2) hc hc (by omega) ?_
  have:PyData.eqv (.tuple [.int k.1,.tuple (k.2.map PyData.int)]) (.tuple [.int k.1,.tuple (k.2.map PyData.int)])=true:=by
    have e:PyData.eqvAll (k.2.map PyData.int) (k.2.map PyData.int)=decide (k.2=k.2):=ked_eqvAll _ _
    unfold PyData.eqv PyData.eqvAll PyData.eqv PyData.eqvAll PyData.eqv
    rw [e]
    simp [PyData.eqvAll]
  rw [this]
  exact h
theorem odd_mask {t:SetTable}(K:SOk (bt w) Z t):t.gaveWay=false:=by
  unfold SetTable.gaveWay
  rcases K.mask with e | e | e <;> rw [e] <;> rfl
theorem SOk.fits1 {Z1:ZL}{t:SetTable}(K:SOk (bt w) Z t)(hl1:Z1.length=Z.length+1):({ t with place:=(slots Z1).toArray }:SetTable).fits (ents Z1).toArray.size=true:=by
  unfold SetTable.fits SetTable.fill
  dsimp only
  rw [K.dum]
  have hr:=K.room
  simp only [List.size_toArray,List.length_map,Bool.and_eq_true,beq_self_eq_true,decide_eq_true_eq,true_and,List.length_nil]
  rcases K.mask with e | e | e <;> rw [e] at hr ⊢ <;> omega
theorem add_row {u:Value}{k:Ky}{Q:Bool→Shared→Prop}(hu:A.units+8 < cLine)(hS:SetAt w s.heap S Z ep)(hn:(hshs Z).Nodup)(hel:∀z∈Z,∃k',KeyAt s.heap z.2.2 k')(hinj:∀z∈Z,z.2.1=rowH k→KeyAt s.heap z.2.2 k)(hk:KeyAt s.heap u k)(c:Cov3 (rowH k))(hl:Z.length≤32)(h:∀b h' Z' ep',Heap.SameBut S s.heap h'→SetAt w h' S Z' ep'→Step Z Z' (rowH k) u→Q b { s with heap:=h' }) :
    wpAny (model prog w) A (setAddHashed S u (rowH k)) Q E s:=by
  obtain ⟨o,t,ho,hx,hd,K⟩:=id hS
  have hbs:byScan u (ents Z).toArray=false:=by
    obtain ⟨a,c,t,its,rfl,_⟩:=hk
    rfl
  unfold setAddHashed setAddHashedIn
  refine wpAny_holding (wpAny_bind (st_setState ho hd K ?_))
  dsimp only
  rw [hbs,if_neg Bool.false_ne_true]
  refine wpAny_bind ?_
  unfold setSearch
  show wpAny _ _ (setSearchFrom S u (rowH k) true (99999+1) none) _ _ _
  rw [setSearchFrom]
  refine wpAny_bind (st_setState ho hd K ?_)
  dsimp only
  rw [odd_mask K,if_neg Bool.false_ne_true]
  by_cases hm:rowH k∈hshs Z
  · obtain ⟨z,hz,ez⟩:=List.mem_map.mp hm
    obtain ⟨i,nx,hpr,hzi⟩:=K.hit hn (ha:=fun i=>(((ents Z).toArray[i]?).map (·.1)).getD 0) (fun i z hz=>by
      rw [List.getElem?_toArray,en_at,hz]; rfl) hz
    rw [ez] at hpr
    split
    · rename_i met hmet
      have e:=hpr.symm.trans hmet
      injection e with e
      subst e
      dsimp only
      have hes:(ents Z).toArray[i]? = some z.2:=by rw [List.getElem?_toArray,en_at,hzi]; rfl
      rw [hes]
      obtain ⟨j0,h0,v0⟩:=z
      dsimp only at ez ⊢
      have fin:wpAny (model prog w) A (do
          let equal ← holding [v0] (eqBool v0 u)
          let _ ← setState S
          pure equal) (fun b s'=>b=true∧s'=s) E s:=by
        refine wpAny_bind (wpAny_holding (row_eq hu (hinj _ hz ez) hk ?_))
        exact wpAny_bind (st_setState ho hd K (wpAny_pure ⟨rfl,rfl⟩))
      have done:∀b,Q b { s with heap:=s.heap }:=fun b=>h b s.heap Z ep (.refl _ _) hS (.inl ⟨hm,rfl⟩)
      split
      · refine wpAny_bind (unseen hk (fun y hy=>?_) ?_)
        · obtain ⟨e,he,rfl⟩:=List.mem_map.mp hy
          have he:=Array.mem_filter.mp (Array.mem_toList_iff.mp he)
          obtain ⟨z',hz',rfl⟩:=List.mem_map.mp (show e∈ents Z from by simpa using he.1)
          exact hel z' hz'
        rw [if_neg Bool.false_ne_true]
        refine wpAny_bind (wpAny_holding (row_eq hu (hinj _ hz ez) hk ?_))
        refine wpAny_bind (st_setState ho hd K ?_)
        exact wpAny_pure (wpAny_pure (done _))
      · refine wpAny_bind (wpAny_holding (row_eq hu (hinj _ hz ez) hk ?_))
        refine wpAny_bind (st_setState ho hd K ?_)
        exact wpAny_pure (wpAny_pure (done _))
    · rename_i hne
      exact absurd hpr (hne _)
  · obtain ⟨j,Z1,hpr,hput,hins,hperm,hly⟩:=K.ins c (ha:=fun i=>(((ents Z).toArray[i]?).map (·.1)).getD 0) (fun i z hz q=>by
      rw [List.getElem?_toArray,en_at,hz] at q
      exact hm (List.mem_map.mpr ⟨z,List.mem_of_getElem? hz,q⟩)) u
    have hl1:Z1.length=Z.length+1:=by rw [hperm.length_eq]; rfl
    have hp1:(ents Z1).Perm ((rowH k,u)::ents Z):=hperm.map (·.2)
    split
    · rename_i met hmet
      have e:=hpr.symm.trans hmet
      injection e with e
      subst e
      dsimp only
      refine wpAny_pure ?_
      dsimp only
      refine wpAny_bind (st_setState ho hd K ?_)
      dsimp only
      have hnext:=K.next ⟨_,hperm,c⟩ hly
      have hrelay:=K.relay ⟨_,hperm,c⟩ (show Z1.length≤33 by omega)
      have hpl:({ t with place:=(slots Z1).toArray }:SetTable).plain=true:=K.plain
      have hfit1:=K.fits1 hl1
      rw [hput,hins]
      generalize ({ t with place:=(slots Z1).toArray }:SetTable)=t1 at hnext hrelay hpl hfit1
      rw [hpl,if_pos rfl]
      refine wpAny_bind (hbv_row hk ?_)
      rw [if_pos rfl]
      refine wpAny_bind (wpAny_storeSet_of ho hd ?_ (small_es (by omega)))
      have g1:=put_get (es':=(ents Z1).toArray) (t':=t1) ho hd
      have sb1:=Heap.SameBut.update s.heap S (Obj.putSet (ents Z1).toArray t1)
      split
      · rename_i hf
        obtain ⟨t2,order,Z2,hrel,hop,hes,K2,hp2,hsz⟩:=hrelay (by simpa using hf)
        have hl2:Z2.length=Z1.length:=by have:=hp2.length_eq; rwa [en_len,en_len] at this
        have h1:(ents Z).toArray.size+1=Z1.length:=by rw [List.size_toArray,en_len,hl1]
        rw [h1]
        refine wpAny_bind ?_
        unfold setRelay
        refine wpAny_bind (wpAny_setState_of g1 rfl hfit1 ?_)
        dsimp only
        rw [if_neg (by rw [sizeLine_eq]; omega),hrel]
        refine wpAny_bind ?_
        show wpAny _ _ (if ((order.filterMap ((ents Z1).toArray[·]?)).size != (ents Z1).toArray.size)=true then (unsupported "internal:set-table-lost-an-element" >>= fun _=>pure (order.filterMap ((ents Z1).toArray[·]?),t2)) else pure (order.filterMap ((ents Z1).toArray[·]?),t2)) _ _ _
        rw [hes,if_neg (by simp only [List.size_toArray,en_len,hl2,bne_self_eq_false]; exact Bool.false_ne_true)]
        refine wpAny_pure ?_
        dsimp only
        refine wpAny_storeSet_of g1 rfl ?_ (small_es (by omega))
        have g2:=put_get (s:={ s with heap:=s.heap.update S (Obj.putSet (ents Z1).toArray t1) }) (es':=(ents Z2).toArray) (t':=t2) g1 rfl
        exact wpAny_pure (h true _ Z2 _ (sb1.trans (Heap.SameBut.update ..)) ⟨_,t2,g2,hx,rfl,K2⟩ (.inr ⟨hm,hp2.trans hp1⟩))
      · rename_i hf
        exact wpAny_pure (h true _ Z1 _ sb1 ⟨_,_,g1,hx,rfl,hnext (by simpa using hf)⟩ (.inr ⟨hm,hp1⟩))
    · rename_i hne
      exact absurd hpr (hne _)
end
end ST
namespace ST
open PySem PySem.SetTable PyProof.Rows
def Kp (h h':Heap):Prop:=∀b o,h.get? b=some o→h'.get? b=some o
structure Kind (prog:Program)(w:World)(u:Nat)(α:Type) where
  all:List α
  few:all.length≤32
  hs:α→Int
  inj:∀a∈all,∀b∈all,hs a=hs b→a=b
  KV:Heap→α→Value→Prop
  mono:∀ {h h':Heap}{a:α}{v:Value},KV h a v→Kp h h'→KV h' a v
  add:∀ {A:Around}{E:Value→Shared→Prop}{s:Shared}{S:Addr}{Z:ZL}{ep:Nat}{a:α}{v:Value}{Q:Bool→Shared→Prop},A.units+u < cLine→a∈all→KV s.heap a v→SetAt w s.heap S Z ep→(hshs Z).Nodup→Z.length≤32 →
    (∀z∈Z,∃b∈all,z.2.1=hs b∧KV s.heap b z.2.2)→(∀b h' tk Z' ep',Heap.SameBut S s.heap h'→s.toks≤tk→SetAt w h' S Z' ep'→Step Z Z' (hs a) v→Q b { s with heap:=h',toks:=tk })→wpAny (model prog w) A (setAdd S v) Q E s
section
variable {prog:Program}{w:World}{u:Nat}{α:Type}
structure SInv (κ:Kind prog w u α)(h0:Heap)(S:Addr)(cs:List α)(h:Heap):Prop where
  keep:Kp h0 h
  new:h0.get? S=none
  at':∃Z ep,SetAt w h S Z ep∧(hshs Z).Nodup∧(∀z∈Z,∃a∈cs,z.2.1=κ.hs a∧κ.KV h0 a z.2.2) ∧ ∀a∈cs,κ.hs a∈hshs Z
theorem hs_len {κ:Kind prog w u α}{Z:ZL}{cs:List α}(hc:∀a∈cs,a∈κ.all)(hn:(hshs Z).Nodup)(hz:∀z∈Z,∃a∈cs,z.2.1=κ.hs a∧True):Z.length≤32:=by
  have hsub:hshs Z ⊆ κ.all.map κ.hs:=fun x hx=>by
    obtain ⟨z,hz',rfl⟩:=List.mem_map.mp hx
    obtain ⟨a,ha,e,_⟩:=hz z hz'
    rw [e]
    exact List.mem_map_of_mem (hc a ha)
  have:=List.Nodup.length_le_of_subset hn hsub
  rw [List.length_map,List.length_map] at this
  have:=κ.few
  omega
theorem SInv.of {κ:Kind prog w u α}{h0 h h':Heap}{S:Addr}{cs:List α}(I:SInv κ h0 S cs h)(k:∀b o,(b=S ∨ ∃o',h0.get? b=some o')→h.get? b=some o→h'.get? b=some o):SInv κ h0 S cs h':=by
  obtain ⟨Z,ep,hS,r⟩:=I.at'
  exact ⟨fun b o e=>k b o (.inr ⟨o,e⟩) (I.keep b o e),I.new,Z,ep,hS.at fun o e=>k S o (.inl rfl) e,r⟩
theorem SInv.addW {κ:Kind prog w u α}{h0:Heap}{S:Addr}{cs:List α}{A:Around}{E:Value→Shared→Prop}{s:Shared}{a:α}{v:Value}{Q:Bool→Shared→Prop}(hu:A.units+u < cLine)(hc:∀a∈cs,a∈κ.all)(ha:a∈κ.all)(hv:κ.KV h0 a v)(I:SInv κ h0 S cs s.heap)(h:∀b h' tk,SInv κ h0 S (cs ++ [a]) h'→Heap.SameBut S s.heap h'→s.toks≤tk→Q b { s with heap:=h',toks:=tk }):wpAny (model prog w) A (setAdd S v) Q E s:=by
  obtain ⟨Z,ep,hS,hn,hz,hi⟩:=I.at'
  refine κ.add hu ha (κ.mono hv I.keep) hS hn (hs_len hc hn fun z q=>by obtain ⟨a,h1,h2,_⟩:=hz z q; exact ⟨a,h1,h2,trivial⟩) (fun z q=>by obtain ⟨a,h1,h2,h3⟩:=hz z q; exact ⟨a,hc a h1,h2,κ.mono h3 I.keep⟩) fun b h' tk Z' ep' sb htk hS' st=>?_
  refine h b h' tk ⟨fun x o e=>?_,I.new,Z',ep',hS',?_⟩ sb htk
  · have:x ≠ S:=fun q=>by rw [q,I.new] at e; cases e
    rw [sb.2 x this]
    exact I.keep x o e
  · rcases st with ⟨hm,rfl⟩ | ⟨hm,hp⟩
    · refine ⟨hn,fun z q=>?_,fun b hb=>?_⟩
      · obtain ⟨a',h1,h2⟩:=hz z q
        exact ⟨a',List.mem_append_left _ h1,h2⟩
      · rcases List.mem_append.mp hb with hb | hb
        · exact hi b hb
        · rw [List.mem_singleton.mp hb]; exact hm
    · have hp1:(hshs Z').Perm (κ.hs a::hshs Z):=by
        have:=hp.map (·.1)
        rw [List.map_map,List.map_cons,List.map_map] at this
        exact this
      refine ⟨?_,fun z q=>?_,fun b hb=>?_⟩
      · exact hp1.nodup_iff.mpr (List.nodup_cons.mpr ⟨hm,hn⟩)
      · have:z.2∈ents Z':=List.mem_map_of_mem q
        rcases List.mem_cons.mp (hp.mem_iff.mp this) with e | e
        · rw [e]
          exact ⟨a,List.mem_append_right _ (List.mem_singleton.mpr rfl),rfl,hv⟩
        · obtain ⟨z1,hz1,e1⟩:=List.mem_map.mp e
          obtain ⟨a',h1,h2,h3⟩:=hz z1 hz1
          rw [← e1]
          exact ⟨a',List.mem_append_left _ h1,h2,h3⟩
      · rw [hp1.mem_iff]
        rcases List.mem_append.mp hb with hb | hb
        · exact List.mem_cons_of_mem _ (hi b hb)
        · rw [List.mem_singleton.mp hb]; exact List.mem_cons_self ..
theorem upd_loop {A:Around}{R:Result→Shared→Prop}{I:Addr}{fp wr:List Addr}{G:Array GenState→Array GenState→Prop}{n:Nat}{P:Nat→Value→Prop}{St:Nat→Shared→Prop}(κ:Kind prog w u α){h0:Heap}{cs:List α}(W:WalksS prog w A.in1 I fp wr G n P St)(S:Addr)(hSf:S ∉ fp)(hu:A.in1.units+u < cLine)(hn:cs.length=n)(hc:∀a∈cs,a∈κ.all)(hP:∀i v,P i v→∃a,cs[i]? = some a∧κ.KV h0 a v)(hw:∀b∈wr,h0.get? b=none) :
    ∀ (k i:Nat) (s:Shared),n - i=k→i≤n→St i s→SInv κ h0 S (cs.take i) s.heap →
      (∀s',Moved (S::wr) G s s'→SInv κ h0 S cs s'.heap→R (.ok (.ret .none)) s') →
      codeAny (model prog w) A (.builtin "set.update.loop" ⟨[.ref S,.ref I],[]⟩) R s:=by
  have hSw:S ∉ wr:=fun h=>hSf (W.sub _ h)
  have hsub:∀b∈wr,b∈S::wr:=fun b hb=>List.mem_cons_of_mem _ hb
  have mv:∀ {s s':Shared}{cs':List α},Moved wr G s s'→SInv κ h0 S cs' s.heap→SInv κ h0 S cs' s'.heap:=fun hm hS=>hS.of fun b o hb e=>by
    refine hm.heap b o (fun hbw=>?_) e
    rcases hb with rfl | ⟨o',e'⟩
    · exact hSw hbw
    · rw [hw b hbw] at e'; cases e'
  intro k
  induction k with
  | zero =>
    intro i s hk hi hst hS hR
    have hin:i=n:=by omega
    subst hin
    refine codeAny_builtin F.entry_set_update_loop ?_
    rw [Around.under_plainId F.plain_set_update_loop _]
    show wpAny _ A.in1 (pyNext (.ref I) >>= _) _ _ s
    refine wpAny_bind (W.done s _ _ hst fun s' hm=>?_)
    show wpAny _ A.in1 (ret Value.none) _ _ s'
    rw [← hn,List.take_length] at hS
    exact wpAny_pure (hR s' (hm.mono hsub) (mv hm hS))
  | succ k ih =>
    intro i s hk hi hst hS hR
    have hlt:i < n:=by omega
    refine codeAny_builtin F.entry_set_update_loop ?_
    rw [Around.under_plainId F.plain_set_update_loop _]
    show wpAny _ A.in1 (pyNext (.ref I) >>= _) _ _ s
    refine wpAny_bind (W.item i s _ _ hlt hst fun v s' hp hst' hm=>?_)
    obtain ⟨a,ha,hv⟩:=hP i v hp
    have hS':=mv hm hS
    show wpAny _ A.in1 (holding [v] (setAdd S v) >>= _) _ _ s'
    refine wpAny_bind (wpAny_holding ?_)
    have hlt':i < cs.length:=by omega
    have ea:cs[i]=a:=by rw [List.getElem?_eq_getElem hlt'] at ha; injection ha
    have et:cs.take (i+1)=cs.take i ++ [a]:=by rw [List.take_succ_eq_append_getElem hlt',ea]
    refine SInv.addW hu (fun x hx=>hc x (List.mem_of_mem_take hx)) (hc a (List.mem_of_getElem? ha)) hv hS' fun b h' tk hSi hsb htk=>?_
    rw [← et] at hSi
    refine wpAny_pure ⟨plainId_quiet F.plain_set_update_loop _,ih (i+1) _ (by omega) hlt (W.frame _ s' _ _ hst' htk fun b hb o e=>?_) hSi fun s'' hm'' hS''=>?_⟩
    · rw [hsb.2 b (fun h:b=S=>hSf (by rw [← h]; exact hb))]; exact e
    · refine hR s'' (Moved.trans W.gtrans ((hm.mono hsub).then_heap htk fun b o hb e=>?_) hm'') hS''
      rw [hsb.2 b (fun h:b=S=>hb (by rw [h]; exact List.mem_cons_self))]; exact e
end
end ST
namespace ST
open PySem PySem.SetTable PyProof.Rows
abbrev set0 (w:World):Obj:={ cls:=.type "set",dict:=none,data:=.set #[] 0 (.fresh 0 0 (!bt w)) }
section
variable {prog:Program}{w:World}{A:Around}{E:Value→Shared→Prop}{s:Shared}{u:Nat}{α:Type}
theorem new_set (a:Value){Q₁:Value→Shared→Prop}(h:Q₁ (.ref s.heap.objs.size) { s with heap:=s.heap.push (set0 w) }) :
    codeAny (model prog w) A (.call (.builtin "set.__new__") ⟨[.type "set",a],[]⟩) (wants Q₁ E) s:=by
  refine codeAny_of_tree ?_
  show wpAny _ A.in1 (do checkBuiltinCall "set.__new__" ⟨[.type "set",a],[]⟩; again (.builtin "set.__new__" ⟨[.type "set",a],[]⟩)) _ _ s
  refine wpAny_bind (wpAny_of_eq (F.newCall_set_1 a) (wpAny_pure ⟨plainId_quiet F.plain_set_new _,codeAny_builtin F.entry_set_new ?_⟩))
  rw [Around.under_plainId F.plain_set_new _]
  unfold Builtin.«set.__new__» Builtin.Frozenset.newClass
  have hsub:=sub_set_self
  obtain ⟨hp,g,d,tk,os⟩:=s
  dsimp only
  wp_walk
  refine wpAny_askSetting (wpAny_pure ?_)
  dsimp only
  simp only [newObj]
  refine wpAny_bind (wpAny_alloc (wpAny_pure ?_))
  exact wpAny_pure h
theorem set0_at (h:Heap):SetAt w (h.push (set0 w)) h.objs.size [] 0:=⟨set0 w,_,Heap.get?_push_size _ rfl,⟨rfl,rfl,rfl⟩,rfl,SOk.fresh (bt w)⟩
theorem call_set (κ:Kind prog w u α){l:Addr}{items:Array Value}{cs:List α}{Q:Value→Shared→Prop}(hh:A.handled=none)(hu:A.units+(u+8) < cLine)(hl:s.heap.IsList l items)(hc:∀a∈cs,a∈κ.all)(hi:∀i:Nat,(∃v,items[i]? = some v)→∃a v,items[i]? = some v∧cs[i]? = some a∧κ.KV s.heap a v)(hn:cs.length=items.size)(h:∀ (h':Heap) (tk:Nat),SInv κ s.heap s.heap.objs.size cs h'→s.toks≤tk→Q (.ref s.heap.objs.size) { s with heap:=h',toks:=tk }) :
    wpAny (model prog w) A (call (.type "set") [.ref l]) Q E s:=by
  obtain ⟨c,tl,hmro⟩:=F.called_set.mro
  have hmade:=F.called_set.made
  have hsub:=F.called_set.sub
  refine wpAny_call (codeAny_of_tree ?_)
  show wpAny _ _ (callAny (.type "set") _) _ _ _
  refine wpAny_pure ⟨Code.quiet_builtin _ (by decide +kernel),codeAny_builtin F.entry_type_call ?_⟩
  rw [Around.under_plain (weight_type_call_type "set" [.ref l] []) rfl]
  have h1:=F.called_set.notType
  have h2:=F.called_set.canCreate
  have hct:=F.typeCall_set_1 (.ref l)
  repeat (any_goals (first | assumption | wp_step))
  refine codeAny_mono (new_set (.ref l) (E:=E) (Q₁:=fun obj s₁=>obj = .ref s.heap.objs.size∧s₁ = { s with heap:=s.heap.push (set0 w) }) ⟨rfl,rfl⟩) fun r s₁ hr=>?_
  cases r with
  | error e=>exact hr
  | ok fl =>
    cases fl with
    | ret obj =>
      obtain ⟨rfl,rfl⟩:=hr
      have hS:(s.heap.push (set0 w)).get? s.heap.objs.size=some (set0 w):=Heap.get?_push_size _ rfl
      have hT:Shared.TypeIs { s with heap:=s.heap.push (set0 w) } (.ref s.heap.objs.size) "set" := ⟨_,hS,rfl⟩
      have hli:=F.called_set.init.lookup
      have hbi:=F.called_set.init.bind (.ref s.heap.objs.size)
      repeat (any_goals (first | assumption | wp_step))
      refine codeAny_mono (codeAny_call_builtin (R:=wants (fun r s₂=>r = .none ∧ ∃h' tk,s₂ = { s with heap:=h',toks:=tk }∧SInv κ s.heap s.heap.objs.size cs h'∧s.toks≤tk) E) F.called_set.init.plain F.entry_set_init (check_set_init_1 hT ?_)) fun r₂ s₂ hr₂=>?_
      · obtain ⟨ol,hol,hcl,nl,hdl⟩:=hl
        obtain ⟨ocls,odict,odata,oslots⟩:=ol
        simp only at hcl hdl
        subst hcl; subst hdl
        have hol':(s.heap.push (set0 w)).get? l=some { cls:=.type "list",dict:=odict,data:=.seq items nl,slots:=oslots }:=Heap.get?_push_of_some _ hol
        have hsls:=F.sub_list_set
        have hslf:=F.sub_list_frozenset
        have hne:(Value.type "list" == Value.type "dict")=false:=by decide
        have hl1:(s.heap.push (set0 w)).IsList l items:=⟨_,hol',rfl,nl,rfl⟩
        unfold Builtin.«set.__init__» noKeywords Builtin.Frozenset.updateFrom
        generalize hPI:pyIter=PI
        wp_walk
        subst hPI
        refine wpAny_pyIter_list hl1 ?_
        refine wpAny_bind (wpAny_runValue ?_)
        have hlS:l < s.heap.objs.size:=Heap.lt_size hol
        have hh3:A.in1.in1.in1.handled=none:=by simp [hh]
        have hneI:l ≠ (s.heap.push (set0 w)).objs.size:=by
          rw [Heap.size_push]; exact Nat.ne_of_lt (Nat.lt_succ_of_lt hlS)
        have hSf:s.heap.objs.size ∉ [(s.heap.push (set0 w)).objs.size,l]:=by
          rw [Heap.size_push]; simp only [List.mem_cons,List.mem_singleton,List.not_mem_nil,or_false,not_or]
          exact ⟨Nat.ne_of_lt (Nat.lt_succ_self _),Nat.ne_of_gt hlS⟩
        have big:∀b,s.heap.objs.size≤b→s.heap.get? b=none:=fun b hb=>by
          cases e:s.heap.get? b with
          | none=>rfl
          | some o=>exact absurd (Heap.lt_size e) (Nat.not_lt.mpr hb)
        refine upd_loop κ (h0:=s.heap) (cs:=cs) ((Walks.list hh3 _ l hneI items).toS) s.heap.objs.size
          hSf (by have e:A.in1.in1.in1.units=A.units+1+1+1:=rfl; omega) hn hc (fun i v hv=>?hP) (fun b hb=>?hw) (items.size - 0) 0 _ (by omega) (Nat.zero_le _)
          ⟨⟨_,Heap.get?_push_size _ rfl,rfl,rfl⟩,(hl1.push _)⟩ ?hS0 ?hR
        case hP =>
          obtain ⟨a,v',e1,e2,e3⟩:=hi i ⟨v,hv⟩
          have hv:items[i]? = some v:=hv
          rw [hv] at e1
          injection e1 with e1
          subst e1
          exact ⟨a,e2,e3⟩
        case hw =>
          rw [List.mem_singleton.mp hb,Heap.size_push]
          exact big _ (Nat.le_succ _)
        case hS0 =>
          exact ⟨fun b o e=>Heap.get?_push_of_some _ (Heap.get?_push_of_some _ e),big _ (Nat.le_refl _),[],0,(set0_at s.heap).at fun o e=>Heap.get?_push_of_some _ e,.nil,fun _ z=>(by cases z),fun _ z=>(by cases z)⟩
        case hR =>
          intro s' hm hS'
          obtain ⟨h',g',d',tk',os'⟩:=s'
          have eg:g'=s.gens:=hm.gens
          have ed:d'=s.drawn:=hm.drawn
          have eo:os'=s.os:=hm.os
          have et:s.toks≤tk':=hm.toks
          subst eg; subst ed; subst eo
          show wpAny _ _ _ _ _ _
          refine wpAny_pure ?_
          show wpAny _ _ (ret Value.none) _ _ _
          exact wpAny_pure ⟨rfl,h',tk',rfl,hS',et⟩
      · cases r₂ with
        | error e=>exact hr₂
        | ok fl₂ =>
          cases fl₂ with
          | ret r =>
            obtain ⟨rfl,h',tk,rfl,hS',hk'⟩:=hr₂
            repeat (any_goals (first | assumption | wp_step))
            exact h _ _ hS' hk'
          | _=>exact hr₂.elim
    | _=>exact hr.elim
end
end ST
namespace ST
open PySem PySem.SetTable PyProof.Rows DL
theorem cov_int:∀k∈List.range 5,Cov3 (hashInt (k:Nat)):=by
  have h:∀k∈List.range 5,bm (VL 7 (hashInt (k:Nat)))=2 ^ 8 - 1∧bm (VL 31 (hashInt (k:Nat)))=2 ^ 32 - 1∧bm (VL 127 (hashInt (k:Nat)))=2 ^ 128 - 1:=by decide +kernel
  exact fun k hk=>⟨cov_of (h k hk).1,cov_of (h k hk).2.1,cov_of (h k hk).2.2⟩
theorem inj_int:∀k∈List.range 5,∀j∈List.range 5,hashInt (k:Nat)=hashInt (j:Nat)→k=j:=by decide +kernel
def intK (prog:Program)(w:World):Kind prog w 0 Nat where
  all:=List.range 5
  few:=by decide
  hs:=fun k=>hashInt (k:Nat)
  inj:=inj_int
  KV:=fun _ k v=>∃t,v = .int (k:Nat) t
  mono:=fun h _=>h
  add:=by
    intro A E s S Z ep a v Q hu ha hv hS hn hl hz h
    obtain ⟨t,rfl⟩:=hv
    unfold setAdd
    refine wpAny_holding (wpAny_bind ((intKind prog w).pyHash (k:=(a:Int)) (intKind_is _ _ _ _) ?_))
    refine add_int (s:={ s with toks:=s.toks+1 }) hS (fun z q=>?_) (fun z q e=>?_) (cov_int a ha) hl fun b h' Z' ep' sb hS' st=>h b h' _ Z' ep' sb (Nat.le_succ _) hS' st
    · obtain ⟨b,hb,e,t,e'⟩:=hz z q
      exact ⟨b,t,Prod.ext e e'⟩
    · obtain ⟨b,hb,e',t,e2⟩:=hz z q
      rw [e'] at e
      obtain rfl:=inj_int b hb a ha e
      exact ⟨t,e2⟩
theorem keyAt_mono {h h':Heap}{u:Value}{k:Ky}(hk:KeyAt h u k)(kp:Kp h h'):KeyAt h' u k:=by
  obtain ⟨a,c,t,its,rfl,⟨o,e,r⟩,⟨o',e',r'⟩,i⟩:=hk
  exact ⟨a,c,t,its,rfl,⟨o,kp _ _ e,r⟩,⟨o',kp _ _ e',r'⟩,i⟩
end ST
namespace ST
open PySem PySem.SetTable PyProof.Rows DL
theorem cov_row:∀k∈List.range 32,Cov3 (rowH (V.key k)):=by
  have h:∀k∈List.range 32,bm (VL 7 (rowH (V.key k)))=2 ^ 8 - 1∧bm (VL 31 (rowH (V.key k)))=2 ^ 32 - 1∧bm (VL 127 (rowH (V.key k)))=2 ^ 128 - 1:=by decide +kernel
  exact fun k hk=>⟨cov_of (h k hk).1,cov_of (h k hk).2.1,cov_of (h k hk).2.2⟩
theorem inj_row:∀k∈List.range 32,∀j∈List.range 32,rowH (V.key k)=rowH (V.key j)→k=j:=by decide +kernel
def rowK (prog:Program)(w:World)(Ex:Nat→Value→Prop):Kind prog w 8 Nat where
  all:=List.range 32
  few:=by decide
  hs:=fun k=>rowH (V.key k)
  inj:=inj_row
  KV:=fun h k v=>KeyAt h v (V.key k)∧Ex k v
  mono:=fun h k=>⟨keyAt_mono h.1 k,h.2⟩
  add:=by
    intro A E s S Z ep a v Q hu ha hv hS hn hl hz h
    unfold setAdd
    refine wpAny_holding (wpAny_bind (pyHash_row hu hv.1 fun tk htk=>?_))
    refine add_row (s:={ s with toks:=tk }) hu hS hn (fun z q=>?_) (fun z q e=>?_) hv.1 (cov_row a ha) hl fun b h' Z' ep' sb hS' st=>h b h' tk Z' ep' sb htk hS' st
    · obtain ⟨b,hb,e,r⟩:=hz z q
      exact ⟨_,r.1⟩
    · obtain ⟨b,hb,e',r⟩:=hz z q
      rw [e'] at e
      obtain rfl:=inj_row b hb a ha e
      exact r.1
end ST
namespace ST
open PySem PySem.SetTable PyProof.Rows DL
section
variable {prog:Program}{w:World}{u:Nat}{α:Type}
theorem pick_codes {κ:Kind prog w u α}{h0:Heap}{cs:List α}:∀ {vs:List (Int×Value)},(∀e∈vs,∃a∈cs,e.1=κ.hs a∧κ.KV h0 a e.2)→∃qs:List α,qs.map κ.hs=vs.map (·.1)∧(∀a∈qs,a∈cs)∧Paired (κ.KV h0) qs (vs.map (·.2))
  | [],_=>⟨[],rfl,fun _ z=>(by cases z),.nil⟩
  | e::vs,h=>by
    obtain ⟨a,h1,h2,h3⟩:=h e (List.mem_cons_self ..)
    obtain ⟨qs,q1,q2,q3⟩:=pick_codes fun e' he'=>h e' (List.mem_cons_of_mem _ he')
    refine ⟨a::qs,by rw [List.map_cons,List.map_cons,q1,h2],fun b hb=>?_,.cons h3 q3⟩
    rcases List.mem_cons.mp hb with rfl | hb
    · exact h1
    · exact q2 b hb
theorem SInv.codes {κ:Kind prog w u α}{h0 h:Heap}{S:Addr}{cs:List α}(hc:∀a∈cs,a∈κ.all)(I:SInv κ h0 S cs h):∃Z ep,SetAt w h S Z ep∧Z.length≤32 ∧ ∀vs:List (Int×Value),vs.Perm (ents Z)→∃qs:List α,qs.Nodup∧(∀a,a∈qs↔a∈cs)∧Paired (κ.KV h0) qs (vs.map (·.2)):=by
  obtain ⟨Z,ep,hS,hn,hz,hi⟩:=I.at'
  refine ⟨Z,ep,hS,hs_len hc hn fun z q=>by obtain ⟨a,h1,h2,_⟩:=hz z q; exact ⟨a,h1,h2,trivial⟩,fun vs hp=>?_⟩
  obtain ⟨qs,q1,q2,q3⟩:=pick_codes (κ:=κ) (h0:=h0) (cs:=cs) (vs:=vs) fun e he=>by
    obtain ⟨z,hz',rfl⟩:=List.mem_map.mp (hp.mem_iff.mp he)
    exact hz z hz'
  have hp1:(qs.map κ.hs).Perm (hshs Z):=by
    rw [q1]
    have:=hp.map (·.1)
    rwa [List.map_map] at this
  refine ⟨qs,?_,fun a=>⟨q2 a,fun ha=>?_⟩,q3⟩
  · have:=hp1.nodup_iff.mpr hn
    exact (List.pairwise_map.mp this).imp fun h e=>h (by rw [e])
  · obtain ⟨b,hb,e⟩:=List.mem_map.mp (hp1.mem_iff.mpr (hi a ha))
    rw [← κ.inj b (hc b (q2 b hb)) a (hc a ha) e]
    exact hb
end
end ST
namespace DL
open PySem PySem.Spec PyProof.Rows L2 PySem.W ST
section
variable {X:Cx}{pins:List (Addr×Obj)}{σ:L2.St}{H:Hp}{s:Shared}{α:Type}{ks:List α}{g:α→D}{key:α→Ky}{rank:α→Nat}{L:Addr→Prop}{D0:Addr}{Q:VK}
theorem sort_rows {A':Around}{E':Value→Shared→Prop}{vs:List Value}{P:Fin→Shared→Prop}(hg:∀a∈ks,g a=kd (key a))(hr:∀a∈ks,∀b∈ks,ltK (key a) (key b)=decide (rank a < rank b))(h64:ks.length < 64)(hu:A'.units+64 < cLine)(I1:L2.Inv X pins σ H s)(nD:NewA X pins D0)(fD:H D0=none)(lk:LOk L H)(hoL:s.heap.get? D0=some (seqObj "list" vs.toArray 0))(hp:Paired (RI X.K H L g) ks vs)(fin:∀s',EP X pins σ (fun v H'=>∃qs:List α,qs.Perm ks∧(qs.map rank).Pairwise (· ≤ ·)∧Same H H'∧Rep X.K H' L (.lst (qs.map g)) v) (.ref D0) s'→P (.done (.ret .none)) s') :
    wpAny (model X.prog X.w) A' (Builtin.«list.sort» ⟨[.ref D0],[]⟩) P E' s:=by
  have hlen:ks.length=vs.length:=hp.length
  have hsl:sizeLine=16777216:=sizeLine_eq
  rw [list_sort_plain]
  refine wpAny_bind (listItems_at hoL rfl ?_)
  refine wpAny_bind (listUpdate_at hoL rfl ?_ (by rw [List.size_toArray]; omega) (Nat.zero_le _))
  obtain ⟨I2,e1,ho1⟩:=inv_turn (its':=[]) I1 nD fD hoL
  refine wpAny_bind (seqEpoch_at ho1 rfl ?_)
  refine wpAny_bind (wpAny_newTuple ?_ (by show vs.length≤_; omega))
  refine wpAny_bind (wpAny_newList ?_ (Nat.zero_le _))
  refine wpAny_holding ?_
  dsimp only
  have I3:L2.Inv X pins σ H { s with heap:=((s.heap.update D0 (Obj.mapSeq fun _=>([]:List Value).toArray)).push { cls:=.type "tuple",data:=.seq vs.toArray.toList.toArray }).push { cls:=.type "list",data:=.seq ([]:List Value).toArray } }:=
    I2.kept (t':=s.toks) fun b o q=>Heap.get?_push_of_some _ (Heap.get?_push_of_some _ q)
  have ho3:(((s.heap.update D0 (Obj.mapSeq fun _=>([]:List Value).toArray)).push { cls:=.type "tuple",data:=.seq vs.toArray.toList.toArray }).push { cls:=.type "list",data:=.seq ([]:List Value).toArray }).get? D0=some (seqObj "list" ([]:List Value).toArray e1):=
    Heap.get?_push_of_some _ (Heap.get?_push_of_some _ ho1)
  have tail:∀st' (qs:List α) (out:List Value),qs.Perm ks→(qs.map rank).Pairwise (· ≤ ·)→Paired (RI X.K H L g) qs out→(arrOf st').map (·.2)=out.toArray→failedOf st'=none→wpAny (model X.prog X.w) A' (do
      let sorted:=(arrOf st').map (·.2)
      let touched:=(← seqEpoch D0) != e1
      Builtin.List.listUpdate (.ref D0) fun _=>sorted
      if let some e:=failedOf st' then rule "list.sort.comparison-raised"; throw e
      if touched then rule "list.sort.modified"; raiseError "ValueError" "list modified during sort"
      ret .none) P E' { s with heap:=((s.heap.update D0 (Obj.mapSeq fun _=>([]:List Value).toArray)).push { cls:=.type "tuple",data:=.seq vs.toArray.toList.toArray }).push { cls:=.type "list",data:=.seq ([]:List Value).toArray } }:=by
    intro st' qs out a1 a2 a3 a4 a5
    have hlo:qs.length=out.length:=a3.length
    have hlq:=a1.length_eq
    dsimp only
    rw [a4]
    refine wpAny_bind (seqEpoch_at ho3 rfl ?_)
    refine wpAny_bind (listUpdate_at ho3 rfl ?_ (Nat.zero_le _) (by show out.toArray.size≤_; rw [List.size_toArray]; omega))
    rw [a5]
    simp only [bne_self_eq_false,Bool.false_eq_true,if_false]
    refine wpAny_pure (fin _ ?_)
    exact sort_end I3 nD fD lk ho3 a3 (by omega) fun v H' sm rp=>⟨qs,a1,a2,sm,rp⟩
  by_cases hn:ks.length < 2
  · have hn2:vs.toArray.size < 2:=by rw [List.size_toArray]; omega
    rw [if_pos hn2,if_pos hn2]
    refine wpAny_bind (wpAny_pure (wpAny_bind ?_))
    show wpAny (model X.prog X.w) A' (StateT.run (pure ()) _) _ E' _
    rw [StateT.run_pure]
    refine wpAny_pure ?_
    refine tail _ ks vs (.refl _) ?_ hp ?_ rfl
    · match ks,hn with
      | [],_=>exact List.Pairwise.nil
      | [_],_=>exact List.pairwise_singleton _ _
    · show ((vs.toArray.zip vs.toArray).map (·.2))=vs.toArray
      have:∀vs:List Value,vs.length < 2→((vs.toArray.zip vs.toArray).map (·.2))=vs.toArray:=fun vs h=>by
        match vs,h with
        | [],_=>simp
        | [a],_=>simp
      exact this vs (by rw [List.size_toArray] at hn2; exact hn2)
  · have hn2:¬ vs.toArray.size < 2:=by rw [List.size_toArray]; omega
    rw [if_neg hn2,if_neg hn2]
    have kp:=keys_ri I3 hg hp
    refine wpAny_bind (kind_keys (ky:=ks.map key) (by
      have:∀ {ks:List α}{us:List Value}{h:Heap},Paired (fun a u=>KeyAt h u (key a)) ks us→Paired (fun k u=>KeyAt h u k) (ks.map key) us:=fun {ks us h} p=>by
        induction p with
        | nil=>exact .nil
        | cons r _ ih=>exact .cons r ih
      exact this kp) (by rw [List.length_map]; omega) ?_)
    refine wpAny_bind (wpAny_mono (run_keys (Q:=fun st' s'=>s'=_ ∧ ∃ (qs:List α) (out:List Value),qs.Perm ks∧(qs.map rank).Pairwise (· ≤ ·)∧Paired (RI X.K H L g) qs out∧(arrOf st').map (·.2)=out.toArray∧failedOf st'=none) kp hp hr (by omega) h64 hu
      (fun st' qs out a1 a2 a3 a4 a5=>⟨rfl,qs,out,a1,a2,a3,a4,a5⟩)) ?_ fun _ _ x=>x)
    rintro ⟨⟨⟩,st'⟩ s' ⟨rfl,qs,out,a1,a2,a3,a4,a5⟩
    exact tail st' qs out a1 a2 a3 a4 a5
end
end DL
namespace DL
open PySem PySem.Spec PyProof.Rows L2 PySem.W ST
section
variable {X:Cx}{pins:List (Addr×Obj)}{σ:L2.St}{H:Hp}{s:Shared}{α:Type}{L:Addr→Prop}{u:Nat}
theorem wp_sortedS (κ:Kind X.prog X.w u α){h0:Heap}{S:Addr}{cs:List α}{Post:Value→Shared→Prop}(hh:X.A.handled=none)(hc:∀a∈cs,a∈κ.all)(hS:SInv κ h0 S cs s.heap)(I:L2.Inv X pins σ H s)(k:∀ (s1:Shared) (D0:Addr) (qs:List α) (vs:List Value),L2.Inv X pins σ H s1→NewA X pins D0→H D0=none→s1.heap.get? D0=some (seqObj "list" vs.toArray 0)→qs.Nodup→(∀a,a∈qs↔a∈cs)→qs.length≤32→Paired (κ.KV h0) qs vs →
      ∀ (P:Fin→Shared→Prop) (E':Value→Shared→Prop),(∀s',Post (.ref D0) s'→P (.done (.ret .none)) s')→wpAny (model X.prog X.w) X.A.in1.in1 (Builtin.«list.sort» ⟨[.ref D0],[]⟩) P E' s1) :
    wpAny (model X.prog X.w) X.A (call (.builtin "sorted") [.ref S]) Post X.xe s:=by
  have hsl:sizeLine=16777216:=sizeLine_eq
  obtain ⟨Z,ep,hZ,hz32,hq⟩:=hS.codes hc
  refine Calls.call_function_entry kind_sorted plain_sorted entry_sorted (args_sorted1 _) ?_
  unfold Builtin.«sorted»
  refine wpAny_bind (m:=checkCount "sorted" 1 1 _) (wpAny_pure ?_)
  refine wpAny_bind (collect_set (by exact hh) hZ (by omega) fun s' vs kp h1 h2 h3 h4 hp=>?_)
  obtain ⟨qs,q1,q2,q3⟩:=hq vs hp
  have hlv:(vs.map (·.2)).length≤32:=by
    rw [List.length_map,hp.length_eq,en_len]; exact hz32
  have I1:L2.Inv X pins σ H s':=by
    have:=I.kept (h':=s'.heap) (t':=s'.toks) kp
    obtain ⟨hp',g',d',t',o'⟩:=s'
    dsimp only at h1 h2 h3
    subst h1 h2 h3
    exact this
  refine wpAny_bind (wpAny_newList ?_ (by omega))
  have hoL:(s'.heap.push (seqObj "list" (vs.map (·.2)).toArray 0)).get? s'.heap.objs.size=some (seqObj "list" (vs.map (·.2)).toArray 0):=Heap.get?_push_size _ rfl
  have I2:L2.Inv X pins σ H { s' with heap:=s'.heap.push (seqObj "list" (vs.map (·.2)).toArray 0) }:=I1.kept (t':=s'.toks) fun b o q=>Heap.get?_push_of_some _ q
  show wpAny _ _ _ _ _ { s' with heap:=s'.heap.push (seqObj "list" (vs.map (·.2)).toArray 0) }
  refine wpAny_bind (wpAny_holding (wpAny_call_entry slot_list_sort ⟨_,hoL,rfl⟩ entry_list_sort ?_ (args_list_sort _)))
  refine k _ s'.heap.objs.size qs (vs.map (·.2)) I2 (newA I1 (Nat.le_refl _)) (I1.hok.fresh (Nat.le_refl _)) hoL q1 q2 (by rw [q3.length]; exact hlv) q3 _ _ fun s'' h=>⟨_,rfl,?_⟩
  exact wpAny_pure ⟨_,rfl,h⟩
theorem pair_at {R:α→Value→Prop}:∀ {ks:List α}{vs:List Value},Paired R ks vs→∀i:Nat,(∃v,vs.toArray[i]? = some v)→∃a v,vs.toArray[i]? = some v∧ks[i]? = some a∧R a v
  | _,_,.nil,i,⟨v,h⟩=>by simp at h
  | _,_,.cons r t,0,_=>⟨_,_,rfl,rfl,r⟩
  | _,_,.cons r t,i+1,⟨v,h⟩=>by
    obtain ⟨a,v',h1,h2,h3⟩:=pair_at t i ⟨v,by simpa using h⟩
    exact ⟨a,v',by simpa using h1,by simpa using h2,h3⟩
theorem wp_setS (κ:Kind X.prog X.w u α){cs:List α}{l:Addr}{vs:List Value}{Post:Value→Shared→Prop}(hh:X.A.handled=none)(hu:X.A.units+(u+8) < cLine)(hc:∀a∈cs,a∈κ.all)(hl:s.heap.IsList l vs.toArray)(hp:Paired (κ.KV s.heap) cs vs)(I:L2.Inv X pins σ H s)(k:∀s1 S,L2.Inv X pins σ H s1→SInv κ s.heap S cs s1.heap→Post (.ref S) s1):wpAny (model X.prog X.w) X.A (call (.type "set") [.ref l]) Post X.xe s:=
  call_set κ hh hu hl hc (fun i hi=>pair_at hp i hi) (by rw [hp.length]; simp) fun h' tk hS ht=>k _ _ (I.kept (t':=tk) hS.keep) hS
variable {δ:List (Option D)}{e:Expr}{p pos p2 pos2:Pos}
theorem boot_setB:bootBuiltins "set" = some (.type "set"):=by rfl
theorem ev_ss {d d':D}(h:Ev X e δ d)(hm:X.mg "sorted" = none)(hm2:X.mg "set" = none)(key:∀ (pins:List (Addr×Obj)) (s:Shared) (σ:L2.St) (H:Hp) (L:Addr→Prop) (v:V) (u:Value) (Q:VK),L2.Inv X pins σ H s→LOk L H→Rep X.K H L d v→RelV v u→(∀v H',Same H H'→Rep X.K H' L d' v→Q v H') →
      wpAny (model X.prog X.w) X.A (call (.type "set") [u]) (fun z s1=>wpAny (model X.prog X.w) X.A (call (.builtin "sorted") [z]) (EP X pins σ Q) X.xe s1) X.xe s)(hgl:Gl X "sorted" := by rfl)(hgl2:Gl X "set" := by rfl)(he:starEach [.Call (.Name "set" p2) [e] [] pos2] X.env = [(false,eval (.Call (.Name "set" p2) [e] [] pos2) X.env)]:=by rfl)(he2:starEach [e] X.env = [(false,eval e X.env)]:=by rfl):Ev X (.Call (.Name "sorted" p) [.Call (.Name "set" p2) [e] [] pos2] [] pos) δ d':=fun σ H L Q l r k pins s I=>by
  refine wpAny_Call_Name_kw (ld_blt I hgl hm boot_sortedB ?_)
  refine PyProof.Rows.callWith_builtin1 ?_ (by rw [he]; rfl) rfl
  rw [he]
  show wpAny _ _ (spliced ((false,eval (.Call (.Name "set" p2) [e] [] pos2) X.env)::backTo pos [])) _ _ s
  refine Calls.spliced_cons ?_
  refine wpAny_Call_Name_kw (ld_blt I hgl2 hm2 boot_setB ?_)
  refine PyProof.Rows.callWith_type1 ?_ (by rw [he2]; rfl) rfl
  rw [he2]
  show wpAny _ _ (spliced ((false,eval e X.env)::backTo pos2 [])) _ _ s
  refine Calls.spliced_cons (thn (h σ H L (fun v H'=>Same H H'∧Rep X.K H' L d v) l r (fun v H' s' r'=>⟨s',r'⟩) pins s I) fun u s1 ⟨x,H1,I1,r1,q1,q2⟩=>?_)
  refine Calls.spliced_nil ?_
  refine thn (key pins s1 σ H1 L x u Q I1 (l.same q1) q2 r1 fun v H' s' r'=>k v H' (q1.trans s') r') fun z s2 hz=>?_
  exact Calls.spliced_nil hz
theorem rows_kv {H:Hp}{g:Nat→D}{key:Nat→Ky}(I:L2.Inv X pins σ H s):∀ {ks:List Nat}{us:List Value},(∀a∈ks,g a=kd (key a))→Paired (RI X.K H L g) ks us→Paired (fun a u=>KeyAt s.heap u (key a)∧RI X.K H L g a u) ks us
  | _,_,_,.nil=>.nil
  | a::ks,_,hg,.cons ⟨v,h1,r1⟩ t=>.cons ⟨key_of I (L:=L) (by rw [← hg a List.mem_cons_self]; exact h1) r1,v,h1,r1⟩ (rows_kv I (fun b hb=>hg b (List.mem_cons_of_mem _ hb)) t)
theorem ev_sortedSetR {cs qs:List Nat}{g:Nat→D}(h:Ev X e δ (.lst (cs.map g)))(hrm:Room 1 X.A)(hg:∀a∈cs,g a=kd (V.key a))(hc:∀a∈cs,a < 32)(hq:∀a,a∈qs↔a∈cs)(hs:(qs.map Mth.rk).Pairwise (· < ·))(hm:X.mg "sorted" = none)(hm2:X.mg "set" = none)(hgl:Gl X "sorted" := by rfl)(hgl2:Gl X "set" := by rfl)(he:starEach [.Call (.Name "set" p2) [e] [] pos2] X.env = [(false,eval (.Call (.Name "set" p2) [e] [] pos2) X.env)]:=by rfl)(he2:starEach [e] X.env = [(false,eval e X.env)]:=by rfl):Ev X (.Call (.Name "sorted" p) [.Call (.Name "set" p2) [e] [] pos2] [] pos) δ (.lst (qs.map g)):=by
  refine ev_ss h hm hm2 (fun pins s σ H L v u Q I lk r rv k=>?_) hgl hgl2 he he2
  obtain ⟨l',xs,rfl,hsq,hrs⟩:=rep_lst.mp r
  cases rv
  obtain ⟨vs,rvs,pl,_⟩:=I.list hsq.sq
  have hp:=ri_of hrs rvs
  have hall:∀a∈cs,a∈(rowK X.prog X.w (RI X.K H L g)).all:=fun a ha=>List.mem_range.mpr (hc a ha)
  refine wp_setS (rowK X.prog X.w (RI X.K H L g)) hrm.hd (by have:=hrm.un; omega) hall pl.isList (rows_kv I hg hp) I fun s1 S I1 hS=>?_
  refine wp_sortedS (rowK X.prog X.w (RI X.K H L g)) hrm.hd hall hS I1 fun s2 D0 ps us I2 nD fD ho n1 n2 n3 n4 P E' fin=>?_
  refine sort_rows (ks:=ps) (g:=g) (key:=V.key) (rank:=Mth.rk) (fun a ha=>hg a ((n2 a).mp ha)) (fun a ha b hb=>V.key_lt' (hc a ((n2 a).mp ha)) (hc b ((n2 b).mp hb))) (by omega) (by have:=hrm.un; show X.A.units+1+1+64 < cLine; omega) I2 nD fD lk ho (Paired.imp' (fun a u h=>h.2) n4) fun s' hs'=>fin s' ?_
  obtain ⟨v,H',I',rv',ts,t1,t2,t3,t4⟩:=hs'
  refine ⟨v,H',I',rv',k v H' t3 ?_⟩
  have:ts=qs:=by
    rw [List.pairwise_map] at t2 hs
    refine Mth.sorted_ext ?_ hs fun a=>by rw [t1.mem_iff,n2,hq]
    refine (t2.and (t1.nodup_iff.mpr n1)).imp_of_mem fun {a b} ha hb ⟨h1,h2⟩=>?_
    rcases Nat.lt_or_eq_of_le h1 with z | z
    · exact z
    · exact absurd (Mth.rk_inj (hc a ((n2 a).mp (t1.mem_iff.mp ha))) (hc b ((n2 b).mp (t1.mem_iff.mp hb))) z) h2
  rw [← this]
  exact t4
theorem ints_kvS {prog:Program}{w:World}{hp:Heap}:∀ {cs:List Nat}{us:List Value},IntsAre us (cs.map fun (i:Nat)=>(i:Int))→Paired ((intK prog w).KV hp) cs us
  | [],_,h=>by cases h; exact .nil
  | c::cs,_,h=>by cases h with
    | cons n t h=>exact .cons ⟨t,rfl⟩ (ints_kvS h)
theorem kv_intsS {prog:Program}{w:World}{hp:Heap}:∀ {cs:List Nat}{us:List Value},Paired ((intK prog w).KV hp) cs us→IntsAre us (cs.map fun (i:Nat)=>(i:Int))
  | _,_,.nil=>.nil
  | _,_,.cons ⟨t,e⟩ r=>by rw [e]; exact .cons _ t (kv_intsS r)
theorem up_ext:∀ {a b:List Int},a.Pairwise (· < ·)→b.Pairwise (· < ·)→(∀x,x∈a↔x∈b)→a=b
  | [],[],_,_,_=>rfl
  | [],y::b,_,_,h=>absurd ((h y).mpr (List.mem_cons_self ..)) (by simp)
  | x::a,[],_,_,h=>absurd ((h x).mp (List.mem_cons_self ..)) (by simp)
  | x::a,y::b,ha,hb,h=>by
    obtain ⟨h1,h2⟩:=List.pairwise_cons.mp ha
    obtain ⟨g1,g2⟩:=List.pairwise_cons.mp hb
    have e:x=y:=by
      rcases List.mem_cons.mp ((h x).mp (List.mem_cons_self ..)) with e | e
      · exact e
      · rcases List.mem_cons.mp ((h y).mpr (List.mem_cons_self ..)) with f | f
        · exact f.symm
        · have:=g1 x e; have:=h1 y f; omega
    subst e
    rw [up_ext h2 g2 fun z=>⟨fun hz=>?_,fun hz=>?_⟩]
    · rcases List.mem_cons.mp ((h z).mp (List.mem_cons_of_mem _ hz)) with e | e
      · have:=h1 z hz; omega
      · exact e
    · rcases List.mem_cons.mp ((h z).mpr (List.mem_cons_of_mem _ hz)) with e | e
      · have:=g1 z hz; omega
      · exact e
theorem ev_sortedSetI {cs qs:List Nat}(h:Ev X e δ (.lst (cs.map fun (i:Nat)=>D.int i)))(hrm:Room 1 X.A)(hc:∀a∈cs,a < 5)(hq:∀a,a∈qs↔a∈cs)(hs:qs.Pairwise (· < ·))(hm:X.mg "sorted" = none)(hm2:X.mg "set" = none)(hgl:Gl X "sorted" := by rfl)(hgl2:Gl X "set" := by rfl)(he:starEach [.Call (.Name "set" p2) [e] [] pos2] X.env = [(false,eval (.Call (.Name "set" p2) [e] [] pos2) X.env)]:=by rfl)(he2:starEach [e] X.env = [(false,eval e X.env)]:=by rfl):Ev X (.Call (.Name "sorted" p) [.Call (.Name "set" p2) [e] [] pos2] [] pos) δ (.lst (qs.map fun (i:Nat)=>D.int i)):=by
  have mm:∀cs:List Nat,(cs.map fun (i:Nat)=>D.int i)=(cs.map fun (i:Nat)=>(i:Int)).map D.int:=fun cs=>by rw [List.map_map]; rfl
  refine ev_ss h hm hm2 (fun pins s σ H L v u Q I lk r rv k=>?_) hgl hgl2 he he2
  rw [mm] at r
  obtain ⟨l',xs,rfl,hsq,hrs⟩:=rep_lst.mp r
  cases rv
  rw [reps_ints] at hrs
  subst hrs
  obtain ⟨vs,rvs,pl,_⟩:=I.list hsq.sq
  have hall:∀a∈cs,a∈(intK X.prog X.w).all:=fun a ha=>List.mem_range.mpr (hc a ha)
  refine wp_setS (intK X.prog X.w) hrm.hd (by have:=hrm.un; omega) hall pl.isList (ints_kvS (intsAre_of rvs)) I fun s1 S I1 hS=>?_
  refine wp_sortedS (intK X.prog X.w) hrm.hd hall hS I1 fun s2 D0 ps us I2 nD fD ho n1 n2 n3 n4 P E' fin=>?_
  have hl:=n4.length
  refine list_sort_tree ho (kv_intsS n4) (by omega) fun out ns' a1 a2 a3=>fin _ ?_
  have en:ns'=qs.map fun (i:Nat)=>(i:Int):=by
    refine up_ext ?_ ?_ fun x=>?_
    · refine (a3.and (a2.nodup_iff.mpr ?_)).imp fun ⟨h1,h2⟩=>by omega
      exact List.pairwise_map.mpr (n1.imp fun {a b} h e=>h (by omega))
    · exact List.pairwise_map.mpr (hs.imp fun {a b} h=>by omega)
    · rw [a2.mem_iff]
      constructor
      · intro hx
        obtain ⟨a,ha,rfl⟩:=List.mem_map.mp hx
        exact List.mem_map.mpr ⟨a,(hq a).mpr ((n2 a).mp ha),rfl⟩
      · intro hx
        obtain ⟨a,ha,rfl⟩:=List.mem_map.mp hx
        exact List.mem_map.mpr ⟨a,(n2 a).mpr ((hq a).mp ha),rfl⟩
  subst en
  have hle:(qs.map fun (i:Nat)=>(i:Int)).length≤32:=by rw [a2.length_eq,List.length_map]; exact n3
  have ha:D0 < s2.heap.objs.size:=Heap.lt_size ho
  obtain ⟨e1,ho1⟩:∃e1,(s2.heap.update D0 (Obj.mapSeq fun _=>#[])).get? D0=some (seqObj "list" #[] e1):=⟨_,get?_update_seq ho (fun _=>#[])⟩
  have ho6:(((s2.heap.update D0 (Obj.mapSeq fun _=>#[])).push (seqObj "tuple" us.toArray 0)).push (seqObj "list" #[] 0)).get? D0=some (seqObj "list" #[] e1):=Heap.get?_push_of_some _ (Heap.get?_push_of_some _ ho1)
  obtain ⟨e2,ho7⟩:∃e2,(sortedHeap s2.heap D0 us out).get? D0=some (seqObj "list" out e2):=⟨_,get?_update_seq ho6 (fun _=>out)⟩
  have I3:L2.Inv X pins σ H { s2 with heap:=sortedHeap s2.heap D0 us out }:=I2.turned (t':=s2.toks) (it:=D0) (fun b o hb q=>by
    unfold sortedHeap
    rw [Heap.get?_update_ne _ _ _ _ hb]
    exact Heap.get?_push_of_some _ (Heap.get?_push_of_some _ ((Heap.get?_update_other _ _ (Ne.symm hb)).trans q))) fD nD.neL (.inr nD.up) nD.cells nD.pins
  refine ⟨.ref D0,upd H D0 (.lst ((qs.map fun (i:Nat)=>(i:Int)).map V.int)),inv_track I3 nD fD ⟨Nat.le_of_lt (small1000 (by rw [List.length_map]; omega)),out.toList,e2,ints_vals a1,by rw [Array.toArray_toList]; exact ho7⟩,rfl,k _ _ (same_upd fD) ?_⟩
  rw [mm]
  exact rep_lst.mpr ⟨_,_,rfl,.of (lk.fresh fD) upd_same,reps_ints.mpr rfl⟩
end
end DL
namespace V
open PySem PySem.Spec L2 DL Mth
def dO:Option Nat→D
  | none=>.non
  | some a=>cr a
abbrev aWN:Str×Nat→List D:=fun i=>[.str i.1,.int i.2]
theorem dig_cp:∀n:Nat,n < 6→cp (Txt.slice "01234" none (some (n:Int)))=(List.range (min n 5)).map fun i=>48+i:=by decide +kernel
theorem dig_ix:∀i < 5,(Builtin.Str.occurrences "01234" (sN i) 0 (("01234" : String):Str).length 1).head? = some i:=by decide +kernel
theorem dig_ix6:∀i < 6,(Builtin.Str.occurrences "012345" (sN i) 0 (("012345" : String):Str).length 1).head? = some i:=by decide +kernel
theorem tst_dg {n:Nat}(hn:n≤5)(p:Str):(!decide ((p.length:Int)=1) || !inS p (Txt.slice "01234" none (some (n:Int))))=(dg n p).isNone:=by
  by_cases h:p.length=1
  · obtain ⟨c,rfl⟩:=one_of h
    rw [in_one,dig_cp n (by omega),decide_eq_true (by rw [h]; rfl),Bool.not_true,Bool.false_or]
    cases q:dg n ⟨#[c]⟩ with
    | none =>
      rw [Option.isNone_none,Bool.not_eq_true',decide_eq_false_iff_not]
      intro z
      obtain ⟨i,hi,e⟩:=List.mem_map.mp z
      have hi:=List.mem_range.mp hi
      exact dg_none q i (by omega) (by unfold sN; rw [e])
    | some i =>
      obtain ⟨h1,h2⟩:=dg_some q
      rw [Option.isNone_some,Bool.not_eq_false',decide_eq_true_eq]
      have:c=48+i:=by
        have:=congrArg cp h2
        have:[c] = [48+i]:=this
        simpa using this
      rw [this]
      exact List.mem_map.mpr ⟨i,List.mem_range.mpr (by omega),rfl⟩
  · rw [decide_eq_false (by omega),Bool.not_false,Bool.true_or]
    cases q:dg n p with
    | none=>rfl
    | some i=>exact absurd (by rw [(dg_some q).2]; rfl) h
theorem sN_len (i:Nat):(sN i).length=1:=rfl
def dst (is:List Nat):List Nat:=(List.range 5).filter fun i=>is.contains i
theorem dst_up (is:List Nat):(dst is).Pairwise (· < ·):=List.pairwise_lt_range.filter _
theorem dst_mem {is:List Nat}(h:∀i∈is,i < 5)(i:Nat):i∈dst is↔i∈is:=by
  unfold dst
  rw [List.mem_filter,List.mem_range]
  constructor
  · rintro ⟨_,h2⟩; simpa using h2
  · intro hi; exact ⟨h i hi,by simpa using hi⟩
abbrev lJ (is:List Nat):D:=.lst (is.map fun (i:Nat)=>D.int i)
theorem plain_lJ:∀is:List Nat,plainDs 0 (is.map fun (i:Nat)=>D.int i)=true
  | []=>rfl
  | i::is=>by
    rw [List.map_cons]
    unfold plainDs
    rw [plain_lJ is]
    rfl
theorem plain_lJ' (is:List Nat):plainD 1 (lJ is)=true:=by unfold lJ plainD; exact plain_lJ is
theorem eqv_lJ (is js:List Nat):PyData.eqv (toPy (lJ is)) (toPy (lJ js))=decide (is=js):=by
  have e:∀is:List Nat,(is.map fun (i:Nat)=>D.int i)=(is.map fun (i:Nat)=>(i:Int)).map D.int:=fun is=>by rw [List.map_map]; rfl
  unfold lJ toPy PyData.eqv
  rw [e,e,toPys_map,toPys_map,PySem.W.ked_eqvAll,Bool.eq_iff_iff,decide_eq_true_eq,decide_eq_true_eq]
  constructor
  · intro h
    have hi:∀is js:List Nat,(is.map fun (i:Nat)=>(i:Int))=(js.map fun (i:Nat)=>(i:Int))→is=js:=by
      intro is
      induction is with
      | nil=>intro js h; cases js with
        | nil=>rfl
        | cons _ _=>cases h
      | cons a is ih=>intro js h; cases js with
        | nil=>cases h
        | cons b js =>
          rw [List.map_cons,List.map_cons] at h
          obtain ⟨h1,h2⟩:=List.cons.inj h
          rw [ih js h2,show a=b by omega]
    exact hi is js h
  · rintro rfl; rfl
section
variable {P:Program}{w:World}{K:PySem.W.Frag}{mg:Str→Option Value}{base:Heap}{f:Addr}{fd:FuncData}{C CV CN CS CB:Addr}
abbrev pLCrowd (P:Program)(w:World)(K:PySem.W.Frag)(mg:Str→Option Value)(base:Heap):Prop:=PFn P w K mg base "_law_crowd" 2 aWN (fun i=>i.1.length≤900∧C5 i.2) fun i d=>d=dO (lcr i.1 i.2)
theorem scLawCrowd:FnScope ["word", "many", "members", "part"] ["word", "many"] (defScope sLawCrowd):=⟨rfl,rfl,rfl,by decide +kernel,rfl,by decide +kernel,by decide +kernel⟩
theorem d_lcrowd (F:Fun K "_law_crowd" "_law_crowd" sLawCrowd f fd)(B:Blt mg):FnOk P w K mg base CX0 2 f fd ["word", "many"] (PureSp K aWN (fun i=>i.1.length≤900∧C5 i.2) fun i d=>d=dO (lcr i.1 i.2)):=by
  refine fn_pure F scLawCrowd (fun _=>rfl) fun cdv A outer s H E hr ⟨wd,n⟩ ⟨hl,hn⟩=>?_
  dsimp only at hl hn
  have hr1:Room 1 _:=hr
  have hn5:n≤5:=hn.2
  have h2n:2 ^ n≤32:=pow5 hn5
  by_cases h0:wd = " -"
  · refine blk_rt (st_ifT (EvT.cast (et_eqT (ev_var 0) ev_str) (decide_eq_true h0)) (blk_rt (st_retE (Ev.cast (d:=.tup []) (ev_tup ea_nil) ?_))))
    dsimp only
    rw [h0,← pc_00,lcr_pc hn5 (Nat.two_pow_pos n)]
    exact cr_0
  refine blk_cons (st_skip (EvT.cast (et_eqT (ev_var 0) ev_str) (decide_eq_false h0))) ?_
  have e1:cp (Txt.slice wd none (some ((1:Nat):Int)))=(cp wd).take 1:=sl_to wd 1
  have b32:cp ((" " : String):Str) = [32]:=by decide +kernel
  by_cases h1:(cp wd).take 1 = [32]
  rotate_left
  · refine blk_rt (st_ifT (EvT.cast (et_neT (ev_slS (ev_var 0) eo_none (eo_some ev_int) (by omega)) ev_str) ?_) (blk_rt (st_retE (Ev.cast ev_non ?_))))
    · rw [Bool.not_eq_true',decide_eq_false_iff_not]
      intro z
      have:=congrArg cp z
      rw [b32] at this
      exact h1 (e1 ▸ this)
    · dsimp only
      rw [not_pc hn5 h1]
      rfl
  refine blk_cons (st_skip (EvT.cast (et_neT (ev_slS (ev_var 0) eo_none (eo_some ev_int) (by omega)) ev_str) ?_)) ?_
  · rw [Bool.not_eq_false',decide_eq_true_eq]
    exact cps_inj (by show cp _=cp _; rw [b32]; exact e1.trans h1)
  refine blk_own 2 ?_ scLawCrowd.nd
  have hs:=Txt.slice_le wd (some 1) none
  have hz:=spl_le (Txt.slice wd (some 1) none) "+"
  have tst:∀q:Str,(!decide ((q.length:Int)=1) || !inS q (Txt.slice "01234" none (some (n:Int))))=(dg n q).isNone:=tst_dg hn5
  have ed:(Txt.split (Txt.slice wd (some 1) none) "+").map D.str=(wps wd).map D.str:=rfl
  have pl:∀q∈wps wd,q.length≤100000:=fun q hq=>by have:=spl_piece s43 hq; omega
  rcases first_bad (dg n) (wps wd) with ⟨is,hgood⟩ | ⟨k,q,is,b1,b2,b3⟩
  · obtain ⟨ew,hlt⟩:=map_dg hgood
    have hil:is.length≤902:=by
      have:=congrArg List.length ew
      rw [List.length_map] at this
      unfold wps at this
      omega
    have h5:∀i∈is,i < 5:=fun i hi=>by have:=hlt i hi; omega
    refine blk_cons (st_for 3 (ds:=is.map fun i=>D.str (sN i)) (fun j=>[.da (.str wd),.da (.int n),.ow ((is.take j).map fun (i:Nat)=>D.int i),.no]) (ei_lst (Ev.cast (ev_split (ev_slS (ev_var 0) (eo_some ev_int) eo_none (by omega)) ev_str (by decide) (by show (Txt.slice wd (some 1) none).length≤100000; omega)) ?_)) rfl (fun j d hd=>?_) rfl scLawCrowd.nd) ?_
    · rw [ed,ew,List.map_map]
      rfl
    · obtain ⟨hj,rfl⟩:=map_get hd
      have hi:=hlt _ (List.getElem_mem hj)
      refine Blk.nxc (Blk.forget 3 (blk_cons (st_skip (EvT.cast (et_or (et_ne (ev_lenS (ev_var 3) (by rw [sN_len]; decide) B.len) ev_int) (fun _=>et_ninS (ev_var 3) (ev_slS ev_str eo_none (eo_some (ev_var 1)) (by decide)))) ?_)) (blk_one (st_app 2 rfl (ev_index ev_str (ev_var 3) (dig_ix is[j] (by omega))) (by rw [List.length_map,List.length_take]; omega))))) ?_
      · rw [tst,dg_sN hi]
        rfl
      · simp only [List.set_cons_zero,List.set_cons_succ]
        rw [List.take_succ_eq_append_getElem hj,List.map_append]
        rfl
    rw [List.length_map,List.take_length]
    by_cases hu:is=dst is
    · have hup:is.Pairwise (· < ·):=by rw [hu]; exact dst_up is
      obtain ⟨a,ha,hmb⟩:=up_mb hn5 hup hlt
      have hpc:wd=pc a:=wd_join (lt32 hn5 ha) h1 (by rw [ew,hmb])
      refine blk_cons (st_skip (EvT.cast (et_neD (k:=true) (hu64 hr) (ev_var 2) (ev_sortedSetI (cs:=is) (qs:=dst is) (ev_var 2) hr1 h5 (fun i=>dst_mem h5 i) (dst_up is) B.srt B.set) (plain_no 1 _ (plain_lJ' is)) (plain_no 1 _ (plain_lJ' (dst is))) (plain_shaped (plain_lJ' is) (by decide)) (plain_shaped (plain_lJ' (dst is)) (by decide)) ?_) rfl)) ?_
      · rw [eqv_lJ]; exact decide_eq_true hu
      · refine blk_rt (st_retE (Ev.cast (ev_tuple (ev_var 2) B.tuple) ?_))
        dsimp only
        rw [hpc,lcr_pc hn5 ha]
        show tJ is=cr a
        rw [← hmb,tJ_cr]
    · refine blk_rt (st_ifT (EvT.cast (et_neD (k:=false) (hu64 hr) (ev_var 2) (ev_sortedSetI (cs:=is) (qs:=dst is) (ev_var 2) hr1 h5 (fun i=>dst_mem h5 i) (dst_up is) B.srt B.set) (plain_no 1 _ (plain_lJ' is)) (plain_no 1 _ (plain_lJ' (dst is))) (plain_shaped (plain_lJ' is) (by decide)) (plain_shaped (plain_lJ' (dst is)) (by decide)) ?_) rfl) (blk_rt (st_retE (Ev.cast ev_non ?_))))
      · rw [eqv_lJ]; exact decide_eq_false hu
      · dsimp only
        rw [lcr_none.mpr fun a ha e=>?_]
        · rfl
        · have ha32:=lt32 hn5 ha
          have hne:a ≠ 0:=fun z=>h0 (by rw [e,z,pc_00])
          have:=wps_pc hne ha32
          rw [← e,ew] at this
          have him:is=mb a:=by
            have hinj:∀x y:List Nat,x.map sN=y.map sN→x=y:=by
              intro x
              induction x with
              | nil=>intro y h; cases y with
                | nil=>rfl
                | cons _ _=>cases h
              | cons b x ih=>intro y h; cases y with
                | nil=>cases h
                | cons c y =>
                  rw [List.map_cons,List.map_cons] at h
                  obtain ⟨g1,g2⟩:=List.cons.inj h
                  rw [sN_inj g1,ih y g2]
            exact hinj _ _ this
          exact hu (nat_ext (by rw [him]; exact mb_up a ha32) (dst_up is) fun i=>(dst_mem h5 i).symm)
  · obtain ⟨ew,hlt⟩:=map_dg b3
    have hk:k < (wps wd).length:=(List.getElem?_eq_some_iff.mp b1).1
    have hkl:k≤902:=by unfold wps at hk; omega
    have hisl:is.length=k:=by
      have:=congrArg List.length ew
      rw [List.length_map,List.length_take] at this
      omega
    have hat:∀j,(hj:j < k)→(wps wd)[j]? = some (sN (is[j]'(by omega))):=fun j hj=>by
      have:((wps wd).take k)[j]? = some (sN (is[j]'(by omega))):=by rw [ew,List.getElem?_map,List.getElem?_eq_getElem (by omega)]; rfl
      rwa [List.getElem?_take,if_pos hj] at this
    refine blk_rt (st_forG (o:=.rt (· = dO (lcr wd n))) 3 k (ds:=(wps wd).map D.str) (fun j=>[.da (.str wd),.da (.int n),.ow ((is.take j).map fun (i:Nat)=>D.int i),.no]) (ei_lst (Ev.cast (ev_split (ev_slS (ev_var 0) (eo_some ev_int) eo_none (by omega)) ev_str (by decide) (by show (Txt.slice wd (some 1) none).length≤100000; omega)) (by rw [ed]))) rfl (by rw [List.length_map]; omega) (fun j d hj hd=>?_) (.inr ⟨.str q,_,by rw [List.getElem?_map,b1]; rfl,rfl,?_⟩) rfl scLawCrowd.nd)
    · rw [List.getElem?_map,hat j hj] at hd
      cases hd
      have hji:j < is.length:=by omega
      have hi:=hlt _ (List.getElem_mem hji)
      refine Blk.nxc (Blk.forget 3 (blk_cons (st_skip (EvT.cast (et_or (et_ne (ev_lenS (ev_var 3) (by rw [sN_len]; decide) B.len) ev_int) (fun _=>et_ninS (ev_var 3) (ev_slS ev_str eo_none (eo_some (ev_var 1)) (by decide)))) ?_)) (blk_one (st_app 2 rfl (ev_index ev_str (ev_var 3) (dig_ix is[j] (by omega))) (by rw [List.length_map,List.length_take]; omega))))) ?_
      · rw [tst,dg_sN hi]
        rfl
      · simp only [List.set_cons_zero,List.set_cons_succ]
        rw [List.take_succ_eq_append_getElem hji,List.map_append]
        rfl
    · refine blk_rt (st_ifT (EvT.cast (et_or (et_ne (ev_lenS (ev_var 3) (pl q (List.mem_of_getElem? b1)) B.len) ev_int) (fun _=>et_ninS (ev_var 3) (ev_slS ev_str eo_none (eo_some (ev_var 1)) (by decide)))) ?_) (blk_rt (st_retE (Ev.cast ev_non ?_))))
      · rw [tst,b2]
        rfl
      · rw [lcr_none.mpr fun a ha e=>?_]
        · rfl
        · have ha32:=lt32 hn5 ha
          have hne:a ≠ 0:=fun z=>h0 (by rw [e,z,pc_00])
          have hw:=wps_pc hne ha32
          rw [← e] at hw
          have hq:=List.mem_of_getElem? b1
          rw [hw] at hq
          obtain ⟨i,hi,rfl⟩:=List.mem_map.mp hq
          rw [dg_sN (mb_mem n (by omega) a ha i hi)] at b2
          cases b2
end
end V
namespace V
open PySem PySem.Spec L2 DL Mth
theorem dg15_cp:cp (("12345" : String):Str) = [49,50,51,52,53]:=by decide +kernel
theorem c58:cp ((":" : String):Str) = [58]:=by decide +kernel
theorem c0:cp (("" : String):Str) = []:=by decide +kernel
theorem eq_cp {x y:Str}:x=y↔cp x=cp y:=⟨fun h=>by rw [h],fun h=>cps_inj h⟩
theorem head_tst (t:Str):(decide (Txt.slice t none (some ((1:Nat):Int)) = "") || (!inS (Txt.slice t none (some ((1:Nat):Int))) "12345" || !decide (Txt.slice t (some ((1:Nat):Int)) (some ((2:Nat):Int)) = ":")))=false →
    ∃n,1≤n∧n≤5∧t=hdt n++Txt.slice t (some 2) none:=by
  intro h
  rw [Bool.or_eq_false_iff,Bool.or_eq_false_iff,Bool.not_eq_false',Bool.not_eq_false',decide_eq_false_iff_not,decide_eq_true_eq] at h
  obtain ⟨h1,h2,h3⟩:=h
  rw [eq_cp,sl_to,c0] at h1
  rw [eq_cp,sl_gen t (by decide),c58] at h3
  have h1l:(Txt.slice t none (some ((1:Nat):Int))).length=1:=by
    rw [← cp_len,sl_to]
    match hh:cp t with
    | []=>rw [hh] at h1; exact absurd rfl h1
    | _::_=>rfl
  obtain ⟨c,hc⟩:=one_of h1l
  rw [hc,in_one,dg15_cp,decide_eq_true_eq] at h2
  have h4:(cp t).take 1 = [c]:=by rw [← sl_to,hc]
  have h5:49≤c∧c≤53:=by
    simp only [List.mem_cons,List.not_mem_nil,or_false] at h2
    omega
  refine ⟨c - 48,by omega,by omega,head_of (by omega) ?_ h3⟩
  rw [h4]
  congr 1
  omega
theorem head_ok {t:Str}{n:Nat}(h1:1≤n)(h5:n≤5){r:Str}(ht:t=hdt n++r):(decide (Txt.slice t none (some ((1:Nat):Int)) = "") || (!inS (Txt.slice t none (some ((1:Nat):Int))) "12345" || !decide (Txt.slice t (some ((1:Nat):Int)) (some ((2:Nat):Int)) = ":")))=false ∧
    Txt.slice t none (some ((1:Nat):Int))=sN n∧Txt.slice t (some ((2:Nat):Int)) none=r:=by
  have hc:cp t=(48+n)::58::cp r:=by rw [ht]; exact txt_cp h5 r
  have a1:Txt.slice t none (some ((1:Nat):Int))=sN n:=by rw [eq_cp,sl_to,hc]; rfl
  have a2:Txt.slice t (some ((1:Nat):Int)) (some ((2:Nat):Int)) = ":" := by rw [eq_cp,sl_gen t (by decide),hc,c58]; rfl
  have a3:Txt.slice t (some ((2:Nat):Int)) none=r:=by rw [eq_cp,sl_from,hc]; rfl
  refine ⟨?_,a1,a3⟩
  rw [a1,a2,decide_eq_false (by rw [eq_cp,c0]; exact fun z=>by cases z),decide_eq_true rfl]
  unfold sN
  rw [in_one,dg15_cp,decide_eq_true (by simp only [List.mem_cons,List.not_mem_nil,or_false]; omega)]
  rfl
theorem hdt_inj {n m:Nat}(hn:n≤5)(hm:m≤5){r q:Str}(h:hdt n++r=hdt m++q):n=m∧r=q:=by
  have:=congrArg cp h
  rw [txt_cp hn,txt_cp hm] at this
  obtain ⟨h1,h2⟩:=List.cons.inj this
  obtain ⟨_,h3⟩:=List.cons.inj h2
  exact ⟨by omega,cps_inj h3⟩
theorem pcs_inj:∀ {x y:List Nat},(∀a∈x,a < 32)→(∀a∈y,a < 32)→x.map pc=y.map pc→x=y
  | [],[],_,_,_=>rfl
  | [],_::_,_,_,h=>by cases h
  | _::_,[],_,_,h=>by cases h
  | a::x,b::y,h1,h2,h=>by
    rw [List.map_cons,List.map_cons] at h
    obtain ⟨g1,g2⟩:=List.cons.inj h
    rw [pc_inj a (h1 a List.mem_cons_self) b (h2 b List.mem_cons_self) g1,pcs_inj (fun c hc=>h1 c (List.mem_cons_of_mem _ hc)) (fun c hc=>h2 c (List.mem_cons_of_mem _ hc)) g2]
theorem lcr_map {n:Nat}:∀ {ws:List Str}{ms:List Nat},ws.map (fun w=>lcr w n)=ms.map some→ws=ms.map pc ∧ ∀a∈ms,a < 2 ^ n
  | [],[],_=>⟨rfl,fun _ z=>by cases z⟩
  | [],_::_,h=>by cases h
  | _::_,[],h=>by cases h
  | w::ws,a::ms,h=>by
    rw [List.map_cons,List.map_cons] at h
    obtain ⟨e1,e2⟩:=List.cons.inj h
    obtain ⟨h1,h2⟩:=lcr_some e1
    obtain ⟨h3,h4⟩:=lcr_map e2
    refine ⟨by rw [List.map_cons,h2,h3],fun j hj=>?_⟩
    rcases List.mem_cons.mp hj with rfl | hj
    · exact h1
    · exact h4 j hj
theorem good_ws {t r:Str}{n:Nat}(hn:n≤5)(ht:t=hdt n++r)(hr:r ≠ ""){m:Nat}{ms:List Nat}(g:Good t m ms):m=n∧ms ≠ []∧Txt.split r "," = ms.map pc:=by
  obtain ⟨⟨g1,g2⟩,g3,g4,g5⟩:=g
  have:hdt n++r=hdt m++rst ms:=ht.symm.trans g5
  obtain ⟨e1,e2⟩:=hdt_inj hn g2 this
  have hne:ms ≠ []:=fun z=>hr (by rw [e2,z,rst_nil])
  exact ⟨e1.symm,hne,by rw [e2]; exact spl_rst hne fun a ha=>lt32 g2 (g3 a ha)⟩
theorem ws_rst {r:Str}{ms:List Nat}(h:Txt.split r "," = ms.map pc):r=rst ms:=by
  have:=StrLaws.join_split r ","
  rw [h] at this
  rw [← this]
  show _=Builtin.Str.glued "," (ms.map pc)
  rw [StrLaws.glued_eq_join]
abbrev rw2 (a:Nat):D:=.tup [.int ((mi a).length:Int),cr a]
theorem rw2_kd (a:Nat):rw2 a=kd (V.key a):=rfl
def srd (n:Nat)(ms:List Nat):List Nat:=(cs n).filter fun a=>ms.contains a
theorem srd_up (n:Nat)(ms:List Nat):((srd n ms).map rk).Pairwise (· < ·):=List.pairwise_map.mpr ((cs_sorted n).filter _)
theorem srd_mem {n:Nat}(hn:n≤5){ms:List Nat}(h:∀a∈ms,a < 2 ^ n)(a:Nat):a∈srd n ms↔a∈ms:=by
  unfold srd
  rw [List.mem_filter,cs_mem hn]
  constructor
  · rintro ⟨_,h2⟩; simpa using h2
  · intro hi; exact ⟨h a hi,by simpa using hi⟩
theorem plain_cr:∀a < 32,plainD 1 (cr a)=true:=by decide +kernel
theorem plain_rw2:∀a < 32,plainD 2 (rw2 a)=true:=by decide +kernel
theorem plains_map {n:Nat}{g:Nat→D}:∀ {ms:List Nat},(∀a∈ms,plainD n (g a)=true)→plainDs n (ms.map g)=true
  | [],_=>by rw [List.map_nil]; unfold plainDs; rfl
  | a::ms,h=>by
    rw [List.map_cons]
    unfold plainDs
    rw [h a List.mem_cons_self,plains_map fun b hb=>h b (List.mem_cons_of_mem _ hb)]
    rfl
theorem plain_rows {ms:List Nat}(h:∀a∈ms,a < 32):plainD 3 (.lst (ms.map rw2))=true:=by unfold plainD; exact plains_map fun a ha=>plain_rw2 a (h a ha)
theorem eqv_rw2:∀a < 32,∀b < 32,PyData.eqv (toPy (rw2 a)) (toPy (rw2 b))=decide (a=b):=by
  intro a ha b hb
  have e:=eqv_cr ha hb
  unfold rw2 toPy toPys toPys PyData.eqv PyData.eqvAll PyData.eqvAll
  have:toPy (.int ((mi a).length:Int)) = .int ((mi a).length:Int):=rfl
  rw [show toPys [] = [] from rfl,e]
  by_cases h:a=b
  · subst h
    simp [PyData.eqvAll,PyData.eqv,toPy]
  · rw [decide_eq_false h]
    simp
theorem eqvAll_map {g:Nat→D}:∀ {ms qs:List Nat},(∀a∈ms,∀b∈qs,PyData.eqv (toPy (g a)) (toPy (g b))=decide (a=b))→PyData.eqvAll (toPys (ms.map g)) (toPys (qs.map g))=decide (ms=qs)
  | [],[],_=>by simp [toPys,PyData.eqvAll]
  | [],b::qs,_=>by rw [List.map_cons]; unfold toPys; simp [toPys,PyData.eqvAll]
  | a::ms,[],_=>by rw [List.map_cons]; unfold toPys; simp [toPys,PyData.eqvAll]
  | a::ms,b::qs,h=>by
    rw [List.map_cons,List.map_cons]
    unfold toPys PyData.eqvAll
    rw [h a List.mem_cons_self b List.mem_cons_self,eqvAll_map fun x hx y hy=>h x (List.mem_cons_of_mem _ hx) y (List.mem_cons_of_mem _ hy),Bool.eq_iff_iff]
    simp
theorem eqv_rows {ms qs:List Nat}(h1:∀a∈ms,a < 32)(h2:∀a∈qs,a < 32):PyData.eqv (toPy (.lst (ms.map rw2))) (toPy (.lst (qs.map rw2)))=decide (ms=qs):=by
  unfold toPy PyData.eqv
  exact eqvAll_map fun a ha b hb=>eqv_rw2 a (h1 a ha) b (h2 b hb)
end V
namespace DL
open PySem PySem.Spec L2
theorem blk_fg {X:Cx}{sts:List Stmt}{δ δ1:List En}{P:D→Prop}{b:Bool}(i:Nat)(h:Blk X sts δ (if b=true then .rt P else .nx δ1)):Blk X sts δ (if b=true then .rt P else .nx (δ1.set i .no)):=by
  cases b with
  | true=>exact h
  | false=>exact Blk.forget i h
end DL
namespace V
open PySem PySem.Spec L2 DL Mth
def dueP (t:Str)(d:D):Prop:=(∃n ms,Good t n ms∧d = .tup [.int (n:Nat),crs ms])∨((∀n ms,¬ Good t n ms)∧d = .non)
theorem plain_dO {o:Option Nat}(h:∀a,o=some a→a < 32):plainD 1 (dO o)=true:=by
  cases o with
  | none=>rfl
  | some a=>exact plain_cr a (h a rfl)
theorem eqv_dO (o:Option Nat):PyData.eqv (toPy (dO o)) (toPy .non)=o.isNone:=by
  cases o with
  | none=>rfl
  | some a =>
    show PyData.eqv (toPy (cr a)) (toPy .non)=false
    rw [toPy_cr]
    rfl
theorem any_dO {α:Type}(g:α→Option Nat):∀ws:List α,((toPys (ws.map fun w=>dO (g w))).any fun y=>PyData.eqv y (toPy .non))=ws.any fun w=>(g w).isNone
  | []=>rfl
  | w::ws=>by
    rw [List.map_cons]
    unfold toPys
    rw [List.any_cons,List.any_cons,eqv_dO,any_dO g ws]
theorem plains_dO {α:Type}{g:α→Option Nat}:∀ {ws:List α},(∀w∈ws,∀a,g w=some a→a < 32)→plainDs 1 (ws.map fun w=>dO (g w))=true
  | [],_=>by rw [List.map_nil]; unfold plainDs; rfl
  | w::ws,h=>by
    rw [List.map_cons]
    unfold plainDs
    rw [plain_dO (h w List.mem_cons_self),plains_dO fun b hb=>h b (List.mem_cons_of_mem _ hb)]
    rfl
section
variable {P:Program}{w:World}{K:PySem.W.Frag}{mg:Str→Option Value}{base:Heap}{f:Addr}{fd:FuncData}{C CV CN CS CB:Addr}
abbrev pLDue (P:Program)(w:World)(K:PySem.W.Frag)(mg:Str→Option Value)(base:Heap):Prop:=PFn P w K mg base "_law_due" 3 aStr Small dueP
theorem scLawDue:FnScope ["text", "many", "crowds", "rows", "one", "other"] ["text"] (defScope sLawDue):=⟨rfl,rfl,rfl,by decide +kernel,rfl,by decide +kernel,by decide +kernel⟩
theorem d_ldue (F:Fun K "_law_due" "_law_due" sLawDue f fd)(B:Blt mg)(Fc:pLCrowd P w K mg base)(Fi:pIn P w K mg base):FnOk P w K mg base CX0 3 f fd ["text"] (PureSp K aStr Small dueP):=by
  refine fn_pure F scLawDue (fun _=>rfl) fun cdv A outer s H E hr t ⟨hl,hcm⟩=>?_
  have hr1:Room 1 _:=hr.mono (by decide)
  have hr2:Room 2 _:=hr
  have no:(∀n ms,¬ Good t n ms)→∀d,d=D.non→dueP t d:=fun h d e=>.inr ⟨h,e⟩
  cases htst:(decide (Txt.slice t none (some ((1:Nat):Int)) = "") || (!inS (Txt.slice t none (some ((1:Nat):Int))) "12345" || !decide (Txt.slice t (some ((1:Nat):Int)) (some ((2:Nat):Int)) = ":"))) with
  | true =>
    refine Blk.imp (blk_rt (st_ifT (EvT.cast (et_or3 (et_eqT (ev_slS (ev_var 0) eo_none (eo_some ev_int) (by omega)) ev_str) (fun _=>et_ninS (ev_slS (ev_var 0) eo_none (eo_some ev_int) (by omega)) ev_str) (fun _ _=>et_neT (ev_slS (ev_var 0) (eo_some ev_int) (eo_some ev_int) (by omega)) ev_str)) htst) (blk_rt (st_retE ev_non)))) (no fun n ms g=>?_)
    obtain ⟨⟨g1,g2⟩,g3,g4,g5⟩:=g
    rw [(head_ok g1 g2 (r:=rst ms) g5).1] at htst
    cases htst
  | false =>
    obtain ⟨n,h1,h5,ht⟩:=head_tst t htst
    obtain ⟨_,hs1,_⟩:=head_ok h1 h5 ht
    refine blk_cons (st_skip (EvT.cast (et_or3 (et_eqT (ev_slS (ev_var 0) eo_none (eo_some ev_int) (by omega)) ev_str) (fun _=>et_ninS (ev_slS (ev_var 0) eo_none (eo_some ev_int) (by omega)) ev_str) (fun _ _=>et_neT (ev_slS (ev_var 0) (eo_some ev_int) (eo_some ev_int) (by omega)) ev_str)) htst)) ?_
    have c5:C5 n:=⟨h1,h5⟩
    refine blk_set 1 (d:=.int (n:Nat)) (ev_index ev_str (Ev.cast (ev_slS (ev_var 0) eo_none (eo_some ev_int) (by omega)) (congrArg D.str hs1)) (dig_ix6 n (by omega))) ?_ scLawDue.nd
    have hsl:=Txt.slice_le t (some 2) none
    have hcnt:(cp (Txt.slice t (some 2) none)).count 44≤50:=by
      have e:cp (Txt.slice t (some 2) none)=(cp t).drop 2:=sl_from t 2
      rw [e]
      exact Nat.le_trans (List.Sublist.count_le _ (List.drop_sublist _ _)) hcm
    generalize hrr:Txt.slice t (some 2) none=r at ht hsl hcnt
    by_cases hr0:r = ""
    · refine Blk.imp (blk_rt (st_ifT (EvT.cast (et_eqT (Ev.cast (ev_slS (ev_var 0) (eo_some ev_int) eo_none (by omega)) (congrArg D.str hrr)) ev_str) (decide_eq_true hr0)) (blk_rt (st_retE (ev_tup (ea2 (ev_var 1) (Ev.cast (d:=.lst []) (ev_lst ea_nil) rfl)) (by simp)))))) fun d hd=>.inl ⟨n,[],⟨c5,fun _ z=>(by cases z),due_same h5 (fun _ z=>by cases z) .nil (fun _ z=>by cases z),?_⟩,hd⟩
      · rw [ht,hr0]
        unfold txt
        rw [rst_nil]
    refine blk_cons (st_skip (EvT.cast (et_eqT (Ev.cast (ev_slS (ev_var 0) (eo_some ev_int) eo_none (by omega)) (congrArg D.str hrr)) ev_str) (decide_eq_false hr0))) ?_
    have hwl:=spl_cnt s44 r
    have hz:=spl_le r ","
    refine blk_map 2 (ds:=(Txt.split r ",").map fun w=>dO (lcr w n)) (ks:=Txt.split r ",") (g:=D.str) (f:=fun w=>dO (lcr w n)) cok weak_id (ei_lst (Ev.cast (ev_split (Ev.cast (ev_slS (ev_var 0) (eo_some ev_int) eo_none (by omega)) (congrArg D.str hrr)) ev_str (by decide) (by omega)) rfl)) (by omega) (fun v hv cl C s₀ H₀ fp=>ev_call Fc (v,n) hr2 (ea2 (ev_var 0) (ev_var 2)) ⟨by have:=spl_piece s44 hv; dsimp only; omega,c5⟩) rfl ?_ scLawDue.nd
    have hpl:plainD 2 (.lst ((Txt.split r ",").map fun w=>dO (lcr w n)))=true:=by unfold plainD; exact plains_dO fun v hv a ha=>lt32 h5 (lcr_some ha).1
    have hn2:noInss ((Txt.split r ",").map fun w=>dO (lcr w n))=true:=by have:=plain_no 2 _ hpl; unfold noIns at this; exact this
    have hc2:PyData.canLayAll0 (toPys ((Txt.split r ",").map fun w=>dO (lcr w n)))=true:=by have:=(plain_lay 2 _ hpl).1; unfold toPy PyData.canLay0 at this; exact this
    cases hany:(Txt.split r ",").any fun w=>(lcr w n).isNone with
    | true =>
      refine Blk.imp (blk_rt (st_ifT (et_inD (k:=true) (hu64 hr) ev_non (ev_var 2) rfl hn2 rfl hc2 (by decide) (by rw [any_dO]; exact hany)) (blk_rt (st_retE ev_non)))) (no fun m ms g=>?_)
      obtain ⟨rfl,hne,hw⟩:=good_ws h5 ht hr0 g
      obtain ⟨v,hv,hv2⟩:=List.any_eq_true.mp hany
      rw [hw] at hv
      obtain ⟨a,ha,rfl⟩:=List.mem_map.mp hv
      rw [lcr_pc h5 (g.2.1 a ha)] at hv2
      cases hv2
    | false =>
      refine blk_cons (st_skip (et_inD (k:=false) (hu64 hr) ev_non (ev_var 2) rfl hn2 rfl hc2 (by decide) (by rw [any_dO]; exact hany))) ?_
      obtain ⟨ms,hms⟩:∃ms:List Nat,(Txt.split r ",").map (fun w=>lcr w n)=ms.map some:=by
        refine ⟨(Txt.split r ",").map fun w=>(lcr w n).getD 0,?_⟩
        rw [List.map_map]
        refine List.map_congr_left fun v hv=>?_
        have:=List.any_eq_false.mp hany v hv
        cases q:lcr v n with
        | none=>rw [q] at this; exact absurd rfl this
        | some a=>simp [q]
      obtain ⟨hw,hlt⟩:=lcr_map hms
      have hlt32:∀a∈ms,a < 32:=fun a ha=>lt32 h5 (hlt a ha)
      have hml:ms.length≤51:=by
        have:=congrArg List.length hw
        rw [List.length_map] at this
        omega
      have hcr:((Txt.split r ",").map fun w=>dO (lcr w n))=ms.map cr:=by
        have:=congrArg (List.map dO) hms
        rw [List.map_map,List.map_map] at this
        exact this
      rw [hcr]
      have htx:t=txt n ms:=by rw [ht,ws_rst hw]; rfl
      have uniq:∀m qs,Good t m qs→m=n∧qs=ms:=fun m qs g=>by
        obtain ⟨rfl,hne,hw'⟩:=good_ws h5 ht hr0 g
        exact ⟨rfl,(pcs_inj hlt32 (fun a ha=>lt32 h5 (g.2.1 a ha)) (hw.symm.trans hw')).symm⟩
      refine blk_map 3 (ds:=ms.map rw2) (ks:=ms) (g:=cr) (f:=rw2) cok weak_id (ei_lst (ev_var 2)) (by omega) (fun a ha cl C s₀ H₀ fp=>Ev.cast (ev_tup (ea2 (ev_lenT (ev_var 0) B.len) (ev_var 0)) (by simp)) (by rw [List.length_map])) rfl ?_ scLawDue.nd
      have hsl32:∀a∈srd n ms,a < 32:=fun a ha=>hlt32 a ((srd_mem h5 hlt a).mp ha)
      by_cases hso:ms=srd n ms
      rotate_left
      · refine Blk.imp (blk_rt (st_ifT (EvT.cast (et_neD (k:=false) (hu64 hr) (ev_var 3) (ev_sortedSetR (cs:=ms) (qs:=srd n ms) (g:=rw2) (ev_var 3) hr1 (fun a _=>rw2_kd a) hlt32 (fun a=>srd_mem h5 hlt a) (srd_up n ms) B.srt B.set) (plain_no 3 _ (plain_rows hlt32)) (plain_no 3 _ (plain_rows hsl32)) (plain_shaped (plain_rows hlt32) (by decide)) (plain_shaped (plain_rows hsl32) (by decide)) (by rw [eqv_rows hlt32 hsl32]; exact decide_eq_false hso)) rfl) (blk_rt (st_retE ev_non)))) (no fun m qs g=>?_)
        obtain ⟨rfl,rfl⟩:=uniq m qs g
        exact hso (sorted_ext (good_up g.2.2.1) (List.pairwise_map.mp (srd_up m qs)) fun a=>(srd_mem h5 hlt a).symm)
      refine blk_cons (st_skip (EvT.cast (et_neD (k:=true) (hu64 hr) (ev_var 3) (ev_sortedSetR (cs:=ms) (qs:=srd n ms) (g:=rw2) (ev_var 3) hr1 (fun a _=>rw2_kd a) hlt32 (fun a=>srd_mem h5 hlt a) (srd_up n ms) B.srt B.set) (plain_no 3 _ (plain_rows hlt32)) (plain_no 3 _ (plain_rows hsl32)) (plain_shaped (plain_rows hlt32) (by decide)) (plain_shaped (plain_rows hsl32) (by decide)) (by rw [eqv_rows hlt32 hsl32]; exact decide_eq_true hso)) rfl)) ?_
      have hup:ms.Pairwise fun a b=>rk a < rk b:=by rw [hso]; exact List.pairwise_map.mp (srd_up n ms)
      refine blk_searchR (b:=ms.any fun a=>ms.any fun b=>!decide (a=b) && sub a b) (R':=(· = .non)) (st_search (P:=(· = .non)) (q:=fun a=>ms.any fun b=>!decide (a=b) && sub a b) 4 (ks:=ms) (g:=cr) (ei_lst (ev_var 2)) (fun a ha=>?_) rfl scLawDue.nd) (fun hb=>no fun m qs g=>?_) fun hb=>?_
      · have ha32:=hlt32 a ha
        refine Blk.oc (blk_fg (δ1:=[.da (.str t),.da (.int (n:Nat)),.da (crs ms),.da (.lst (ms.map rw2)),.da (cr a),.no]) 4 (blk_one (st_search (P:=(· = D.non)) (q:=fun b=>!decide (a=b) && sub a b) 5 (ks:=ms) (g:=cr) (ei_lst (ev_var 2)) (fun b hbm=>?_) rfl scLawDue.nd))) rfl
        have hb32:=hlt32 b hbm
        cases hq:(!decide (a=b) && sub a b) with
        | true =>
          rw [if_pos rfl]
          exact blk_rt (st_ifT (EvT.cast (et_and (et_neD (k:=decide (a=b)) (hu64 hr) (ev_var 4) (ev_var 5) (noIns_cr _) (noIns_cr _) (shaped_cr _) (shaped_cr _) (eqv_cr ha32 hb32)) (fun _=>et_val (ev_call Fi (a,b) hr1 (ea2 (ev_var 4) (ev_var 5)) ⟨ha32,hb32⟩))) hq) (blk_rt (st_retE ev_non)))
        | false =>
          rw [if_neg Bool.false_ne_true]
          exact Blk.nxc (Blk.forget 5 (blk_one (st_skip (EvT.cast (et_and (et_neD (k:=decide (a=b)) (hu64 hr) (ev_var 4) (ev_var 5) (noIns_cr _) (noIns_cr _) (shaped_cr _) (shaped_cr _) (eqv_cr ha32 hb32)) (fun _=>et_val (ev_call Fi (a,b) hr1 (ea2 (ev_var 4) (ev_var 5)) ⟨ha32,hb32⟩))) hq)))) rfl
      · obtain ⟨rfl,rfl⟩:=uniq m qs g
        obtain ⟨a,ha,hq⟩:=List.any_eq_true.mp hb
        obtain ⟨b,hbm,hq⟩:=List.any_eq_true.mp hq
        rw [Bool.and_eq_true,Bool.not_eq_true',decide_eq_false_iff_not] at hq
        exact hq.1 (good_anti g.2.2.1 a ha b hbm hq.2)
      · refine Blk.imp (blk_rt (st_retE (ev_tup (ea2 (ev_var 1) (ev_var 2)) (by simp)))) fun d hd=>.inl ⟨n,ms,⟨c5,hlt,due_same h5 hlt hup fun a ha b hbm hs=>?_,htx⟩,hd⟩
        apply Classical.byContradiction
        intro hne
        have h1:=List.any_eq_false.mp hb a ha
        have h1:(ms.any fun b=>!decide (a=b) && sub a b)=false:=by simpa only [Bool.not_eq_true] using h1
        have h2:=List.any_eq_false.mp h1 b hbm
        rw [decide_eq_false hne,hs] at h2
        exact h2 rfl
end
end V
namespace V
open PySem PySem.Spec L2 DL Mth
structure BW (k l:Nat)(ws:List Str):Prop where
  few:ws.length≤k
  short:∀p∈ws,p.length≤l∧44 ∉ cp p
theorem BW.sub {k l j:Nat}{ws vs:List Str}(h:BW k l ws)(hs:∀p∈vs,p∈ws)(hl:vs.length≤j):BW j l vs:=⟨hl,fun p hp=>h.short p (hs p hp)⟩
theorem BW.app {k j l:Nat}{ws vs:List Str}(h:BW k l ws)(h':BW j l vs):BW (k+j) l (ws++vs):=⟨by rw [List.length_append]; have:=h.few; have:=h'.few; omega,fun p hp=>(List.mem_append.mp hp).elim (h.short p) (h'.short p)⟩
theorem BW.up {k l k' l':Nat}{ws:List Str}(h:BW k l ws)(h1:k≤k')(h2:l≤l'):BW k' l' ws:=⟨Nat.le_trans h.few h1,fun p hp=>⟨Nat.le_trans (h.short p hp).1 h2,(h.short p hp).2⟩⟩
theorem cutx_map {α β:Type}(f:α→β)(xs:List α)(l h:Option Int):cutD (xs.map f) l h=(cutD xs l h).map f:=by
  unfold cutD
  rw [List.length_map,List.map_take,List.map_drop]
theorem cutx_mem {α:Type}{xs:List α}{l h:Option Int}{x:α}(hx:x∈cutD xs l h):x∈xs:=List.mem_of_mem_drop (List.mem_of_mem_take hx)
theorem cut_to {α:Type}(xs:List α)(j:Nat):(cutD xs none (some (j:Int))).length≤min j xs.length:=by
  unfold cutD
  rw [HT.sIx_nat,HT.sIx_none,List.length_take]
  omega
theorem cut_from {α:Type}(xs:List α)(i:Nat):(cutD xs (some (i:Int)) none).length≤xs.length - i:=by
  unfold cutD
  rw [HT.sIx_nat,HT.sIx_none,List.length_take,List.length_drop]
  omega
theorem cut_mid {α:Type}(xs:List α)(i j:Nat):(cutD xs (some (i:Int)) (some (j:Int))).length≤j - i:=by
  unfold cutD
  rw [HT.sIx_nat,HT.sIx_nat,List.length_take,List.length_drop]
  omega
theorem jn_count {c:Nat}:∀ {ps:List (List Nat)},(∀p∈ps,c ∉ p)→(jn c ps).count c≤ps.length
  | [],_=>Nat.zero_le _
  | [p],h=>by
    show p.count c≤1
    rw [List.count_eq_zero.mpr (h p List.mem_cons_self)]
    exact Nat.zero_le _
  | p::q::r,h=>by
    show (p++c::jn c (q::r)).count c≤(q::r).length+1
    rw [List.count_append,List.count_cons_self,List.count_eq_zero.mpr (h p List.mem_cons_self)]
    have:=jn_count (c:=c) (ps:=q::r) fun x hx=>h x (List.mem_cons_of_mem _ hx)
    omega
theorem BW.join {k l:Nat}{ws:List Str}(h:BW k l ws):(Txt.join "," ws).length≤k * (l+1)∧(cp (Txt.join "," ws)).count 44≤k:=by
  have e:Txt.join "," ws=Str.join "," ws:=StrLaws.glued_eq_join "," ws
  rw [e]
  constructor
  · have:=glue_len "," (by decide) l ws fun t ht=>(h.short t ht).1
    exact Nat.le_trans this (Nat.mul_le_mul_right _ h.few)
  · have:cp (Str.join "," ws)=jn 44 (ws.map cp):=by rw [s44]; exact join_cps 44 ws
    rw [this]
    refine Nat.le_trans (jn_count fun p hp=>?_) (by rw [List.length_map]; exact h.few)
    obtain ⟨q,hq,rfl⟩:=List.mem_map.mp hp
    exact (h.short q hq).2
theorem BW.ok {k l:Nat}{ws:List Str}(h:BW k l ws)(hk:k≤1000)(hl:l≤100):JoinOk "," ws=true:=join_ok (by decide) (Nat.le_trans h.few hk) fun t ht=>Nat.le_trans (h.short t ht).1 hl
theorem spl_nil:Txt.split "" "," = [(("" : String):Str)]:=by decide +kernel
theorem bw_txt {m:Nat}{ms:List Nat}(hl:ms.length≤31)(h:∀a∈ms,a < 32):BW 32 10 (Txt.split (rst ms) ",")∧Txt.split (rst ms) "," ≠ []:=by
  by_cases h0:ms = []
  · subst h0
    rw [rst_nil,spl_nil]
    refine ⟨⟨by decide,fun p hp=>?_⟩,by simp⟩
    rw [List.mem_singleton.mp hp]
    decide +kernel
  · rw [spl_rst h0 h]
    refine ⟨⟨by rw [List.length_map]; omega,fun p hp=>?_⟩,by simpa using h0⟩
    obtain ⟨a,ha,rfl⟩:=List.mem_map.mp hp
    exact ⟨(pc_len a (h a ha)).2,(pc_free a (h a ha)).2⟩
theorem txt_small {m:Nat}{ms:List Nat}(hm:m≤5)(hl:ms.length≤31)(h:∀a∈ms,a < 32):(txt m ms).length≤343∧(cp (txt m ms)).count 44≤31:=by
  have hb:BW 31 10 (ms.map pc):=⟨by rw [List.length_map]; exact hl,fun p hp=>by
    obtain ⟨a,ha,rfl⟩:=List.mem_map.mp hp
    exact ⟨(pc_len a (h a ha)).2,(pc_free a (h a ha)).2⟩⟩
  obtain ⟨j1,j2⟩:=hb.join
  have j1:(rst ms).length≤31 * 11:=j1
  have j2:(cp (rst ms)).count 44≤31:=j2
  unfold txt
  rw [Str.length_append,hdt_len hm,txt_cp hm]
  refine ⟨by omega,?_⟩
  rw [List.count_cons,List.count_cons,if_neg (by simp),if_neg (by simp; omega)]
  omega
theorem cnt_drop (l:List Nat)(c i:Nat):(l.drop i).count c≤l.count c:=List.Sublist.count_le _ (List.drop_sublist _ _)
theorem cnt_cut (l:List Nat)(c i j:Nat)(h:i≤j):(l.take i).count c+(l.drop j).count c≤l.count c:=by
  have h1:l.count c=(l.take i).count c+(l.drop i).count c:=by rw [← List.count_append,List.take_append_drop]
  have h2:(l.drop j).count c≤(l.drop i).count c:=by
    have:l.drop j=(l.drop i).drop (j - i):=by rw [List.drop_drop]; congr 1; omega
    rw [this]
    exact cnt_drop _ _ _
  omega
theorem mid_small {T:Str}{S:Str}(h1:T.length≤343)(h2:(cp T).count 44≤31)(hS:S.length≤1){i j:Nat}(hij:i≤j):Small (Txt.slice T none (some (i:Int))++S++Txt.slice T (some (j:Int)) none):=by
  have hc:(cp S).count 44≤1:=Nat.le_trans List.count_le_length (by rw [cp_len]; exact hS)
  have hcut:=cnt_cut (cp T) 44 i j hij
  have a1:=Txt.slice_le T none (some (i:Int))
  have a2:=Txt.slice_le T (some (j:Int)) none
  unfold Small
  rw [Str.length_append,Str.length_append,cp_app,cp_app,sl_to,sl_from,List.count_append,List.count_append]
  exact ⟨by omega,by omega⟩
end V
namespace V
open PySem PySem.Spec L2 DL Mth
abbrev aSpo:(Nat×List Nat)×Int×Int×Int→List D:=fun i=>[.str (txt i.1.1 i.1.2),.int i.2.1,.int i.2.2.1,.int i.2.2.2]
def preSpo (i:(Nat×List Nat)×Int×Int×Int):Prop:=C5 i.1.1∧i.1.2.length≤31 ∧ ∀a∈i.1.2,a < 32
def qSm (d:D):Prop:=∃t,d = .str t∧Small t
abbrev NS:List Str:=["text", "way", "cell", "other", "signs", "sign", "at", "words", "spot", "ahead"]
section
variable {P:Program}{w:World}{K:PySem.W.Frag}{mg:Str→Option Value}{base:Heap}{f:Addr}{fd:FuncData}{C CV CN CS CB:Addr}
abbrev pLSpoiled (P:Program)(w:World)(K:PySem.W.Frag)(mg:Str→Option Value)(base:Heap):Prop:=PFn P w K mg base "_law_spoiled" 1 aSpo preSpo fun _ d=>qSm d
theorem scLawSpoiled:FnScope NS ["text", "way", "cell", "other"] (defScope sLawSpoiled):=⟨rfl,rfl,rfl,by decide +kernel,rfl,by decide +kernel,by decide +kernel⟩
variable {cdv:Value}{A:Around}{outer:List Env}{s:Shared}{H:Hp}{E:XK}{m:Nat}{ms:List Nat}{way ce ot:Int}{sg sn at' en:En}{k l spot:Nat}{ws:List Str}
abbrev XS (P:Program)(w:World)(K:PySem.W.Frag)(mg:Str→Option Value)(base:Heap)(f:Addr)(cdv:Value)(A:Around)(outer:List Env)(s:Shared)(H:Hp)(E:XK):Cx:=(cxOf CX0 P w K mg base NS "_law_spoiled" (defScope sLawSpoiled) f cdv A outer s H E).nox
abbrev eS (m:Nat)(ms:List Nat)(way ce ot:Int)(sg sn at' en:En)(spot:Nat)(ws:List Str):List En:=[.da (.str (txt m ms)),.da (.int way),.da (.int ce),.da (.int ot),sg,sn,at',.da (.lst (ws.map D.str)),.da (.int (spot:Nat)),en]
theorem spo_fin (hm:C5 m)(hl:ms.length≤31)(h32:∀a∈ms,a < 32)(hw:BW 40 13 ws):Blk (XS P w K mg base f cdv A outer s H E) ((defBody sLawSpoiled).drop 13) (eS m ms way ce ot sg sn at' en spot ws) (.rt qSm):=by
  obtain ⟨j1,j2⟩:=hw.join
  obtain ⟨t1,t2⟩:=txt_small hm.2 hl h32
  have a1:=Txt.slice_le (txt m ms) none (some ((2:Nat):Int))
  have hc:cp (Txt.slice (txt m ms) none (some ((2:Nat):Int))) = [48+m,58]:=by rw [sl_to]; unfold txt; rw [txt_cp hm.2]; rfl
  have hlen:(Txt.slice (txt m ms) none (some ((2:Nat):Int))).length=2:=by rw [← cp_len,hc]; rfl
  refine Blk.imp (blk_rt (st_retE (ev_addS (ev_slS (ev_var 0) eo_none (eo_some ev_int) (by omega)) (ev_join ev_str (ev_var 7) (hw.ok (by decide) (by decide))) ?_))) ?_
  · show (Txt.slice (txt m ms) none (some ((2:Nat):Int))).length+_≤_
    omega
  · rintro d rfl
    refine ⟨_,rfl,?_⟩
    show Small (Txt.slice (txt m ms) none (some ((2:Nat):Int))++Txt.join "," ws)
    unfold Small
    rw [Str.length_append,hlen,cp_app,hc,List.count_append,List.count_cons,List.count_cons,List.count_nil,if_neg (by simp),if_neg (by simp; omega)]
    omega
theorem spo_7 (hm:C5 m)(hl:ms.length≤31)(h32:∀a∈ms,a < 32)(hw:BW 38 10 ws)(hne:way=7→ws ≠ []):Blk (XS P w K mg base f cdv A outer s H E) ((defBody sLawSpoiled).drop 12) (eS m ms way ce ot sg sn at' en spot ws) (.rt qSm):=by
  by_cases h:way=7
  · have hn:=hne h
    obtain ⟨v,hv⟩:∃v,ws.getLast? = some v:=by
      cases q:ws.getLast? with
      | none=>exact absurd (List.getLast?_eq_none_iff.mp q) hn
      | some v=>exact ⟨v,rfl⟩
    have hvm:v∈ws:=List.mem_of_getLast? hv
    have hpos:0 < ws.length:=List.length_pos_iff.mpr hn
    have hat:atI (ws.map D.str) (-1)=some (.str v):=by
      unfold atI ixN
      rw [List.length_map,if_neg (by decide),if_pos (by omega)]
      show (ws.map D.str)[((-1:Int)+(ws.length:Int)).toNat]? = _
      rw [List.getLast?_eq_getElem?] at hv
      rw [show ((-1:Int)+(ws.length:Int)).toNat=ws.length - 1 by omega,List.getElem?_map,hv]
      rfl
    have hfew:=hw.few
    have hvs:=hw.short v hvm
    refine blk_cons (st_ifT (EvT.cast (et_eq (ev_var 1) ev_int) (decide_eq_true h)) (blk_set 7 (d:=.lst ((ws ++ [v ++ "+4"]).map D.str)) (Ev.cast (ev_catL (ev_var 7) (ev_lst (ea1 (ev_addS (ev_ixL (ev_var 7) (ev_neg ev_int) hat) ev_str ?_)) (by simp)) ?_) ?_) blk_nil scLawSpoiled.nd)) (spo_fin hm hl h32 ?_)
    · have:(("+4" : String):Str).length=2:=by decide
      omega
    · rw [List.length_map]
      show ws.length+1≤1000
      omega
    · rw [List.map_append]
      rfl
    · refine BW.up (BW.app (hw.up (Nat.le_refl _) (by decide:10≤13)) (⟨Nat.le_refl 1,fun p hp=>?_⟩:BW 1 13 [v ++ "+4"])) (by decide) (Nat.le_refl _)
      rw [List.mem_singleton.mp hp,Str.length_append,cp_app]
      have e1:(("+4" : String):Str).length=2:=by decide
      have e2:cp (("+4" : String):Str) = [43,52]:=by decide +kernel
      rw [e1,e2]
      refine ⟨by omega,fun z=>?_⟩
      rcases List.mem_append.mp z with z | z
      · exact hvs.2 z
      · simp at z
  · exact blk_cons (st_skip (EvT.cast (et_eq (ev_var 1) ev_int) (decide_eq_false h))) (spo_fin hm hl h32 (hw.up (by decide) (by decide)))
theorem spo_6 (hm:C5 m)(hl:ms.length≤31)(h32:∀a∈ms,a < 32)(hw:BW 37 10 ws)(hne:way=7→ws ≠ []):Blk (XS P w K mg base f cdv A outer s H E) ((defBody sLawSpoiled).drop 11) (eS m ms way ce ot sg sn at' en spot ws) (.rt qSm):=by
  by_cases h:way=6
  · have hfew:=hw.few
    have c1:=cut_to ws spot
    have c2:=cut_from ws (spot+1)
    refine blk_cons (st_ifT (EvT.cast (et_eq (ev_var 1) ev_int) (decide_eq_true h)) (blk_set 7 (d:=.lst ((cutD ws none (some (spot:Int))++cutD ws (some ((spot+1:Nat):Int)) none).map D.str)) (Ev.cast (ev_catL (ev_slL (ev_var 7) eo_none (eo_some (ev_var 8))) (ev_slL (ev_var 7) (eo_some (ev_add (ev_var 8) ev_int)) eo_none) ?_) ?_) blk_nil scLawSpoiled.nd)) (spo_7 hm hl h32 ?_ fun h7=>by omega)
    · rw [cutx_map,cutx_map,List.length_map,List.length_map]
      show _+(cutD ws (some ((spot+1:Nat):Int)) none).length≤_
      omega
    · rw [cutx_map,cutx_map,List.map_append]
      rfl
    · exact hw.sub (fun p hp=>(List.mem_append.mp hp).elim cutx_mem cutx_mem) (by rw [List.length_append]; omega)
  · exact blk_cons (st_skip (EvT.cast (et_eq (ev_var 1) ev_int) (decide_eq_false h))) (spo_7 hm hl h32 (hw.up (by decide) (by decide)) hne)
theorem spo_5 (hm:C5 m)(hl:ms.length≤31)(h32:∀a∈ms,a < 32)(hw:BW 35 10 ws)(hne:way=7→ws ≠ [])(h5:way=5→spot < ws.length):Blk (XS P w K mg base f cdv A outer s H E) ((defBody sLawSpoiled).drop 10) (eS m ms way ce ot sg sn at' en spot ws) (.rt qSm):=by
  by_cases h:way=5
  · have hfew:=hw.few
    have hsp:=h5 h
    have c1:=cut_to ws spot
    have c2:=cut_from ws (spot+1)
    have hat:atI (ws.map D.str) (spot:Int)=some (.str ws[spot]):=atI_nat (by rw [List.getElem?_map,List.getElem?_eq_getElem hsp]; rfl)
    refine blk_cons (st_ifT (EvT.cast (et_eq (ev_var 1) ev_int) (decide_eq_true h)) (blk_set 7 (d:=.lst ((cutD ws none (some (spot:Int)) ++ [ws[spot],ws[spot]]++cutD ws (some ((spot+1:Nat):Int)) none).map D.str)) (Ev.cast (ev_catL (ev_catL (ev_slL (ev_var 7) eo_none (eo_some (ev_var 8))) (ev_lst (ea2 (ev_ixL (ev_var 7) (ev_var 8) hat) (ev_ixL (ev_var 7) (ev_var 8) hat)) (by simp)) ?_) (ev_slL (ev_var 7) (eo_some (ev_add (ev_var 8) ev_int)) eo_none) ?_) ?_) blk_nil scLawSpoiled.nd)) (spo_6 hm hl h32 ?_ fun h7=>by omega)
    · rw [cutx_map,List.length_map]
      show _+2≤_
      omega
    · rw [cutx_map,cutx_map,List.length_append,List.length_map,List.length_map]
      show _+2+(cutD ws (some ((spot+1:Nat):Int)) none).length≤_
      omega
    · rw [cutx_map,cutx_map,List.map_append,List.map_append]
      rfl
    · refine hw.sub (fun p hp=>?_) (by rw [List.length_append,List.length_append]; show _+2+_≤_; omega)
      rcases List.mem_append.mp hp with hp | hp
      · rcases List.mem_append.mp hp with hp | hp
        · exact cutx_mem hp
        · have:p=ws[spot]:=by simpa using hp
          rw [this]
          exact List.getElem_mem hsp
      · exact cutx_mem hp
  · exact blk_cons (st_skip (EvT.cast (et_eq (ev_var 1) ev_int) (decide_eq_false h))) (spo_6 hm hl h32 (hw.up (by decide) (by decide)) hne)
theorem spo_8 (B:Blt mg)(hm:C5 m)(hl:ms.length≤31)(h32:∀a∈ms,a < 32)(hw:BW 35 10 ws)(hne:way=7→ws ≠ [])(h5:way=5→spot < ws.length):Blk (XS P w K mg base f cdv A outer s H E) ((defBody sLawSpoiled).drop 9) (eS m ms way ce ot sg sn at' en spot ws) (.rt qSm):=by
  by_cases h:way=8
  · have hfew:=hw.few
    refine blk_cons (st_ifT (EvT.cast (et_eq (ev_var 1) ev_int) (decide_eq_true h)) (blk_map 7 (ds:=ws.reverse.map D.str) (ks:=ws.reverse) (g:=D.str) (f:=D.str) cok weak_id (by rw [List.map_reverse]; exact ei_rev (ev_var 7) B.rev) (by rw [List.length_reverse]; omega) (fun v hv cl C s₀ H₀ fp=>ev_var 0) rfl blk_nil scLawSpoiled.nd)) (spo_5 hm hl h32 (hw.sub (fun p hp=>List.mem_reverse.mp hp) (by rw [List.length_reverse]; exact hfew)) (fun h7=>by omega) fun h7=>by omega)
  · exact blk_cons (st_skip (EvT.cast (et_eq (ev_var 1) ev_int) (decide_eq_false h))) (spo_5 hm hl h32 hw hne h5)
theorem spo_4 (B:Blt mg)(hm:C5 m)(hl:ms.length≤31)(h32:∀a∈ms,a < 32)(hw:BW 32 10 ws)(hne:ws ≠ [])(h5:spot < ws.length):Blk (XS P w K mg base f cdv A outer s H E) ((defBody sLawSpoiled).drop 8) (eS m ms way ce ot sg sn at' .no spot ws) (.rt qSm):=by
  by_cases h:way=4
  · have hfew:=hw.few
    have c1:=cut_to ws spot
    have c2:=cut_mid ws (spot+1) (spot+2)
    have c3:=cut_mid ws spot (spot+1)
    have c4:=cut_from ws (spot+2)
    refine blk_cons (st_ifT (EvT.cast (et_eq (ev_var 1) ev_int) (decide_eq_true h)) (blk_set 9 (d:=.lst ((cutD ws none (some (spot:Int))++cutD ws (some ((spot+1:Nat):Int)) (some ((spot+2:Nat):Int))).map D.str)) (Ev.cast (ev_catL (ev_slL (ev_var 7) eo_none (eo_some (ev_var 8))) (ev_slL (ev_var 7) (eo_some (ev_add (ev_var 8) ev_int)) (eo_some (ev_add (ev_var 8) ev_int))) ?_) ?_) (blk_set 7 (d:=.lst ((cutD ws none (some (spot:Int))++cutD ws (some ((spot+1:Nat):Int)) (some ((spot+2:Nat):Int))++cutD ws (some (spot:Int)) (some ((spot+1:Nat):Int))++cutD ws (some ((spot+2:Nat):Int)) none).map D.str)) (Ev.cast (ev_catL (ev_catL (ev_var 9) (ev_slL (ev_var 7) (eo_some (ev_var 8)) (eo_some (ev_add (ev_var 8) ev_int))) ?_) (ev_slL (ev_var 7) (eo_some (ev_add (ev_var 8) ev_int)) eo_none) ?_) ?_) blk_nil scLawSpoiled.nd) scLawSpoiled.nd)) (spo_8 B hm hl h32 ?_ (fun h7=>by omega) fun h7=>by omega)
    · rw [cutx_map,cutx_map,List.length_map,List.length_map]
      show _+(cutD ws (some ((spot+1:Nat):Int)) (some ((spot+2:Nat):Int))).length≤_
      omega
    · rw [cutx_map,cutx_map,List.map_append]
      rfl
    · rw [cutx_map,List.length_map,List.length_map,List.length_append]
      show _+(cutD ws (some (spot:Int)) (some ((spot+1:Nat):Int))).length≤_
      omega
    · rw [cutx_map,cutx_map,List.length_append,List.length_map,List.length_map,List.length_map,List.length_append]
      show _+(cutD ws (some (spot:Int)) (some ((spot+1:Nat):Int))).length+(cutD ws (some ((spot+2:Nat):Int)) none).length≤_
      omega
    · rw [cutx_map,cutx_map,List.map_append,List.map_append,List.map_append,List.map_append]
      rfl
    · refine hw.sub (fun p hp=>?_) (by rw [List.length_append,List.length_append,List.length_append]; omega)
      rcases List.mem_append.mp hp with hp | hp
      · rcases List.mem_append.mp hp with hp | hp
        · rcases List.mem_append.mp hp with hp | hp
          · exact cutx_mem hp
          · exact cutx_mem hp
        · exact cutx_mem hp
      · exact cutx_mem hp
  · exact blk_cons (st_skip (EvT.cast (et_eq (ev_var 1) ev_int) (decide_eq_false h))) (spo_8 B hm hl h32 (hw.up (by decide) (by decide)) (fun _=>hne) fun _=>h5)
end
section
variable {P:Program}{w:World}{K:PySem.W.Frag}{mg:Str→Option Value}{base:Heap}{f:Addr}{fd:FuncData}
theorem d_lspoiled (F:Fun K "_law_spoiled" "_law_spoiled" sLawSpoiled f fd)(B:Blt mg):FnOk P w K mg base CX0 1 f fd ["text", "way", "cell", "other"] (PureSp K aSpo preSpo fun _ d=>qSm d):=by
  refine fn_pure F scLawSpoiled (fun _=>rfl) fun cdv A outer s H E hr ⟨⟨m,ms⟩,way,ce,ot⟩ ⟨hm,hl,h32⟩=>?_
  dsimp only at hm hl h32
  obtain ⟨t1,t2⟩:=txt_small hm.2 hl h32
  have o0:0≤ot % 18:=Int.emod_nonneg _ (by decide)
  have o1:ot % 18 < 18:=Int.emod_lt_of_pos _ (by decide)
  have e18:(("0123456789+, :-_a\n" : String):Str).length=18:=by decide +kernel
  obtain ⟨c,hc⟩:=StrLaws.some_at (x:=(("0123456789+, :-_a\n" : String):Str)) o0 (by rw [e18]; exact o1)
  show Blk (XS P w K mg base f cdv A outer s H E) (defBody sLawSpoiled) [.da (.str (txt m ms)),.da (.int way),.da (.int ce),.da (.int ot),.no,.no,.no,.no,.no,.no] (.rt qSm)
  refine blk_set 4 (d:=.str "0123456789+, :-_a\n") ev_str ?_ scLawSpoiled.nd
  refine blk_set 5 (d:=.str ⟨#[c]⟩) (ev_ixS (ev_var 4) (ev_mod (ev_var 3) ev_int) o0 (by rw [e18]; exact o1) (by rw [e18]; decide) hc) ?_ scLawSpoiled.nd
  have a0:0≤ce % (((txt m ms).length:Int)+1):=Int.emod_nonneg _ (by omega)
  have a1:ce % (((txt m ms).length:Int)+1) < ((txt m ms).length:Int)+1:=Int.emod_lt_of_pos _ (by omega)
  obtain ⟨at',hat⟩:∃n:Nat,ce % (((txt m ms).length:Int)+1)=(n:Int):=⟨_,(Int.toNat_of_nonneg a0).symm⟩
  refine blk_set 6 (d:=.int (at':Nat)) (Ev.cast (ev_mod (ev_var 2) (ev_add (ev_lenS (ev_var 0) (by omega) B.len) ev_int) (by omega)) (congrArg D.int hat)) ?_ scLawSpoiled.nd
  have hrs:Txt.slice (txt m ms) (some ((2:Nat):Int)) none=rst ms:=by rw [eq_cp,sl_from]; unfold txt; rw [txt_cp hm.2]; rfl
  obtain ⟨bw,bne⟩:=bw_txt (m:=m) hl h32
  have hrl:(rst ms).length≤343:=by have:=Txt.slice_le (txt m ms) (some ((2:Nat):Int)) none; rw [hrs] at this; omega
  refine blk_set 7 (d:=.lst ((Txt.split (rst ms) ",").map D.str)) (ev_split (Ev.cast (ev_slS (ev_var 0) (eo_some ev_int) eo_none (by omega)) (congrArg D.str hrs)) ev_str (by decide) (by omega)) ?_ scLawSpoiled.nd
  have hpos:0 < (Txt.split (rst ms) ",").length:=List.length_pos_iff.mpr bne
  have s0:0≤ce % ((Txt.split (rst ms) ",").length:Int):=Int.emod_nonneg _ (by omega)
  have s1:ce % ((Txt.split (rst ms) ",").length:Int) < ((Txt.split (rst ms) ",").length:Int):=Int.emod_lt_of_pos _ (by omega)
  obtain ⟨sp,hsp⟩:∃n:Nat,ce % ((Txt.split (rst ms) ",").length:Int)=(n:Int):=⟨_,(Int.toNat_of_nonneg s0).symm⟩
  refine blk_set 8 (d:=.int (sp:Nat)) (Ev.cast (ev_mod (ev_var 2) (ev_lenL (ev_var 7) B.len) (by rw [List.length_map]; omega)) (by rw [List.length_map]; exact congrArg D.int hsp)) ?_ scLawSpoiled.nd
  have sl1:=Txt.slice_le (txt m ms) none (some (at':Int))
  have sl2:=Txt.slice_le (txt m ms) (some (at':Int)) none
  have sl3:=Txt.slice_le (txt m ms) (some ((at'+1:Nat):Int)) none
  have l1:(⟨#[c]⟩:Str).length=1:=rfl
  by_cases w1:way=1
  · refine Blk.imp (blk_rt (st_ifT (EvT.cast (et_eq (ev_var 1) ev_int) (decide_eq_true w1)) (blk_rt (st_retE (ev_addS (ev_addS (ev_slS (ev_var 0) eo_none (eo_some (ev_var 6)) (by omega)) (ev_var 5) (by rw [l1]; omega)) (ev_slS (ev_var 0) (eo_some (ev_var 6)) eo_none (by omega)) (by rw [Str.length_append,l1]; omega)))))) ?_
    rintro d rfl
    exact ⟨_,rfl,mid_small t1 t2 (by rw [l1]; decide) (Nat.le_refl _)⟩
  refine blk_cons (st_skip (EvT.cast (et_eq (ev_var 1) ev_int) (decide_eq_false w1))) ?_
  by_cases w2:way=2
  · refine Blk.imp (blk_rt (st_ifT (EvT.cast (et_eq (ev_var 1) ev_int) (decide_eq_true w2)) (blk_rt (st_retE (ev_addS (ev_addS (ev_slS (ev_var 0) eo_none (eo_some (ev_var 6)) (by omega)) (ev_var 5) (by rw [l1]; omega)) (ev_slS (ev_var 0) (eo_some (ev_add (ev_var 6) ev_int)) eo_none (by omega)) (by rw [Str.length_append,l1]; show _+1+(Txt.slice (txt m ms) (some ((at'+1:Nat):Int)) none).length≤_; omega)))))) ?_
    rintro d rfl
    exact ⟨_,rfl,mid_small (j:=at'+1) t1 t2 (by rw [l1]; decide) (Nat.le_succ _)⟩
  refine blk_cons (st_skip (EvT.cast (et_eq (ev_var 1) ev_int) (decide_eq_false w2))) ?_
  by_cases w3:way=3
  · refine Blk.imp (blk_rt (st_ifT (EvT.cast (et_eq (ev_var 1) ev_int) (decide_eq_true w3)) (blk_rt (st_retE (ev_addS (ev_slS (ev_var 0) eo_none (eo_some (ev_var 6)) (by omega)) (ev_slS (ev_var 0) (eo_some (ev_add (ev_var 6) ev_int)) eo_none (by omega)) (by show _+(Txt.slice (txt m ms) (some ((at'+1:Nat):Int)) none).length≤_; omega)))))) ?_
    rintro d rfl
    refine ⟨_,rfl,?_⟩
    have:=mid_small (T:=txt m ms) (S:=Str.empty) (i:=at') (j:=at'+1) t1 t2 (by decide) (Nat.le_succ _)
    rw [Str.append_empty] at this
    exact this
  refine blk_cons (st_skip (EvT.cast (et_eq (ev_var 1) ev_int) (decide_eq_false w3))) ?_
  exact spo_4 B hm hl h32 bw bne (by omega)
theorem scLawOdd:FnScope ["cell", "some"] ["cell"] (defScope sLawOdd):=⟨rfl,rfl,rfl,by decide +kernel,rfl,by decide +kernel,by decide +kernel⟩
end
end V
namespace V
open PySem PySem.Spec L2 DL Mth
section
variable {P:Program}{w:World}{K:PySem.W.Frag}{mg:Str→Option Value}{base:Heap}{f:Addr}{fd:FuncData}
theorem scTold:FnScope ["script", "start", "many", "way", "size", "left_out", "even", "some"] ["script", "start", "many"] (defScope sTold):=⟨rfl,rfl,rfl,by decide +kernel,rfl,by decide +kernel,by decide +kernel⟩
theorem d_told (F:Fun K "_law_told" "_law_told" sTold f fd)(B:Blt mg)(Fc:pCell P w K mg base)(Fb:pBits P w K mg base)(Fr:pCrowds P w K mg base)(Fs:pSome P w K mg base)(Fw:pWeighed P w K mg base):FnOk P w K mg base CX0 6 f fd ["script", "start", "many"] (PureSp K aTold (fun i=>C5 i.2.2) fun i d=>∃t,Crds i.2.2 t∧(cell i.1 i.2.1 % 5=1→Wtd i.2.2 t)∧d=crs t):=by
  refine fn_pure F scTold (fun _=>rfl) fun cdv A outer s H E hr ⟨ns,st,m⟩ hm=>?_
  have hr1:Room 1 _:=hr.mono (by decide)
  have hr2:Room 2 _:=hr.mono (by decide)
  have hr4:Room 4 _:=hr.mono (by decide)
  have hm5:m≤5:=hm.2
  refine blk_set 3 (ev_mod (ev_call Fc (ns,st) hr1 (ea2 (ev_var 0) (ev_var 1)) trivial) ev_int) ?_ scTold.nd
  dsimp only
  generalize cell ns st % 5=way
  by_cases h0:way=0
  · have x0:=md_nn (cell ns (st+1)) (n:=7) (by decide)
    have x1:=md_lt (cell ns (st+1)) (n:=7) (by decide)
    refine blk_rt (st_ifT (EvT.cast (et_eq (ev_var 3) ev_int) (decide_eq_true h0)) (blk_rt (st_ret (EvP.imp (ev_callP Fs (ns,st+2,m,(cell ns (st+1) % 7).toNat) hr2 (ea4 (ev_var 0) (ev_add (ev_var 1) ev_int) (ev_var 2) (Ev.cast (d':=.int (((cell ns (st+1) % 7).toNat:Nat):Int)) (ev_mod (ev_call Fc (ns,st+1) hr1 (ea2 (ev_var 0) (ev_add (ev_var 1) ev_int)) trivial) ev_int) (by rw [Int.toNat_of_nonneg x0]))) ⟨hm,by dsimp only; omega⟩) ?_))))
    rintro d ⟨t,h1,rfl⟩
    exact ⟨t,h1,fun z=>absurd z (by omega),rfl⟩
  refine blk_cons (st_skip (EvT.cast (et_eq (ev_var 3) ev_int) (decide_eq_false h0))) ?_
  by_cases h1:way=1
  · refine blk_rt (st_ifT (EvT.cast (et_eq (ev_var 3) ev_int) (decide_eq_true h1)) (blk_rt (st_ret (EvP.imp (ev_callP Fw (ns,st+2,m) hr (ea3 (ev_var 0) (ev_add (ev_var 1) ev_int) (ev_var 2)) hm) ?_))))
    rintro d ⟨t,h1,h2,rfl⟩
    exact ⟨t,h1,fun _=>h2,rfl⟩
  refine blk_cons (st_skip (EvT.cast (et_eq (ev_var 3) ev_int) (decide_eq_false h1))) ?_
  by_cases h3:way=3
  · refine blk_rt (st_ifT (EvT.cast (et_eq (ev_var 3) ev_int) (decide_eq_true h3)) ?_)
    have x0:=md_nn (cell ns (st+2)) (n:=1024) (by decide)
    have x1:=md_lt (cell ns (st+2)) (n:=1024) (by decide)
    refine blk_set 4 (ev_add ev_int (ev_mod (ev_call Fc (ns,st+1) hr1 (ea2 (ev_var 0) (ev_add (ev_var 1) ev_int)) trivial) ev_int)) ?_ scTold.nd
    generalize hsz:(2+cell ns (st+1) % 2:Int)=size
    refine blk_set 5 (ev_call Fb (cell ns (st+2) % 1024 * (if decide ((0:Int) < cell ns (st+3) % 3) then 1 else 0),10) hr1 (ea2 (ev_mul (ev_mod (ev_call Fc (ns,st+2) hr1 (ea2 (ev_var 0) (ev_add (ev_var 1) ev_int)) trivial) ev_int) (ev_intB (ev_gt (ev_mod (ev_call Fc (ns,st+3) hr1 (ea2 (ev_var 0) (ev_add (ev_var 1) ev_int)) trivial) ev_int) ev_int) B.int) (.inl ⟨by omega,by omega⟩)) ev_int) (by show 10≤10; decide)) ?_ scTold.nd
    generalize bits (cell ns (st+2) % 1024 * (if decide ((0:Int) < cell ns (st+3) % 3) then 1 else 0)) 10=lo
    refine blk_set 6 (ev_comp (ks:=cs m) (g:=cr) (f:=cr) (q:=fun a=>decide (((mi a).length:Int)=size)) cok weak_id (ei_lst (ev_call Fr m hr4 (ea1 (ev_var 2)) hm)) (by have:=cs_len m; omega) (fun a ha cl C s₀ H₀ fp=>ets_one (EvT.cast (et_eq (ev_lenT (ev_var 0) B.len) (ev_var 5)) (by rw [List.length_map]))) (fun a _ _ cl C s₀ H₀ fp=>ev_var 0)) ?_ scTold.nd
    have hev:∀a∈(cs m).filter (fun a=>decide (((mi a).length:Int)=size)),a < 2 ^ m:=fun a ha=>(cs_mem hm5).mp (List.mem_filter.mp ha).1
    have hel:((cs m).filter (fun a=>decide (((mi a).length:Int)=size))).length≤32:=Nat.le_trans (List.length_filter_le _ _) (cs_len m)
    generalize (cs m).filter (fun a=>decide (((mi a).length:Int)=size))=ev at hev hel
    refine Blk.imp (blk_rt (st_retE (ev_comp (ks:=List.range ev.length) (g:=fun (k:Nat)=>D.int (k:Int)) (f:=fun k=>cr (ev.getD k 0)) (q:=fun (k:Nat)=>!lo.contains (k:Int)) cok weak_id (ei_range (n:=ev.length) (Ev.cast (ev_lenL (ev_var 6) B.len) (by rw [List.length_map])) B.range (by omega)) (by rw [List.length_range]; omega) (fun k hk cl C s₀ H₀ fp=>ets_one (et_ninT (ev_var 0) (ev_var 6))) (fun k hk _ cl C s₀ H₀ fp=>ev_ixL (ev_var 7) (ev_var 0) (atI_nat ?_))))) ?_
    · have hk':=List.mem_range.mp hk
      rw [List.getElem?_map,List.getElem?_eq_getElem hk',List.getD_eq_getElem?_getD,List.getElem?_eq_getElem hk']
      rfl
    · rintro d rfl
      refine ⟨((List.range ev.length).filter fun (k:Nat)=>!lo.contains (k:Int)).map fun k=>ev.getD k 0,⟨?_,fun a ha=>?_⟩,fun z=>absurd z (by omega),crs_map _ _⟩
      · rw [List.length_map]
        exact Nat.le_trans (List.length_filter_le _ _) (by rw [List.length_range]; exact hel)
      · obtain ⟨k,hk,rfl⟩:=List.mem_map.mp ha
        have hk':=List.mem_range.mp (List.mem_filter.mp hk).1
        refine hev _ ?_
        rw [List.getD_eq_getElem?_getD,List.getElem?_eq_getElem hk']
        exact List.getElem_mem hk'
  refine blk_cons (st_skip (EvT.cast (et_eq (ev_var 3) ev_int) (decide_eq_false h3))) ?_
  have x0:=md_nn (cell ns (st+1)) (n:=6) (by decide)
  have x1:=md_lt (cell ns (st+1)) (n:=6) (by decide)
  refine blk_setP 7 (ev_callP Fs (ns,st+2,m,(2+cell ns (st+1) % 6).toNat) hr2 (ea4 (ev_var 0) (ev_add (ev_var 1) ev_int) (ev_var 2) (Ev.cast (d':=.int (((2+cell ns (st+1) % 6).toNat:Nat):Int)) (ev_add ev_int (ev_mod (ev_call Fc (ns,st+1) hr1 (ea2 (ev_var 0) (ev_add (ev_var 1) ev_int)) trivial) ev_int)) (by rw [Int.toNat_of_nonneg (by omega)]))) ⟨hm,by dsimp only; omega⟩) ?_ scTold.nd
  rintro d ⟨t,⟨hl,ht⟩,rfl⟩
  dsimp only at hl ht
  refine Blk.imp (blk_rt (st_retE (ev_comp (ks:=t) (g:=cr) (f:=cr) (q:=fun a=>decide ((1:Int) < ((mi a).length:Int)) || decide (way=2)) cok weak_id (ei_lst (ev_var 7)) (by omega) (fun a ha cl C s₀ H₀ fp=>ets_one (et_or (EvT.cast (et_gt (ev_lenT (ev_var 0) B.len) ev_int) (by rw [List.length_map])) (fun _=>et_eq (ev_var 4) ev_int))) (fun k _ _ cl C s₀ H₀ fp=>ev_var 0)))) ?_
  rintro d rfl
  exact ⟨t.filter fun a=>decide ((1:Int) < ((mi a).length:Int)) || decide (way=2),⟨Nat.le_trans (List.length_filter_le _ _) hl,fun a ha=>ht a (List.mem_filter.mp ha).1⟩,fun z=>absurd z (by omega),rfl⟩
theorem scLeast:FnScope ["told", "many", "carrying", "found", "crowd"] ["told", "many"] (defScope sLeast):=⟨rfl,rfl,rfl,by decide +kernel,rfl,by decide +kernel,by decide +kernel⟩
theorem d_least (F:Fun K "_law_least" "_law_least" sLeast f fd)(B:Blt mg)(Fr:pCrowds P w K mg base)(Fi:pIn P w K mg base)(Fc:pCarries P w K mg base):FnOk P w K mg base CX0 5 f fd ["told", "many"] (PureSp K aLeast (fun i=>i.1.length≤100∧(∀a∈i.1,a < 32)∧C5 i.2) fun i d=>d=crs (due i.1 i.2)):=by
  refine fn_pure F scLeast (fun _=>rfl) fun cdv A outer s H E hr ⟨t,m⟩ ⟨hl,ht,hm⟩=>?_
  dsimp only at hl ht hm
  have hr1:Room 1 _:=hr.mono (by decide)
  have hr2:Room 2 _:=hr.mono (by decide)
  have hm5:m≤5:=hm.2
  refine blk_comp (ks:=cs m) (g:=cr) (f:=cr) (q:=fun c=>car t c) 2 cok (weak_set 4 "_") (ei_lst (ev_call Fr m hr (ea1 (ev_var 1)) hm)) (by have:=cs_len m; omega) (fun c hc cl C s₀ H₀ fp=>ets_one (et_val (ev_call Fc (t,c) hr2 (ea2 (ev_var 1) (ev_var 0)) ⟨hl,ht,lt32 hm5 ((cs_mem hm5).mp hc)⟩))) (fun c _ _ cl C s₀ H₀ fp=>ev_var 0) ?_ scLeast.nd
  have hcs:∀a∈(cs m).filter (fun c=>car t c),a < 32:=fun a ha=>lt32 hm5 ((cs_mem hm5).mp (List.mem_filter.mp ha).1)
  have hcl:((cs m).filter fun c=>car t c).length≤32:=Nat.le_trans (List.length_filter_le _ _) (cs_len m)
  rw [due_eq]
  generalize (cs m).filter (fun c=>car t c)=cy at hcs hcl
  refine blk_own 3 ?_ scLeast.nd
  refine blk_cons (st_for 4 (fun j=>[.da (crs t),.da (.int m),.da (crs cy),.ow (((cy.take j).filter fun c=>decide ((cy.filter fun o=>!decide (o=c) && sub o c).length=0)).map cr),if j=0 then .no else .da (cr (cy.getD (j - 1) 0))]) (ei_lst (ev_var 2)) (by simp; rfl) (fun j d hd=>?_) rfl scLeast.nd) ?_
  · obtain ⟨hj,rfl⟩:=map_get hd
    have hz:(((cy.take j).filter fun c=>decide ((cy.filter fun o=>!decide (o=c) && sub o c).length=0)).map cr).length≤1000:=by
      rw [List.length_map]
      refine Nat.le_trans (List.length_filter_le _ _) ?_
      rw [List.length_take]; omega
    have hcj:cy[j] < 32:=hcs _ (List.getElem_mem hj)
    refine blk_one (st_if (EvT.cast (et_eq (ev_lenL (ev_comp (ks:=cy) (g:=cr) (f:=cr) (q:=fun o=>!decide (o=cy[j]) && sub o cy[j]) cok weak_id (ei_lst (ev_var 2)) (by omega) (fun o ho cl C s₀ H₀ fp=>ets_one (et_and (et_neD (hu64 hr) (ev_var 0) (ev_var 5) (noIns_cr _) (noIns_cr _) (shaped_cr _) (shaped_cr _) (eqv_cr (hcs o ho) hcj)) (fun _=>et_val (ev_call Fi (o,cy[j]) hr1 (ea2 (ev_var 0) (ev_var 5)) ⟨hcs o ho,hcj⟩)))) (fun c _ _ cl C s₀ H₀ fp=>ev_var 0)) B.len) ev_int) (d':=decide ((cy.filter fun o=>!decide (o=cy[j]) && sub o cy[j]).length=0)) (by rw [List.length_map]; simp)) (fun h=>Blk.nxc (blk_one (st_app 3 rfl (ev_var 4) hz)) ?_) (fun h=>blk_nil.nxc ?_))
    · simp only [List.set_cons_zero,List.set_cons_succ]
      rw [take_succ_filter _ _ _ hj,if_pos h,List.map_append]
      simp [List.getD_eq_getElem?_getD,List.getElem?_eq_getElem hj]
    · simp only [List.set_cons_zero,List.set_cons_succ]
      rw [take_succ_filter _ _ _ hj,if_neg (by rw [h]; decide),List.append_nil]
      simp [List.getD_eq_getElem?_getD,List.getElem?_eq_getElem hj]
  · refine blk_rt (st_retE (Ev.cast (ev_var 3) ?_))
    rw [List.length_map,List.take_length]
    rfl
end
end V
namespace V
open PySem PySem.Spec L2 DL Mth
section
variable {P:Program}{w:World}{K:PySem.W.Frag}{mg:Str→Option Value}{base:Heap}{f:Addr}{fd:FuncData}{C:Addr}
abbrev pLShown (P:Program)(w:World)(K:PySem.W.Frag)(mg:Str→Option Value)(base:Heap):Prop:=PFn P w K mg base "_law_shown" 6 aLeast (fun i=>i.1.length≤100∧(∀a∈i.1,a < 32)∧C5 i.2) fun i d=>d = .str (txt i.2 (due i.1 i.2))
theorem scLawShown:FnScope ["told", "many", "words", "crowd", "text", "k"] ["told", "many"] (defScope sLawShown):=⟨rfl,rfl,rfl,by decide +kernel,rfl,by decide +kernel,by decide +kernel⟩
theorem d_lshown (F:Fun K "_law_shown" "_law_shown" sLawShown f fd)(B:Blt mg)(Fl:pLeast P w K mg base):FnOk P w K mg base CX0 6 f fd ["told", "many"] (PureSp K aLeast (fun i=>i.1.length≤100∧(∀a∈i.1,a < 32)∧C5 i.2) fun i d=>d = .str (txt i.2 (due i.1 i.2))):=by
  refine fn_pure F scLawShown (fun _=>rfl) fun cdv A outer s H E hr ⟨t,m⟩ ⟨hl,ht,hm⟩=>?_
  dsimp only at hl ht hm
  have hr1:Room 1 _:=hr.mono (by decide)
  have hr5:Room 5 _:=hr.mono (by decide)
  have hm1:1≤m:=hm.1
  have hm5:m≤5:=hm.2
  have hq32:∀a∈due t m,a < 32:=due_lt32 hm5
  have hql:(due t m).length≤32:=due_len t m
  refine blk_own 2 ?_ scLawShown.nd
  refine blk_cons (st_for 3 (fun j=>[.da (crs t),.da (.int m),.ow (((due t m).take j).map fun a=>D.str (w0 a)),.no,.no,.no]) (ei_lst (ev_call Fl (t,m) hr5 (ea2 (ev_var 0) (ev_var 1)) ⟨hl,ht,hm⟩)) rfl (fun j d hd=>?_) rfl scLawShown.nd) ?_
  · obtain ⟨hj,rfl⟩:=map_get hd
    have ha:=hq32 _ (List.getElem_mem hj)
    have hlt:=mi_lt (m:=5) (by decide) ha
    refine Blk.nxc (Blk.forget 3 (blk_one (st_app 2 rfl (d:=.str (w0 (due t m)[j])) (ev_join (ts:=(mi (due t m)[j]).map sI) ev_str (Ev.cast (ev_map (ks:=mi (due t m)[j]) (g:=D.int) (f:=fun i=>D.str (sI i)) cok weak_id (ei_tup (ev_var 3)) (by have:=mi_len (a:=(due t m)[j]); omega) (fun i hi cl C s₀ H₀ fp=>ev_strI (ev_var 0) B.str (log_small (hlt i hi).1 (by have:=(hlt i hi).2; omega)))) (by rw [List.map_map]; rfl)) (w0_ok ha)) (by rw [List.length_map,List.length_take]; omega)))) ?_
    simp only [List.set_cons_zero,List.set_cons_succ]
    rw [List.take_add_one,List.getElem?_eq_getElem hj,List.map_append]
    rfl
  rw [List.length_map,List.take_length]
  generalize due t m=q at hq32 hql
  refine blk_set 4 (d:=.str (hdt m)) (ev_addS (x:=sI m) (ev_strI (ev_var 1) B.str (log_small (by omega) (by omega))) ev_str (by rw [sI_len (by omega) (by omega)]; decide)) ?_ scLawShown.nd
  have hlen:(q.map fun a=>D.str (w0 a)).length=q.length:=by rw [List.length_map]
  refine blk_cons (st_forO 5 (fun j=>[.da (crs t),.da (.int m),.ow (q.map fun a=>D.str (w0 a)),.no,.da (.str (hdt m++rst (q.take j))),.no]) (eif_range (n:=(q.map fun a=>D.str (w0 a)).length) (ev_lenL (ev_var 2) B.len) B.range (by rw [hlen]; omega)) ?_ (fun j d hd=>?_) rfl scLawShown.nd) ?_
  · rw [List.take_zero,rst_nil,show (("" : String):Str)=Str.empty from by decide +kernel,Str.append_empty]
    rfl
  · obtain ⟨hj,rfl⟩:=ups_get hd
    rw [hlen] at hj
    have ha:=hq32 _ (List.getElem_mem hj)
    have hat:atI (q.map fun a=>D.str (w0 a)) (j:Int)=some (.str (w0 q[j])):=atI_nat (by rw [List.getElem?_map,List.getElem?_eq_getElem hj]; rfl)
    have htl:(q.take j).length≤100:=by rw [List.length_take]; omega
    have ht32:∀a∈q.take j,a < 32:=fun a h=>hq32 a (List.mem_of_mem_take h)
    have hz:(hdt m++rst (q.take j)).length≤1102:=txt_len hm5 htl ht32
    have hw:=w0_len _ ha
    have hnil:q.take j = []↔j=0:=by
      constructor
      · intro z
        have:=congrArg List.length z
        rw [List.length_take,List.length_nil] at this
        omega
      · rintro rfl; rfl
    have c1:(("," : String):Str).length=1:=by decide
    have c2:((" " : String):Str).length=1:=by decide
    have c3:(("-" : String):Str).length=1:=by decide
    have hfin:=rst_step (hdt m) (q.take j) q[j]
    have etk:q.take j ++ [q[j]]=q.take (j+1):=by rw [List.take_add_one,List.getElem?_eq_getElem hj]; rfl
    rw [etk] at hfin
    obtain ⟨X1,hX1⟩:∃X1:Str,X1=if q.take j = [] then hdt m++rst (q.take j) else hdt m++rst (q.take j) ++ "," := ⟨_,rfl⟩
    have hX1l:X1.length≤1103:=by
      rw [hX1]
      split
      · omega
      · rw [Str.length_append,c1]; omega
    rw [← hX1] at hfin
    refine Blk.nxc (Blk.forget 5 (δ1:=[.da (crs t),.da (.int m),.ow (q.map fun a=>D.str (w0 a)),.no,.da (.str (hdt m++rst (q.take (j+1)))),.da (.int j)]) ?_) rfl
    refine blk_cons (δ':=[.da (crs t),.da (.int m),.ow (q.map fun a=>D.str (w0 a)),.no,.da (.str X1),.da (.int j)]) (st_if (et_gt (ev_var 5) ev_int) (fun h=>?_) (fun h=>?_)) ?_
    · have h:(0:Int) < j:=of_decide_eq_true h
      refine blk_set 4 (d:=.str X1) (Ev.cast (ev_addS (ev_var 4) ev_str (by rw [c1]; omega)) ?_) blk_nil scLawShown.nd
      rw [hX1,if_neg (fun z=>by have:=hnil.mp z; omega)]
    · have h:¬ (0:Int) < j:=of_decide_eq_false h
      refine Blk.nxc blk_nil ?_
      rw [hX1,if_pos (hnil.mpr (by omega))]
      rfl
    refine blk_setF 4 (d:=.str (X1 ++ " " ++ w0 q[j])) (ev_addS (ev_addS (ev_var 4) ev_str (by rw [c2]; omega)) (ev_ixL (ev_var 2) (ev_var 5) hat) (by rw [Str.length_append,c2]; omega)) rfl ?_ scLawShown.nd
    refine blk_one (st_if (et_eqT (ev_ixL (ev_var 2) (ev_var 5) hat) ev_str) (fun h=>?_) (fun h=>?_))
    · have h:w0 q[j] = "" := of_decide_eq_true h
      have h0:=(w0_nil _ ha).mp h
      refine blk_set 4 (d:=.str (hdt m++rst (q.take (j+1)))) (Ev.cast (ev_addS (ev_var 4) ev_str (by rw [Str.length_append,Str.length_append,c2,c3]; omega)) ?_) blk_nil scLawShown.nd
      rw [← hfin,if_pos h0]
    · have h:¬ w0 q[j] = "" := of_decide_eq_false h
      have h0:¬ q[j]=0:=fun z=>h ((w0_nil _ ha).mpr z)
      refine Blk.nxc blk_nil ?_
      rw [← hfin,if_neg h0,Str.append_empty]
      rfl
  · rw [ups_len,hlen,List.take_length]
    exact blk_rt (st_retE (ev_var 4))
end
end V
namespace DL
open PySem PySem.Spec PyProof.Rows L2 PySem.W PySem.Calls
section
variable {X:Cx}{δ:List (Option D)}{a b:Expr}{pos p:Pos}{C:Addr}{d:D}{y:Bool}{k}
theorem evz_tup2 (ha:Ev X a δ d)(hb:EvZ X b δ C y)(he:starEach [a,b] X.env = [(false,eval a X.env),(false,eval b X.env)]:=by rfl):EvZ X (.Tuple [a,b] k pos) δ C y:=fun σ H L pins s l r q I=>by
  refine wpAny_Tuple_spliced ?_
  rw [he]
  refine Calls.spliced_cons (thn (ha σ H L (fun v H1=>Same H H1) l r (fun v H1 g _=>g) pins s I) fun u s1 ⟨v,H1,I1,rv,g⟩=>?_)
  refine Calls.spliced_cons (wpAny_mono (hb σ H1 L pins s1 (l.same g) (r.same g) (q.mono g) I1) (fun _ _ z=>z.elim) fun _ _ z=>z)
theorem ev_ninD {d:D}{ds:List D}{k:Bool}(hu:X.A.units+64 < cLine)(ha:Ev X a δ d)(hb:Ev X b δ (.lst ds))(n1:noIns d=true)(n2:noInss ds=true)(c1:(toPy d).canLay0=true)(c2:PyData.canLayAll0 (toPys ds)=true)(dp:(toPy d).depth≤60)(hk:((toPys ds).any fun y=>PyData.eqv y (toPy d))=k)(hm:behindInMarks .NotIn b=false:=by with_unfolding_all rfl):Ev X (.Compare a [.NotIn] [b] pos) δ (.bl (!k)):=by
  have ho:OpR X (compareOp .NotIn) (fun x y H Q=>∃L,LOk L H∧Rep X.K H L d x∧Rep X.K H L (.lst ds) y∧Q (.bl (!k)) H):=by
    intro pins s σ H x y v u Q I rx ry h
    obtain ⟨L,l,r1,r2,q⟩:=h
    obtain ⟨as,ra⟩:=reads_of I n1 r1 rx
    obtain ⟨bs,rb⟩:=reads_of I (d:=.lst ds) (by unfold noIns; exact n2) r2 ry
    unfold toPy at rb
    refine SeqAt.notIn_list_reads rb ra c2 c1 (Nat.lt_of_le_of_lt (Nat.add_le_add_left (Nat.min_le_right _ _) _) (by omega)) ?_
    rw [hk]
    exact ⟨.bl _,H,I,rfl,q⟩
  exact ev_cmp2 ho ha hb hm fun x y H L Q l r1 r2 q=>⟨L,l,r1,r2,q _ H (.refl _) (rep_bl.mpr rfl)⟩
end
section
variable {X:Cx}{δ:List En}{e:Expr}{pos py:Pos}{x:Str}{C:Addr}{y:Bool}{rest:List Stmt}
theorem blkz_set (h:EvZ X e (opn δ) C y)(hs:swapsWith e (some (.Name x py)) pos.line X.env=pure false:=by rfl):BlkZ X (.Assign [.Name x py] e pos::rest) δ C y:=fun H0 L0 σ H L pins s l sr k I =>
  wpAny_execs_cons (wpAny_Assign_Name (wpAny_mono (h σ H L0 pins s (sr.lok0 l) (sr.opnR l) (k.mono sr.same) I) (fun _ _ z=>z.elim) fun _ _ z=>z) hs)
end
section
variable {Y:Cx}{j:Nat}{a:Addr}{e1 e2 e3:Expr}{δ:List (Option D)}{d1 d2:D}{ds:List D}{es:List Expr}{pos:Pos}{b:Bool}{k}
theorem evj_tup (h:EvJA Y j a es δ ds)(hz:ds.length≤1000:=by decide):EvJ Y j a (.Tuple es k pos) δ (.tup ds):=fun σ H L Q l r hj q=>by
  refine we_of (pe_tup pa_wa) (h σ H L _ l r hj fun vs H1 g rs=>⟨by rw [← rs.length]; exact Nat.le_of_lt (small1000 hz),fun p hp=>q _ _ (g.trans (same_upd hp)) (rep_tup.mpr ⟨p,vs,rfl,.of ((l.same g).fresh hp) upd_same,rs.same (same_upd hp)⟩)⟩)
theorem evj_and3 (h1:EvJ Y j a e1 δ (.bl true))(h2:EvJ Y j a e2 δ (.bl true))(h3:EvJ Y j a e3 δ (.bl b)):EvJ Y j a (.BoolOp .And [e1,e2,e3] pos) δ (.bl b):=fun σ H L Q l r hj q=>by
  refine we_of (pe_and pe_we (pe_and pe_we (pe_one pe_we))) (h1 σ H L _ l r hj fun v H1 g r1=>⟨true,rep_bl.mp r1,iteT (h2 σ H1 L _ (l.same g) (r.same g) hj fun v2 H2 g2 r2=>⟨true,rep_bl.mp r2,iteT (h3 σ H2 L _ ((l.same g).same g2) ((r.same g).same g2) hj fun v3 H3 g3 r3=>q v3 H3 ((g.trans g2).trans g3) r3)⟩)⟩)
end
end DL
namespace V
open PySem PySem.Spec L2 DL Mth
def odds:List Str:=["", ":", "3", "3: ", "0:", "6:", "6: 0", "3:0", "3: 1+0", "3: 0+0", "3: 0,1", "3: 0, 0+1", "3: -, 0", "3: 3", "03: 0", "3: 1+2, 0", "5: 0+1+2, 3+4"]
def oddT (c:Int):Str:=odds.getD (c % 17).toNat ""
theorem odds_small:∀t∈odds,t.length≤900∧(cp t).count 44≤50:=by decide +kernel
theorem odd_small (c:Int):Small (oddT c):=by
  unfold oddT
  rw [List.getD_eq_getElem?_getD]
  cases q:odds[(c % 17).toNat]? with
  | none=>exact ⟨by decide,by decide +kernel⟩
  | some t=>exact odds_small t (List.mem_of_getElem? q)
section
variable {P:Program}{w:World}{K:PySem.W.Frag}{mg:Str→Option Value}{base:Heap}{f:Addr}{fd:FuncData}{C CV CN:Addr}
abbrev pLOdd (P:Program)(w:World)(K:PySem.W.Frag)(mg:Str→Option Value)(base:Heap):Prop:=PFn P w K mg base "_law_odd" 1 aInt (fun _=>True) fun c d=>d = .str (oddT c)
theorem d_lodd (F:Fun K "_law_odd" "_law_odd" sLawOdd f fd):FnOk P w K mg base CX0 1 f fd ["cell"] (PureSp K aInt (fun _=>True) fun c d=>d = .str (oddT c)):=by
  refine fn_pure F scLawOdd (fun _=>rfl) fun cdv A outer s H E hr c _=>?_
  refine blk_set 1 (d:=.lst ((odds.take 10).map D.str)) (ev_lst (ea_cons ev_str (ea_cons ev_str (ea_cons ev_str (ea_cons ev_str (ea_cons ev_str (ea_cons ev_str (ea_cons ev_str (ea_cons ev_str (ea_cons ev_str (ea_cons ev_str ea_nil))))))))))) ?_ scLawOdd.nd
  refine blk_set 1 (d:=.lst (odds.map D.str)) (Ev.cast (ev_catL (ev_var 1) (ev_lst (ea_cons ev_str (ea_cons ev_str (ea_cons ev_str (ea_cons ev_str (ea_cons ev_str (ea_cons ev_str (ea_cons ev_str ea_nil)))))))) (by decide)) rfl) ?_ scLawOdd.nd
  have h0:0≤c % 17:=Int.emod_nonneg _ (by decide)
  have h1:c % 17 < 17:=Int.emod_lt_of_pos _ (by decide)
  refine blk_rt (st_retE (ev_ixL (ev_var 1) (ev_mod (ev_var 0) ev_int) ?_))
  obtain ⟨n,hn⟩:∃n:Nat,c % 17=(n:Int):=⟨_,(Int.toNat_of_nonneg h0).symm⟩
  unfold oddT
  rw [hn,Int.toNat_natCast]
  have hlt:n < odds.length:=by show n < 17; omega
  refine atI_nat ?_
  rw [List.getElem?_map,List.getD_eq_getElem?_getD,List.getElem?_eq_getElem hlt]
  rfl
end
end V
namespace V
open PySem PySem.Spec L2 DL Mth
section
variable {P:Program}{w:World}{K:PySem.W.Frag}{mg:Str→Option Value}{base:Heap}{f:Addr}{fd:FuncData}{C CV CN:Addr}
abbrev pTb1 (P:Program)(w:World)(K:PySem.W.Frag)(mg:Str→Option Value)(base:Heap)(C:Addr):Prop:=PFn P w K mg base "_law_told_by" 10 aTxt (fun i=>OkR i.1 i.2∧due i.1 i.2=i.1) fun i d=>d = .tup [.str "read",cns C i.2 i.1]
abbrev pTb2 (P:Program)(w:World)(K:PySem.W.Frag)(mg:Str→Option Value)(base:Heap):Prop:=PFn P w K mg base "_law_told_by" 10 aStr (fun t=>Small t ∧ ∀n ms,¬ Good t n ms) fun _ d=>d = .tup [.str "refused",.bl true]
theorem scLawToldBy:FnScope ["text", "found", "e", "flags"] ["text"] (defScope sLawToldBy):=⟨rfl,rfl,rfl,by decide +kernel,rfl,by decide +kernel,by decide +kernel⟩
theorem d_tb1 (F:Fun K "_law_told_by" "_law_told_by" sLawToldBy f fd)(Fr:pRead P w K mg base C):FnOk P w K mg base CX0 10 f fd ["text"] (PureSp K aTxt (fun i=>OkR i.1 i.2∧due i.1 i.2=i.1) fun i d=>d = .tup [.str "read",cns C i.2 i.1]):=by
  refine fn_pure F scLawToldBy (fun _=>rfl) fun cdv A outer s H E hr i hp=>?_
  refine blk_set 1 ev_non ?_ scLawToldBy.nd
  exact blk_cons (st_tryN fun E'=>blk_set 1 (d:=.tup [.str "read",cns C i.2 i.1]) (ev_tup (ea2 ev_str (ev_call Fr i hr (ea1 (ev_var 0)) hp)) (by simp)) blk_nil scLawToldBy.nd) (blk_rt (st_retE (ev_var 1)))
theorem d_tb2 (F:Fun K "_law_told_by" "_law_told_by" sLawToldBy f fd)(B:Blt mg)(R:lRead P w K mg base CN)(e:Err K mg "BadNote" CV CN)(i1:IsA K mg CN "Unlike" false)(i2:IsA K mg CN "BadSize" false)(i3:IsA K mg CN "BadWeights" false)(i4:IsA K mg CN "BadCrowd" false)(i5:IsA K mg CN "NoMember" false)(i6:IsA K mg CN "BadNote" true) :
    FnOk P w K mg base CX0 10 f fd ["text"] (PureSp K aStr (fun t=>Small t ∧ ∀n ms,¬ Good t n ms) fun _ d=>d = .tup [.str "refused",.bl true]):=by
  obtain ⟨C1,m1,k1⟩:=i1
  obtain ⟨C2,m2,k2⟩:=i2
  obtain ⟨C3,m3,k3⟩:=i3
  obtain ⟨C4,m4,k4⟩:=i4
  obtain ⟨C5',m5,k5⟩:=i5
  obtain ⟨C6,m6,k6⟩:=i6
  refine fn_pure F scLawToldBy (fun _=>rfl) fun cdv A outer s H E hr t hp=>?_
  refine blk_set 1 ev_non ?_ scLawToldBy.nd
  refine blk_cons (st_tryE (y:=true) (C:=CN) 2 e.t (fun E'=>?_) (δ':=[.da (.str t),.da (.tup [.str "refused",.bl true]),.no,.da (.lst [.bl false,.bl false,.bl false,.bl false,.bl false])]) (suite_of fun a oa hcl=>?_) ?_ ?_ scLawToldBy.nd rfl rfl) (blk_rt (st_retE (ev_var 1)))
  · exact blkz_set (evz_tup2 ev_str (evz_callL R t hr (ea1 (ev_var 0)) hp))
  · refine sj_set 3 (by decide) (evj_lst (evja_cons (evj_isi pn_last hcl e.i m1 k1 B.isi) (evja_cons (evj_isi pn_last hcl e.i m2 k2 B.isi) (evja_cons (evj_isi pn_last hcl e.i m3 k3 B.isi) (evja_cons (evj_isi pn_last hcl e.i m4 k4 B.isi) evja_nil)))) (by show 4≤1000; decide)) ?_ scLawToldBy.nd
    refine sj_set 3 (by decide) (evj_cat (evj_of (ev_var 3)) (evj_lst (evja_cons (evj_isi pn_last hcl e.i m5 k5 B.isi) evja_nil) (by show 1≤1000; decide)) (by show 4+1≤1000; decide)) ?_ scLawToldBy.nd
    exact sj_set 1 (by decide) (evj_tup (evja_cons (evj_of ev_str) (evja_cons (evj_and3 (evj_isi pn_last hcl e.i m6 k6 B.isi) (evj_isiB pn_last hcl e.i e.n boot_VE e.v B.isi) (evj_of (ev_ninD (k:=false) (ds:=[.bl false,.bl false,.bl false,.bl false,.bl false]) (by have h:=hu64 hr; exact h) ev_bl (ev_var 3) rfl rfl rfl rfl (by decide) rfl))) evja_nil)) (by show 2≤1000; decide)) sj_nil scLawToldBy.nd
  · intro e h; cases h; rfl
  · intro i ds h
    match i with
    | 0=>cases h
    | 1=>cases h
    | 2=>cases h
    | 3=>cases h
    | n+4=>cases h
end
end V
namespace V
open PySem PySem.Spec L2 DL Mth
def aRt1:List Nat×Nat→List D:=fun i=>[.str (txt i.2 i.1),.tup [.int i.2,crs i.1]]
abbrev aRt2:Str→List D:=fun t=>[.str t,.non]
section
variable {P:Program}{w:World}{K:PySem.W.Frag}{mg:Str→Option Value}{base:Heap}{f:Addr}{fd:FuncData}{C CV CN:Addr}
abbrev pRt1 (P:Program)(w:World)(K:PySem.W.Frag)(mg:Str→Option Value)(base:Heap):Prop:=PFn P w K mg base "_law_right" 11 aRt1 (fun i=>OkR i.1 i.2∧due i.1 i.2=i.1) fun _ d=>d = .bl true
abbrev pRt2 (P:Program)(w:World)(K:PySem.W.Frag)(mg:Str→Option Value)(base:Heap):Prop:=PFn P w K mg base "_law_right" 11 aRt2 (fun t=>Small t ∧ ∀n ms,¬ Good t n ms) fun _ d=>d = .bl true
theorem scLawRight:FnScope ["text", "due", "found"] ["text", "due"] (defScope sLawRight):=⟨rfl,rfl,rfl,by decide +kernel,rfl,by decide +kernel,by decide +kernel⟩
theorem d_rt2 (F:Fun K "_law_right" "_law_right" sLawRight f fd)(Ft:pTb2 P w K mg base):FnOk P w K mg base CX0 11 f fd ["text", "due"] (PureSp K aRt2 (fun t=>Small t ∧ ∀n ms,¬ Good t n ms) fun _ d=>d = .bl true):=by
  refine fn_pure F scLawRight (fun _=>rfl) fun cdv A outer s H E hr t hp=>?_
  refine blk_set 2 (ev_call Ft t hr (ea1 (ev_var 0)) hp) ?_ scLawRight.nd
  exact blk_rt (st_ifT (et_isNN (ev_var 1)) (blk_rt (st_retE (ev_eqD (k:=true) (hu64 hr) (ev_var 2) (ev_tup (ea2 ev_str ev_bl)) rfl rfl (by decide +kernel) (by decide +kernel) (by decide +kernel)))))
theorem d_rt1 (F:Fun K "_law_right" "_law_right" sLawRight f fd)(B:Blt mg)(z:InsI K C)(hmC:mg "Council" = some (.ref C))(hkC:PySem.W.kitOne K (.ref C) (.ref C)=some true)(Mm:mMany P w K mg base C)(Ml:mLeast P w K mg base C)(Fs:pShown P w K mg base C)(Ft:pTb1 P w K mg base C) :
    FnOk P w K mg base CX0 11 f fd ["text", "due"] (PureSp K aRt1 (fun i=>OkR i.1 i.2∧due i.1 i.2=i.1) fun _ d=>d = .bl true):=by
  refine fn_pure F scLawRight (fun _=>rfl) fun cdv A outer s H E hr ⟨ms,m⟩ ⟨ok,hd⟩=>?_
  dsimp only at ok hd
  have hr1:Room 1 _:=hr.mono (by decide)
  have hr2:Room 2 _:=hr.mono (by decide)
  show Blk _ (defBody sLawRight) [.da (.str (txt m ms)),.da (.tup [.int m,crs ms]),.no] _
  refine blk_set 2 (d:=.tup [.str "read",cns C m ms]) (ev_call Ft (ms,m) hr (ea1 (ev_var 0)) ⟨ok,hd⟩) ?_ scLawRight.nd
  refine blk_cons (st_skip (et_isNT (ev_var 1))) ?_
  refine blk_cons (st_skip (EvT.cast (et_or3 (et_neT (ev_ixT (ev_var 2) ev_int rfl) ev_str) (fun _=>et_not (et_val (ev_isiC (ev_ixT (ev_var 2) ev_int rfl) z hkC B.isi hmC))) (fun _ _=>et_ne (EvP.ev (ev_meth0P Mm (ms,m) z.cl hr1 (ev_ixT (ev_var 2) ev_int rfl) (by decide +kernel) trivial) fun _ h=>h) (ev_ixT (ev_var 1) ev_int rfl))) (by simp))) ?_
  refine blk_rt (st_retE (Ev.cast (ev_and (ev_eqT (ev_call Fs (ms,m) hr2 (ea1 (ev_ixT (ev_var 2) ev_int rfl)) ok) (ev_var 0)) (fun _=>ev_eqD (k:=true) (hu64 hr) (Ev.cast (d:=.lst (ms.map cr)) (EvP.ev (EvF.toP (ef_meth0 Ml (ms,m) z.cl hr1 (ev_ixT (ev_var 2) ev_int rfl) (by decide +kernel) trivial) (R:=(· = .lst (ms.map cr))) (fun ds h=>by subst h; rfl)) fun _ h=>h) rfl) (ev_ixT (ev_var 1) ev_int rfl) (noIns_crs ms) (noIns_crs ms) (shaped_crs ms) (shaped_crs ms) (eqv_crsT ok.lt))) (by simp)))
end
end V
namespace V
open PySem PySem.Spec L2 DL Mth
section
variable {P:Program}{w:World}{K:PySem.W.Frag}{mg:Str→Option Value}{base:Heap}{f:Addr}{fd:FuncData}{C CV CN:Addr}
theorem scLaw:FnScope ["script", "many", "told", "way", "text", "due"] ["script"] (defScope sLaw):=⟨rfl,rfl,rfl,by decide +kernel,rfl,by decide +kernel,by decide +kernel⟩
theorem d_law (F:Fun K "law" "law" sLaw f fd)(Fc:pCell P w K mg base)(Fm:pMany P w K mg base)(Ft:pTold P w K mg base)(Fls:pLShown P w K mg base)(Fsp:pLSpoiled P w K mg base)(Fod:pLOdd P w K mg base)(Fd:pLDue P w K mg base)(Fr1:pRt1 P w K mg base)(Fr2:pRt2 P w K mg base) :
    FnOk P w K mg base CX0 12 f fd ["script"] (PureSp K aLaw (fun ns=>ns.length≤63) fun _ d=>d = .bl true):=by
  refine fn_pure F scLaw (fun _=>rfl) fun cdv A outer s H E hr ns hns=>?_
  have hr1:Room 1 _:=hr.mono (by decide)
  have hr3:Room 3 _:=hr.mono (by decide)
  have hr6:Room 6 _:=hr.mono (by decide)
  refine blk_set 1 (ev_call Fm (cell ns 0) hr1 (ea1 (ev_call Fc (ns,0) hr1 (ea2 (ev_var 0) ev_int) trivial)) trivial) ?_ scLaw.nd
  have hm:=many_ok (cell ns 0)
  generalize manyOf (cell ns 0)=m at hm
  have hm1:=hm.1
  have hm5:=hm.2
  refine blk_setP 2 (ev_callP Ft (ns,5,m) hr6 (ea3 (ev_var 0) ev_int (ev_var 1)) hm) ?_ scLaw.nd
  rintro d ⟨t,⟨hl,ht⟩,_,rfl⟩
  dsimp only at hl ht
  have ht32:∀a∈t,a < 32:=fun a ha=>lt32 hm.2 (ht a ha)
  refine blk_set 3 (ev_mod (ev_call Fc (ns,1) hr1 (ea2 (ev_var 0) ev_int) trivial) ev_int) ?_ scLaw.nd
  refine blk_setP 4 (ev_callP Fsp ((m,due t m),cell ns 1 % 10,cell ns 2,cell ns 3) hr1 (ea4 (ev_call Fls (t,m) hr6 (ea2 (ev_var 2) (ev_var 1)) ⟨by dsimp only; omega,ht32,hm⟩) (ev_var 3) (ev_call Fc (ns,2) hr1 (ea2 (ev_var 0) ev_int) trivial) (ev_call Fc (ns,3) hr1 (ea2 (ev_var 0) ev_int) trivial)) ⟨hm,due_len31 hm.1 hm5,due_lt32 hm5⟩) ?_ scLaw.nd
  rintro d ⟨x0,rfl,hx0⟩
  dsimp only
  have fin:∀x:Str,Small x→Blk (cxOf CX0 P w K mg base ["script", "many", "told", "way", "text", "due"] "law" (defScope sLaw) f cdv A outer s H E).nox ((defBody sLaw).drop 5) [.da (.lst (ns.map D.int)),.da (.int m),.da (crs t),.da (.int (cell ns 1 % 10)),.da (.str x),.no] (.rt (· = .bl true)):=fun x hx=>by
    refine blk_setP 5 (ev_callP Fd x hr3 (ea1 (ev_var 4)) hx) ?_ scLaw.nd
    rintro d (⟨n,ms,g,rfl⟩ | ⟨g,rfl⟩)
    · obtain ⟨c5,hlt,hdu,rfl⟩:=g
      have ok:OkR ms n:=⟨c5,by have:=due_len31 (t:=ms) c5.1 c5.2; rw [hdu] at this; omega,hlt⟩
      exact blk_rt (st_retE (Ev.cast (ev_and (ev_call Fr1 (ms,n) hr (ea2 (ev_var 4) (ev_var 5)) ⟨ok,hdu⟩) (fun _=>ev_call Fr1 (ms,n) hr (ea2 (ev_var 4) (ev_var 5)) ⟨ok,hdu⟩)) rfl))
    · exact blk_rt (st_retE (Ev.cast (ev_and (ev_call Fr2 x hr (ea2 (ev_var 4) (ev_var 5)) ⟨hx,g⟩) (fun _=>ev_call Fr2 x hr (ea2 (ev_var 4) (ev_var 5)) ⟨hx,g⟩)) rfl))
  by_cases hc:cell ns 1 / 10 % 8=1
  · exact blk_cons (st_ifT (EvT.cast (et_eq (ev_mod (ev_fdiv (ev_call Fc (ns,1) hr1 (ea2 (ev_var 0) ev_int) trivial) ev_int) ev_int) ev_int) (decide_eq_true hc)) (blk_set 4 (ev_call Fod (cell ns 4) hr1 (ea1 (ev_call Fc (ns,4) hr1 (ea2 (ev_var 0) ev_int) trivial)) trivial) blk_nil scLaw.nd)) (fin _ (odd_small _))
  · exact blk_cons (st_skip (EvT.cast (et_eq (ev_mod (ev_fdiv (ev_call Fc (ns,1) hr1 (ea2 (ev_var 0) ev_int) trivial) ev_int) ev_int) ev_int) (decide_eq_false hc))) (fin _ hx0)
end
end V
namespace V
open PySem PySem.Spec L2 DL Mth
open PySem.W in
theorem all_mk {l:OpenLaw}{w:World}{K:Frag}{h:Heap}{mg:Str→Option Value}{fa C:Addr}{tk:Tok}(X:K.In h)(G:h.Ns mainGlobals mg)(hfa:mg "law" = some (.ref fa))(aC:nsIn K mainGlobals "Council" = some (some (.ref C)))(hM:nsIn K mainGlobals "MOST_MEMBERS" = some (some (.int 5 tk))){adq1:Addr}{odq1 anq1:Option Addr}{slq1:Array (Option Value)}{ocq1 kVq1 dcq1 pmq1 cdq1 ctq1:Value}(atq1:nsIn K mainGlobals "check_size" = some (some (.ref adq1)))(lq1:K.lookup adq1=some ⟨ocq1,odq1,.func (fnOf "check_size" "check_size" (defArgs sChkSize) (defBody sChkSize) (defScope sChkSize) .none kVq1 dcq1 pmq1 anq1 cdq1 ctq1),slq1⟩)(cq1:codeIn K cdq1 "check_size" = true)(kq1:keepIn K (.ref adq1)=true){adq2:Addr}{odq2 anq2:Option Addr}{slq2:Array (Option Value)}{ocq2 kVq2 dcq2 pmq2 cdq2 ctq2:Value}(atq2:nsIn K mainGlobals "check_crowd" = some (some (.ref adq2)))(lq2:K.lookup adq2=some ⟨ocq2,odq2,.func (fnOf "check_crowd" "check_crowd" (defArgs sChkCrowd) (defBody sChkCrowd) (defScope sChkCrowd) .none kVq2 dcq2 pmq2 anq2 cdq2 ctq2),slq2⟩)(cq2:codeIn K cdq2 "check_crowd" = true)(kq2:keepIn K (.ref adq2)=true){adq3:Addr}{odq3 anq3:Option Addr}{slq3:Array (Option Value)}{ocq3 kVq3 dcq3 pmq3 cdq3 ctq3:Value}(atq3:nsIn K mainGlobals "place" = some (some (.ref adq3)))(lq3:K.lookup adq3=some ⟨ocq3,odq3,.func (fnOf "place" "place" (defArgs sPlace) (defBody sPlace) (defScope sPlace) .none kVq3 dcq3 pmq3 anq3 cdq3 ctq3),slq3⟩)(cq3:codeIn K cdq3 "place" = true)(kq3:keepIn K (.ref adq3)=true){adq4:Addr}{odq4 anq4:Option Addr}{slq4:Array (Option Value)}{ocq4 kVq4 dcq4 pmq4 cdq4 ctq4:Value}(atq4:nsIn K mainGlobals "in_order" = some (some (.ref adq4)))(lq4:K.lookup adq4=some ⟨ocq4,odq4,.func (fnOf "in_order" "in_order" (defArgs sInOrder) (defBody sInOrder) (defScope sInOrder) .none kVq4 dcq4 pmq4 anq4 cdq4 ctq4),slq4⟩)(cq4:codeIn K cdq4 "in_order" = true)(kq4:keepIn K (.ref adq4)=true){adq5:Addr}{odq5 anq5:Option Addr}{slq5:Array (Option Value)}{ocq5 kVq5 dcq5 pmq5 cdq5 ctq5:Value}(atq5:nsIn K mainGlobals "lies_in" = some (some (.ref adq5)))(lq5:K.lookup adq5=some ⟨ocq5,odq5,.func (fnOf "lies_in" "lies_in" (defArgs sLiesIn) (defBody sLiesIn) (defScope sLiesIn) .none kVq5 dcq5 pmq5 anq5 cdq5 ctq5),slq5⟩)(cq5:codeIn K cdq5 "lies_in" = true)(kq5:keepIn K (.ref adq5)=true){adq6:Addr}{odq6 anq6:Option Addr}{slq6:Array (Option Value)}{ocq6 kVq6 dcq6 pmq6 cdq6 ctq6:Value}(atq6:nsIn K mainGlobals "one_lies_in" = some (some (.ref adq6)))(lq6:K.lookup adq6=some ⟨ocq6,odq6,.func (fnOf "one_lies_in" "one_lies_in" (defArgs sOneIn) (defBody sOneIn) (defScope sOneIn) .none kVq6 dcq6 pmq6 anq6 cdq6 ctq6),slq6⟩)(cq6:codeIn K cdq6 "one_lies_in" = true)(kq6:keepIn K (.ref adq6)=true){adq7:Addr}{odq7 anq7:Option Addr}{slq7:Array (Option Value)}{ocq7 kVq7 dcq7 pmq7 cdq7 ctq7:Value}(atq7:nsIn K mainGlobals "least_of" = some (some (.ref adq7)))(lq7:K.lookup adq7=some ⟨ocq7,odq7,.func (fnOf "least_of" "least_of" (defArgs sLeastOf) (defBody sLeastOf) (defScope sLeastOf) .none kVq7 dcq7 pmq7 anq7 cdq7 ctq7),slq7⟩)(cq7:codeIn K cdq7 "least_of" = true)(kq7:keepIn K (.ref adq7)=true){adq8:Addr}{odq8 anq8:Option Addr}{slq8:Array (Option Value)}{ocq8 kVq8 dcq8 pmq8 cdq8 ctq8:Value}(atq8:findIn K (.ref C) "__init__" = some (some (.ref adq8)))(iq8:isFn K (.ref adq8)=true)(lq8:K.lookup adq8=some ⟨ocq8,odq8,.func (fnOf "__init__" "Council.__init__" (defArgs sInit) (defBody sInit) (defScope sInit) .none kVq8 dcq8 pmq8 anq8 cdq8 ctq8),slq8⟩)(cq8:codeIn K cdq8 "Council.__init__" = true)(kq8:keepIn K (.ref adq8)=true){adq9:Addr}{odq9 anq9:Option Addr}{slq9:Array (Option Value)}{ocq9 kVq9 dcq9 pmq9 cdq9 ctq9:Value}(atq9:findIn K (.ref C) "many" = some (some (.ref adq9)))(iq9:isFn K (.ref adq9)=true)(lq9:K.lookup adq9=some ⟨ocq9,odq9,.func (fnOf "many" "Council.many" (defArgs sCMany) (defBody sCMany) (defScope sCMany) .none kVq9 dcq9 pmq9 anq9 cdq9 ctq9),slq9⟩)(cq9:codeIn K cdq9 "Council.many" = true)(kq9:keepIn K (.ref adq9)=true){adqb:Addr}{odqb anqb:Option Addr}{slqb:Array (Option Value)}{ocqb kVqb dcqb pmqb cdqb ctqb:Value}(atqb:findIn K (.ref C) "least" = some (some (.ref adqb)))(iqb:isFn K (.ref adqb)=true)(lqb:K.lookup adqb=some ⟨ocqb,odqb,.func (fnOf "least" "Council.least" (defArgs sCLeast) (defBody sCLeast) (defScope sCLeast) .none kVqb dcqb pmqb anqb cdqb ctqb),slqb⟩)(cqb:codeIn K cdqb "Council.least" = true)(kqb:keepIn K (.ref adqb)=true){adqc:Addr}{odqc anqc:Option Addr}{slqc:Array (Option Value)}{ocqc kVqc dcqc pmqc cdqc ctqc:Value}(atqc:nsIn K mainGlobals "crowd_shown" = some (some (.ref adqc)))(lqc:K.lookup adqc=some ⟨ocqc,odqc,.func (fnOf "crowd_shown" "crowd_shown" (defArgs sCrowdShown) (defBody sCrowdShown) (defScope sCrowdShown) .none kVqc dcqc pmqc anqc cdqc ctqc),slqc⟩)(cqc:codeIn K cdqc "crowd_shown" = true)(kqc:keepIn K (.ref adqc)=true){adqd:Addr}{odqd anqd:Option Addr}{slqd:Array (Option Value)}{ocqd kVqd dcqd pmqd cdqd ctqd:Value}(atqd:nsIn K mainGlobals "shown" = some (some (.ref adqd)))(lqd:K.lookup adqd=some ⟨ocqd,odqd,.func (fnOf "shown" "shown" (defArgs sShown) (defBody sShown) (defScope sShown) .none kVqd dcqd pmqd anqd cdqd ctqd),slqd⟩)(cqd:codeIn K cdqd "shown" = true)(kqd:keepIn K (.ref adqd)=true){adqe:Addr}{odqe anqe:Option Addr}{slqe:Array (Option Value)}{ocqe kVqe dcqe pmqe cdqe ctqe:Value}(atqe:nsIn K mainGlobals "number_read" = some (some (.ref adqe)))(lqe:K.lookup adqe=some ⟨ocqe,odqe,.func (fnOf "number_read" "number_read" (defArgs sNumberRead) (defBody sNumberRead) (defScope sNumberRead) .none kVqe dcqe pmqe anqe cdqe ctqe),slqe⟩)(cqe:codeIn K cdqe "number_read" = true)(kqe:keepIn K (.ref adqe)=true){adqf:Addr}{odqf anqf:Option Addr}{slqf:Array (Option Value)}{ocqf kVqf dcqf pmqf cdqf ctqf:Value}(atqf:nsIn K mainGlobals "crowd_read" = some (some (.ref adqf)))(lqf:K.lookup adqf=some ⟨ocqf,odqf,.func (fnOf "crowd_read" "crowd_read" (defArgs sCrowdRead) (defBody sCrowdRead) (defScope sCrowdRead) .none kVqf dcqf pmqf anqf cdqf ctqf),slqf⟩)(cqf:codeIn K cdqf "crowd_read" = true)(kqf:keepIn K (.ref adqf)=true){adqg:Addr}{odqg anqg:Option Addr}{slqg:Array (Option Value)}{ocqg kVqg dcqg pmqg cdqg ctqg:Value}(atqg:nsIn K mainGlobals "crowds_read" = some (some (.ref adqg)))(lqg:K.lookup adqg=some ⟨ocqg,odqg,.func (fnOf "crowds_read" "crowds_read" (defArgs sCrowdsRead) (defBody sCrowdsRead) (defScope sCrowdsRead) .none kVqg dcqg pmqg anqg cdqg ctqg),slqg⟩)(cqg:codeIn K cdqg "crowds_read" = true)(kqg:keepIn K (.ref adqg)=true){adqh:Addr}{odqh anqh:Option Addr}{slqh:Array (Option Value)}{ocqh kVqh dcqh pmqh cdqh ctqh:Value}(atqh:nsIn K mainGlobals "council_read" = some (some (.ref adqh)))(lqh:K.lookup adqh=some ⟨ocqh,odqh,.func (fnOf "council_read" "council_read" (defArgs sCouncilRead) (defBody sCouncilRead) (defScope sCouncilRead) .none kVqh dcqh pmqh anqh cdqh ctqh),slqh⟩)(cqh:codeIn K cdqh "council_read" = true)(kqh:keepIn K (.ref adqh)=true){adqi:Addr}{odqi anqi:Option Addr}{slqi:Array (Option Value)}{ocqi kVqi dcqi pmqi cdqi ctqi:Value}(atqi:nsIn K mainGlobals "read" = some (some (.ref adqi)))(lqi:K.lookup adqi=some ⟨ocqi,odqi,.func (fnOf "read" "read" (defArgs sRead) (defBody sRead) (defScope sRead) .none kVqi dcqi pmqi anqi cdqi ctqi),slqi⟩)(cqi:codeIn K cdqi "read" = true)(kqi:keepIn K (.ref adqi)=true){adqj:Addr}{odqj anqj:Option Addr}{slqj:Array (Option Value)}{ocqj kVqj dcqj pmqj cdqj ctqj:Value}(atqj:nsIn K mainGlobals "_law_cell_at" = some (some (.ref adqj)))(lqj:K.lookup adqj=some ⟨ocqj,odqj,.func (fnOf "_law_cell_at" "_law_cell_at" (defArgs sCell) (defBody sCell) (defScope sCell) .none kVqj dcqj pmqj anqj cdqj ctqj),slqj⟩)(cqj:codeIn K cdqj "_law_cell_at" = true)(kqj:keepIn K (.ref adqj)=true){adqk:Addr}{odqk anqk:Option Addr}{slqk:Array (Option Value)}{ocqk kVqk dcqk pmqk cdqk ctqk:Value}(atqk:nsIn K mainGlobals "_law_bits" = some (some (.ref adqk)))(lqk:K.lookup adqk=some ⟨ocqk,odqk,.func (fnOf "_law_bits" "_law_bits" (defArgs sBits) (defBody sBits) (defScope sBits) .none kVqk dcqk pmqk anqk cdqk ctqk),slqk⟩)(cqk:codeIn K cdqk "_law_bits" = true)(kqk:keepIn K (.ref adqk)=true){adql:Addr}{odql anql:Option Addr}{slql:Array (Option Value)}{ocql kVql dcql pmql cdql ctql:Value}(atql:nsIn K mainGlobals "_law_crowds" = some (some (.ref adql)))(lql:K.lookup adql=some ⟨ocql,odql,.func (fnOf "_law_crowds" "_law_crowds" (defArgs sCrowds) (defBody sCrowds) (defScope sCrowds) .none kVql dcql pmql anql cdql ctql),slql⟩)(cql:codeIn K cdql "_law_crowds" = true)(kql:keepIn K (.ref adql)=true){adqm:Addr}{odqm anqm:Option Addr}{slqm:Array (Option Value)}{ocqm kVqm dcqm pmqm cdqm ctqm:Value}(atqm:nsIn K mainGlobals "_law_many" = some (some (.ref adqm)))(lqm:K.lookup adqm=some ⟨ocqm,odqm,.func (fnOf "_law_many" "_law_many" (defArgs sMany) (defBody sMany) (defScope sMany) .none kVqm dcqm pmqm anqm cdqm ctqm),slqm⟩)(cqm:codeIn K cdqm "_law_many" = true)(kqm:keepIn K (.ref adqm)=true){adqn:Addr}{odqn anqn:Option Addr}{slqn:Array (Option Value)}{ocqn kVqn dcqn pmqn cdqn ctqn:Value}(atqn:nsIn K mainGlobals "_law_some" = some (some (.ref adqn)))(lqn:K.lookup adqn=some ⟨ocqn,odqn,.func (fnOf "_law_some" "_law_some" (defArgs sSome) (defBody sSome) (defScope sSome) .none kVqn dcqn pmqn anqn cdqn ctqn),slqn⟩)(cqn:codeIn K cdqn "_law_some" = true)(kqn:keepIn K (.ref adqn)=true){adqo:Addr}{odqo anqo:Option Addr}{slqo:Array (Option Value)}{ocqo kVqo dcqo pmqo cdqo ctqo:Value}(atqo:nsIn K mainGlobals "_law_weighed_crowds" = some (some (.ref adqo)))(lqo:K.lookup adqo=some ⟨ocqo,odqo,.func (fnOf "_law_weighed_crowds" "_law_weighed_crowds" (defArgs sWeighed) (defBody sWeighed) (defScope sWeighed) .none kVqo dcqo pmqo anqo cdqo ctqo),slqo⟩)(cqo:codeIn K cdqo "_law_weighed_crowds" = true)(kqo:keepIn K (.ref adqo)=true){adqp:Addr}{odqp anqp:Option Addr}{slqp:Array (Option Value)}{ocqp kVqp dcqp pmqp cdqp ctqp:Value}(atqp:nsIn K mainGlobals "_law_told" = some (some (.ref adqp)))(lqp:K.lookup adqp=some ⟨ocqp,odqp,.func (fnOf "_law_told" "_law_told" (defArgs sTold) (defBody sTold) (defScope sTold) .none kVqp dcqp pmqp anqp cdqp ctqp),slqp⟩)(cqp:codeIn K cdqp "_law_told" = true)(kqp:keepIn K (.ref adqp)=true){adqq:Addr}{odqq anqq:Option Addr}{slqq:Array (Option Value)}{ocqq kVqq dcqq pmqq cdqq ctqq:Value}(atqq:nsIn K mainGlobals "_law_in" = some (some (.ref adqq)))(lqq:K.lookup adqq=some ⟨ocqq,odqq,.func (fnOf "_law_in" "_law_in" (defArgs sIn) (defBody sIn) (defScope sIn) .none kVqq dcqq pmqq anqq cdqq ctqq),slqq⟩)(cqq:codeIn K cdqq "_law_in" = true)(kqq:keepIn K (.ref adqq)=true){adqr:Addr}{odqr anqr:Option Addr}{slqr:Array (Option Value)}{ocqr kVqr dcqr pmqr cdqr ctqr:Value}(atqr:nsIn K mainGlobals "_law_carries" = some (some (.ref adqr)))(lqr:K.lookup adqr=some ⟨ocqr,odqr,.func (fnOf "_law_carries" "_law_carries" (defArgs sCarries) (defBody sCarries) (defScope sCarries) .none kVqr dcqr pmqr anqr cdqr ctqr),slqr⟩)(cqr:codeIn K cdqr "_law_carries" = true)(kqr:keepIn K (.ref adqr)=true){adqs:Addr}{odqs anqs:Option Addr}{slqs:Array (Option Value)}{ocqs kVqs dcqs pmqs cdqs ctqs:Value}(atqs:nsIn K mainGlobals "_law_least" = some (some (.ref adqs)))(lqs:K.lookup adqs=some ⟨ocqs,odqs,.func (fnOf "_law_least" "_law_least" (defArgs sLeast) (defBody sLeast) (defScope sLeast) .none kVqs dcqs pmqs anqs cdqs ctqs),slqs⟩)(cqs:codeIn K cdqs "_law_least" = true)(kqs:keepIn K (.ref adqs)=true){adqt:Addr}{odqt anqt:Option Addr}{slqt:Array (Option Value)}{ocqt kVqt dcqt pmqt cdqt ctqt:Value}(atqt:nsIn K mainGlobals "_law_shown" = some (some (.ref adqt)))(lqt:K.lookup adqt=some ⟨ocqt,odqt,.func (fnOf "_law_shown" "_law_shown" (defArgs sLawShown) (defBody sLawShown) (defScope sLawShown) .none kVqt dcqt pmqt anqt cdqt ctqt),slqt⟩)(cqt:codeIn K cdqt "_law_shown" = true)(kqt:keepIn K (.ref adqt)=true){adqu:Addr}{odqu anqu:Option Addr}{slqu:Array (Option Value)}{ocqu kVqu dcqu pmqu cdqu ctqu:Value}(atqu:nsIn K mainGlobals "_law_spoiled" = some (some (.ref adqu)))(lqu:K.lookup adqu=some ⟨ocqu,odqu,.func (fnOf "_law_spoiled" "_law_spoiled" (defArgs sLawSpoiled) (defBody sLawSpoiled) (defScope sLawSpoiled) .none kVqu dcqu pmqu anqu cdqu ctqu),slqu⟩)(cqu:codeIn K cdqu "_law_spoiled" = true)(kqu:keepIn K (.ref adqu)=true){adqv:Addr}{odqv anqv:Option Addr}{slqv:Array (Option Value)}{ocqv kVqv dcqv pmqv cdqv ctqv:Value}(atqv:nsIn K mainGlobals "_law_odd" = some (some (.ref adqv)))(lqv:K.lookup adqv=some ⟨ocqv,odqv,.func (fnOf "_law_odd" "_law_odd" (defArgs sLawOdd) (defBody sLawOdd) (defScope sLawOdd) .none kVqv dcqv pmqv anqv cdqv ctqv),slqv⟩)(cqv:codeIn K cdqv "_law_odd" = true)(kqv:keepIn K (.ref adqv)=true){adqw:Addr}{odqw anqw:Option Addr}{slqw:Array (Option Value)}{ocqw kVqw dcqw pmqw cdqw ctqw:Value}(atqw:nsIn K mainGlobals "_law_crowd" = some (some (.ref adqw)))(lqw:K.lookup adqw=some ⟨ocqw,odqw,.func (fnOf "_law_crowd" "_law_crowd" (defArgs sLawCrowd) (defBody sLawCrowd) (defScope sLawCrowd) .none kVqw dcqw pmqw anqw cdqw ctqw),slqw⟩)(cqw:codeIn K cdqw "_law_crowd" = true)(kqw:keepIn K (.ref adqw)=true){adqx:Addr}{odqx anqx:Option Addr}{slqx:Array (Option Value)}{ocqx kVqx dcqx pmqx cdqx ctqx:Value}(atqx:nsIn K mainGlobals "_law_due" = some (some (.ref adqx)))(lqx:K.lookup adqx=some ⟨ocqx,odqx,.func (fnOf "_law_due" "_law_due" (defArgs sLawDue) (defBody sLawDue) (defScope sLawDue) .none kVqx dcqx pmqx anqx cdqx ctqx),slqx⟩)(cqx:codeIn K cdqx "_law_due" = true)(kqx:keepIn K (.ref adqx)=true){adqy:Addr}{odqy anqy:Option Addr}{slqy:Array (Option Value)}{ocqy kVqy dcqy pmqy cdqy ctqy:Value}(atqy:nsIn K mainGlobals "_law_told_by" = some (some (.ref adqy)))(lqy:K.lookup adqy=some ⟨ocqy,odqy,.func (fnOf "_law_told_by" "_law_told_by" (defArgs sLawToldBy) (defBody sLawToldBy) (defScope sLawToldBy) .none kVqy dcqy pmqy anqy cdqy ctqy),slqy⟩)(cqy:codeIn K cdqy "_law_told_by" = true)(kqy:keepIn K (.ref adqy)=true){adqz:Addr}{odqz anqz:Option Addr}{slqz:Array (Option Value)}{ocqz kVqz dcqz pmqz cdqz ctqz:Value}(atqz:nsIn K mainGlobals "_law_right" = some (some (.ref adqz)))(lqz:K.lookup adqz=some ⟨ocqz,odqz,.func (fnOf "_law_right" "_law_right" (defArgs sLawRight) (defBody sLawRight) (defScope sLawRight) .none kVqz dcqz pmqz anqz cdqz ctqz),slqz⟩)(cqz:codeIn K cdqz "_law_right" = true)(kqz:keepIn K (.ref adqz)=true){adq10:Addr}{odq10 anq10:Option Addr}{slq10:Array (Option Value)}{ocq10 kVq10 dcq10 pmq10 cdq10 ctq10:Value}(atq10:nsIn K mainGlobals "law" = some (some (.ref adq10)))(lq10:K.lookup adq10=some ⟨ocq10,odq10,.func (fnOf "law" "law" (defArgs sLaw) (defBody sLaw) (defScope sLaw) .none kVq10 dcq10 pmq10 anq10 cdq10 ctq10),slq10⟩)(cq10:codeIn K cdq10 "law" = true)(kq10:keepIn K (.ref adq10)=true)(pg:plainGet K C Str.empty=true)(hd:hasDictIn K C=true)(po:plainOver K C=true)(sa:findIn K (.ref C) "__setattr__" = some (some (.builtin "object.__setattr__")))(mk:makesIn K C=true)(kc:keepIn K (.ref C)=true)(n1:findIn K (.ref C) "size" = some none)(n2:findIn K (.ref C) "smallest" = some none){eVoteError:Addr}(aeVoteError:nsIn K mainGlobals "VoteError" = some (some (.ref eVoteError))){eBadCrowd:Addr}(aeBadCrowd:nsIn K mainGlobals "BadCrowd" = some (some (.ref eBadCrowd))){eBadSize:Addr}(aeBadSize:nsIn K mainGlobals "BadSize" = some (some (.ref eBadSize))){eNoMember:Addr}(aeNoMember:nsIn K mainGlobals "NoMember" = some (some (.ref eNoMember))){eBadWeights:Addr}(aeBadWeights:nsIn K mainGlobals "BadWeights" = some (some (.ref eBadWeights))){eUnlike:Addr}(aeUnlike:nsIn K mainGlobals "Unlike" = some (some (.ref eUnlike))){eBadNote:Addr}(aeBadNote:nsIn K mainGlobals "BadNote" = some (some (.ref eBadNote))){vcd:ClassData}(vc:clsIn K eVoteError=some vcd)(vT:typeIn K (.ref eVoteError)=some (.type "type"))(vB:mroIn K eVoteError (.type "BaseException")=some true)(zVE:nsIn K mainGlobals "ValueError" = some none)(xn:specialIn K (.builtin "object.__class__") "__get__" = some (some (.builtin "getset_descriptor.__get__")))(xk:takesIn K (.builtin "object.__class__")=some true)(x0BadCrowd:excIn K eBadCrowd bmV "ValueError.__new__" = true){xdBadCrowd:ClassData}(x1BadCrowd:clsIn K eBadCrowd=some xdBadCrowd)(x2BadCrowd:findIn K (.ref eBadCrowd) "__getattribute__" = some (some (.builtin "BaseException.__getattribute__")))(x3BadCrowd:findIn K (.ref eBadCrowd) "__getattr__" = some none)(x4BadCrowd:findIn K (.ref eBadCrowd) "__class__" = some (some (.builtin "object.__class__")))(x5BadCrowd:mroIn K eBadCrowd (.type "object")=some true)(x6BadCrowd:mroIn K eBadCrowd (.type "BaseException")=some true)(x7BadCrowd:mroIn K eBadCrowd (.ref eVoteError)=some true)(x8BadCrowd:kitOne K (.ref eBadCrowd) (.type "ValueError")=some true)(x0BadSize:excIn K eBadSize bmV "ValueError.__new__" = true){xdBadSize:ClassData}(x1BadSize:clsIn K eBadSize=some xdBadSize)(x2BadSize:findIn K (.ref eBadSize) "__getattribute__" = some (some (.builtin "BaseException.__getattribute__")))(x3BadSize:findIn K (.ref eBadSize) "__getattr__" = some none)(x4BadSize:findIn K (.ref eBadSize) "__class__" = some (some (.builtin "object.__class__")))(x5BadSize:mroIn K eBadSize (.type "object")=some true)(x6BadSize:mroIn K eBadSize (.type "BaseException")=some true)(x7BadSize:mroIn K eBadSize (.ref eVoteError)=some true)(x8BadSize:kitOne K (.ref eBadSize) (.type "ValueError")=some true)(x0BadNote:excIn K eBadNote bmV "ValueError.__new__" = true){xdBadNote:ClassData}(x1BadNote:clsIn K eBadNote=some xdBadNote)(x2BadNote:findIn K (.ref eBadNote) "__getattribute__" = some (some (.builtin "BaseException.__getattribute__")))(x3BadNote:findIn K (.ref eBadNote) "__getattr__" = some none)(x4BadNote:findIn K (.ref eBadNote) "__class__" = some (some (.builtin "object.__class__")))(x5BadNote:mroIn K eBadNote (.type "object")=some true)(x6BadNote:mroIn K eBadNote (.type "BaseException")=some true)(x7BadNote:mroIn K eBadNote (.ref eVoteError)=some true)(x8BadNote:kitOne K (.ref eBadNote) (.type "ValueError")=some true)(kBadNote_Unlike:kitOne K (.ref eBadNote) (.ref eUnlike)=some false)(kBadNote_BadSize:kitOne K (.ref eBadNote) (.ref eBadSize)=some false)(kBadNote_BadWeights:kitOne K (.ref eBadNote) (.ref eBadWeights)=some false)(kBadNote_BadCrowd:kitOne K (.ref eBadNote) (.ref eBadCrowd)=some false)(kBadNote_NoMember:kitOne K (.ref eBadNote) (.ref eNoMember)=some false)(kBadNote_BadNote:kitOne K (.ref eBadNote) (.ref eBadNote)=some true)(ja:findIn K (.ref C) "__class__" = some (some (.builtin "object.__class__")))(jm:mroIn K C (.type "object")=some true)(jk:kitOne K (.ref C) (.ref C)=some true){nb:Addr}(aN:nsIn K mainGlobals "NUMBERS" = some (some (.ref nb)))(tN:PyProof.Rows.KTD.tabLook PyProof.Rows.KTD.flatLooks (fun b=>K.lookup b) nb NUM0=true)(qN:PyProof.Rows.KTD.hashesOf (fun b=>K.lookup b) nb=NUM0.map fun p=>(PySem.strKind l.prog w).hash p.1){tw:Tok}(hW:nsIn K mainGlobals "WORDS" = some (some (.str "a council is written like 3: 0+1, 0+2" tw)))(tBC:typeIn K (.ref eBadCrowd)=some (.type "type"))(tBS:typeIn K (.ref eBadSize)=some (.type "type"))(mSS:mroIn K eBadSize (.ref eBadSize)=some true)(mSC:mroIn K eBadSize (.ref eBadCrowd)=some false)(mCS:mroIn K eBadCrowd (.ref eBadSize)=some false)(mCC:mroIn K eBadCrowd (.ref eBadCrowd)=some true)(z0:nsIn K mainGlobals "len" = some none)(z1:nsIn K mainGlobals "range" = some none)(z2:nsIn K mainGlobals "sorted" = some none)(z3:nsIn K mainGlobals "sum" = some none)(z4:nsIn K mainGlobals "max" = some none)(z5:nsIn K mainGlobals "int" = some none)(z6:nsIn K mainGlobals "bool" = some none)(z7:nsIn K mainGlobals "list" = some none)(z8:nsIn K mainGlobals "tuple" = some none)(z9:nsIn K mainGlobals "all" = some none)(z10:nsIn K mainGlobals "any" = some none)(z11:nsIn K mainGlobals "isinstance" = some none)(z12:nsIn K mainGlobals "str" = some none)(z13:nsIn K mainGlobals "enumerate" = some none)(z14:nsIn K mainGlobals "set" = some none)(z15:nsIn K mainGlobals "reversed" = some none) :
    ∃fd:FuncData,(∀ (s:Shared) (v:Value),BindsTo s fd ⟨[v],[]⟩ [("script",v)]) ∧ ∀base:Heap,K.In base→base.Ns mainGlobals mg→FnOk l.prog w K mg base CX0 12 fa fd ["script"] (PureSp K aLaw (fun ns=>ns.length≤63) fun _ d=>d = .bl true):=by
  have e:=hfa.symm.trans (mg_of X G atq10)
  cases e
  have cl:Cls K C:=⟨pg,hd,po,sa⟩
  have B:Blt mg:=⟨mg_none_of X G z0,mg_none_of X G z1,mg_none_of X G z2,mg_none_of X G z3,mg_none_of X G z4,mg_none_of X G z5,mg_none_of X G z6,mg_none_of X G z7,mg_none_of X G z8,mg_none_of X G z9,mg_none_of X G z10,mg_none_of X G z11,mg_none_of X G z12,mg_none_of X G z13,mg_none_of X G z14,mg_none_of X G z15⟩
  have hM:=mg_of X G hM
  have Fq1:=fun_mk (st:=sChkSize) lq1 cq1 kq1
  have bq1:=Fq1.binds (ps:=["many"]) fun _ _ _ _ _ _ us hl=>match us,hl with | [_],_=>rfl
  have Fq2:=fun_mk (st:=sChkCrowd) lq2 cq2 kq2
  have bq2:=Fq2.binds (ps:=["crowd", "many"]) fun _ _ _ _ _ _ us hl=>match us,hl with | [_,_],_=>rfl
  have Fq3:=fun_mk (st:=sPlace) lq3 cq3 kq3
  have bq3:=Fq3.binds (ps:=["crowd"]) fun _ _ _ _ _ _ us hl=>match us,hl with | [_],_=>rfl
  have Fq4:=fun_mk (st:=sInOrder) lq4 cq4 kq4
  have bq4:=Fq4.binds (ps:=["crowds"]) fun _ _ _ _ _ _ us hl=>match us,hl with | [_],_=>rfl
  have Fq5:=fun_mk (st:=sLiesIn) lq5 cq5 kq5
  have bq5:=Fq5.binds (ps:=["crowd", "other"]) fun _ _ _ _ _ _ us hl=>match us,hl with | [_,_],_=>rfl
  have Fq6:=fun_mk (st:=sOneIn) lq6 cq6 kq6
  have bq6:=Fq6.binds (ps:=["crowds", "other"]) fun _ _ _ _ _ _ us hl=>match us,hl with | [_,_],_=>rfl
  have Fq7:=fun_mk (st:=sLeastOf) lq7 cq7 kq7
  have bq7:=Fq7.binds (ps:=["crowds"]) fun _ _ _ _ _ _ us hl=>match us,hl with | [_],_=>rfl
  have Fq8:=fun_mk (st:=sInit) lq8 cq8 kq8
  have bq8:=Fq8.binds (ps:=["self", "many", "crowds"]) fun _ _ _ _ _ _ us hl=>match us,hl with | [_,_,_],_=>rfl
  have Fq9:=fun_mk (st:=sCMany) lq9 cq9 kq9
  have bq9:=Fq9.binds (ps:=["self"]) fun _ _ _ _ _ _ us hl=>match us,hl with | [_],_=>rfl
  have Fqb:=fun_mk (st:=sCLeast) lqb cqb kqb
  have bqb:=Fqb.binds (ps:=["self"]) fun _ _ _ _ _ _ us hl=>match us,hl with | [_],_=>rfl
  have Fqc:=fun_mk (st:=sCrowdShown) lqc cqc kqc
  have bqc:=Fqc.binds (ps:=["crowd"]) fun _ _ _ _ _ _ us hl=>match us,hl with | [_],_=>rfl
  have Fqd:=fun_mk (st:=sShown) lqd cqd kqd
  have bqd:=Fqd.binds (ps:=["council"]) fun _ _ _ _ _ _ us hl=>match us,hl with | [_],_=>rfl
  have Fqe:=fun_mk (st:=sNumberRead) lqe cqe kqe
  have bqe:=Fqe.binds (ps:=["text"]) fun _ _ _ _ _ _ us hl=>match us,hl with | [_],_=>rfl
  have Fqf:=fun_mk (st:=sCrowdRead) lqf cqf kqf
  have bqf:=Fqf.binds (ps:=["text"]) fun _ _ _ _ _ _ us hl=>match us,hl with | [_],_=>rfl
  have Fqg:=fun_mk (st:=sCrowdsRead) lqg cqg kqg
  have bqg:=Fqg.binds (ps:=["text"]) fun _ _ _ _ _ _ us hl=>match us,hl with | [_],_=>rfl
  have Fqh:=fun_mk (st:=sCouncilRead) lqh cqh kqh
  have bqh:=Fqh.binds (ps:=["many", "crowds"]) fun _ _ _ _ _ _ us hl=>match us,hl with | [_,_],_=>rfl
  have Fqi:=fun_mk (st:=sRead) lqi cqi kqi
  have bqi:=Fqi.binds (ps:=["text"]) fun _ _ _ _ _ _ us hl=>match us,hl with | [_],_=>rfl
  have Fqj:=fun_mk (st:=sCell) lqj cqj kqj
  have bqj:=Fqj.binds (ps:=["script", "k"]) fun _ _ _ _ _ _ us hl=>match us,hl with | [_,_],_=>rfl
  have Fqk:=fun_mk (st:=sBits) lqk cqk kqk
  have bqk:=Fqk.binds (ps:=["number", "many"]) fun _ _ _ _ _ _ us hl=>match us,hl with | [_,_],_=>rfl
  have Fql:=fun_mk (st:=sCrowds) lql cql kql
  have bql:=Fql.binds (ps:=["many"]) fun _ _ _ _ _ _ us hl=>match us,hl with | [_],_=>rfl
  have Fqm:=fun_mk (st:=sMany) lqm cqm kqm
  have bqm:=Fqm.binds (ps:=["cell"]) fun _ _ _ _ _ _ us hl=>match us,hl with | [_],_=>rfl
  have Fqn:=fun_mk (st:=sSome) lqn cqn kqn
  have bqn:=Fqn.binds (ps:=["script", "start", "many", "count"]) fun _ _ _ _ _ _ us hl=>match us,hl with | [_,_,_,_],_=>rfl
  have Fqo:=fun_mk (st:=sWeighed) lqo cqo kqo
  have bqo:=Fqo.binds (ps:=["script", "start", "many"]) fun _ _ _ _ _ _ us hl=>match us,hl with | [_,_,_],_=>rfl
  have Fqp:=fun_mk (st:=sTold) lqp cqp kqp
  have bqp:=Fqp.binds (ps:=["script", "start", "many"]) fun _ _ _ _ _ _ us hl=>match us,hl with | [_,_,_],_=>rfl
  have Fqq:=fun_mk (st:=sIn) lqq cqq kqq
  have bqq:=Fqq.binds (ps:=["crowd", "other"]) fun _ _ _ _ _ _ us hl=>match us,hl with | [_,_],_=>rfl
  have Fqr:=fun_mk (st:=sCarries) lqr cqr kqr
  have bqr:=Fqr.binds (ps:=["told", "crowd"]) fun _ _ _ _ _ _ us hl=>match us,hl with | [_,_],_=>rfl
  have Fqs:=fun_mk (st:=sLeast) lqs cqs kqs
  have bqs:=Fqs.binds (ps:=["told", "many"]) fun _ _ _ _ _ _ us hl=>match us,hl with | [_,_],_=>rfl
  have Fqt:=fun_mk (st:=sLawShown) lqt cqt kqt
  have bqt:=Fqt.binds (ps:=["told", "many"]) fun _ _ _ _ _ _ us hl=>match us,hl with | [_,_],_=>rfl
  have Fqu:=fun_mk (st:=sLawSpoiled) lqu cqu kqu
  have bqu:=Fqu.binds (ps:=["text", "way", "cell", "other"]) fun _ _ _ _ _ _ us hl=>match us,hl with | [_,_,_,_],_=>rfl
  have Fqv:=fun_mk (st:=sLawOdd) lqv cqv kqv
  have bqv:=Fqv.binds (ps:=["cell"]) fun _ _ _ _ _ _ us hl=>match us,hl with | [_],_=>rfl
  have Fqw:=fun_mk (st:=sLawCrowd) lqw cqw kqw
  have bqw:=Fqw.binds (ps:=["word", "many"]) fun _ _ _ _ _ _ us hl=>match us,hl with | [_,_],_=>rfl
  have Fqx:=fun_mk (st:=sLawDue) lqx cqx kqx
  have bqx:=Fqx.binds (ps:=["text"]) fun _ _ _ _ _ _ us hl=>match us,hl with | [_],_=>rfl
  have Fqy:=fun_mk (st:=sLawToldBy) lqy cqy kqy
  have bqy:=Fqy.binds (ps:=["text"]) fun _ _ _ _ _ _ us hl=>match us,hl with | [_],_=>rfl
  have Fqz:=fun_mk (st:=sLawRight) lqz cqz kqz
  have bqz:=Fqz.binds (ps:=["text", "due"]) fun _ _ _ _ _ _ us hl=>match us,hl with | [_,_],_=>rfl
  have Fq10:=fun_mk (st:=sLaw) lq10 cq10 kq10
  have bq10:=Fq10.binds (ps:=["script"]) fun _ _ _ _ _ _ us hl=>match us,hl with | [_],_=>rfl
  refine ⟨fnOf "law" "law" (defArgs sLaw) (defBody sLaw) (defScope sLaw) .none kVq10 dcq10 pmq10 anq10 cdq10 ctq10,fun s v=>.of_eq rfl,fun base _ _=>?_⟩
  have EBadCrowd:Err K mg "BadCrowd" eVoteError eBadCrowd:=⟨⟨mg_of X G aeBadCrowd,x0BadCrowd⟩,⟨by rw [x1BadCrowd]; rfl,x2BadCrowd,x3BadCrowd,x4BadCrowd,xn,xk,x5BadCrowd,x6BadCrowd⟩,⟨mg_of X G aeVoteError,by rw [vc]; rfl,vT,vB,x7BadCrowd⟩,x8BadCrowd,mg_none_of X G zVE⟩
  have EBadSize:Err K mg "BadSize" eVoteError eBadSize:=⟨⟨mg_of X G aeBadSize,x0BadSize⟩,⟨by rw [x1BadSize]; rfl,x2BadSize,x3BadSize,x4BadSize,xn,xk,x5BadSize,x6BadSize⟩,⟨mg_of X G aeVoteError,by rw [vc]; rfl,vT,vB,x7BadSize⟩,x8BadSize,mg_none_of X G zVE⟩
  have EBadNote:Err K mg "BadNote" eVoteError eBadNote:=⟨⟨mg_of X G aeBadNote,x0BadNote⟩,⟨by rw [x1BadNote]; rfl,x2BadNote,x3BadNote,x4BadNote,xn,xk,x5BadNote,x6BadNote⟩,⟨mg_of X G aeVoteError,by rw [vc]; rfl,vT,vB,x7BadNote⟩,x8BadNote,mg_none_of X G zVE⟩
  have IBadNote_Unlike:IsA K mg eBadNote "Unlike" false:=⟨_,mg_of X G aeUnlike,kBadNote_Unlike⟩
  have IBadNote_BadSize:IsA K mg eBadNote "BadSize" false:=⟨_,mg_of X G aeBadSize,kBadNote_BadSize⟩
  have IBadNote_BadWeights:IsA K mg eBadNote "BadWeights" false:=⟨_,mg_of X G aeBadWeights,kBadNote_BadWeights⟩
  have IBadNote_BadCrowd:IsA K mg eBadNote "BadCrowd" false:=⟨_,mg_of X G aeBadCrowd,kBadNote_BadCrowd⟩
  have IBadNote_NoMember:IsA K mg eBadNote "NoMember" false:=⟨_,mg_of X G aeNoMember,kBadNote_NoMember⟩
  have IBadNote_BadNote:IsA K mg eBadNote "BadNote" true:=⟨_,mg_of X G aeBadNote,kBadNote_BadNote⟩
  have CI:InsI K C:=⟨cl,ja,xn,xk,jm⟩
  have hmC:=mg_of X G aC
  have TN:Tab l.prog w K mg "NUMBERS" NUMS:=⟨_,mg_of X G aN,fun h' X'=>kt_tab_in l.prog w X' (D:=NUM0) tN (by decide +kernel) qN⟩
  have hWg:=mg_of X G hW
  have kSS:CatchB K mg "BadSize" eBadSize eBadSize true:=⟨mg_of X G aeBadSize,by rw [x1BadSize]; rfl,tBS,x6BadSize,mSS⟩
  have kSC:CatchB K mg "BadCrowd" eBadCrowd eBadSize false:=⟨mg_of X G aeBadCrowd,by rw [x1BadCrowd]; rfl,tBC,x6BadCrowd,mSC⟩
  have kCS:CatchB K mg "BadSize" eBadSize eBadCrowd false:=⟨mg_of X G aeBadSize,by rw [x1BadSize]; rfl,tBS,x6BadSize,mCS⟩
  have kCC:CatchB K mg "BadCrowd" eBadCrowd eBadCrowd true:=⟨mg_of X G aeBadCrowd,by rw [x1BadCrowd]; rfl,tBC,x6BadCrowd,mCC⟩
  have KS:Cou K mg eBadSize eBadNote:=⟨⟨_,_,_,_,kSS,kSC,rfl⟩,EBadNote.c,_,_,hWg⟩
  have KB:Cou K mg eBadCrowd eBadNote:=⟨⟨_,_,_,_,kCS,kCC,rfl⟩,EBadNote.c,_,_,hWg⟩
  have Pcell:pCell l.prog w K mg base:=⟨⟨_,_,_,d_cell Fqj B,mg_of X G atqj,kqj,bqj⟩⟩
  have Pbits:pBits l.prog w K mg base:=⟨⟨_,_,_,d_bits Fqk B,mg_of X G atqk,kqk,bqk⟩⟩
  have Pcrowds:pCrowds l.prog w K mg base:=⟨⟨_,_,_,d_crowds Fql B Pbits,mg_of X G atql,kql,bql⟩⟩
  have Pmany:pMany l.prog w K mg base:=⟨⟨_,_,_,d_many Fqm B,mg_of X G atqm,kqm,bqm⟩⟩
  have Psome:pSome l.prog w K mg base:=⟨⟨_,_,_,d_some Fqn B Pcell Pbits,mg_of X G atqn,kqn,bqn⟩⟩
  have Pweighed:pWeighed l.prog w K mg base:=⟨⟨_,_,_,d_weighed Fqo B Pcell Pcrowds,mg_of X G atqo,kqo,bqo⟩⟩
  have Ptold:pTold l.prog w K mg base:=⟨⟨_,_,_,d_told Fqp B Pcell Pbits Pcrowds Psome Pweighed,mg_of X G atqp,kqp,bqp⟩⟩
  have Pin:pIn l.prog w K mg base:=⟨⟨_,_,_,d_in Fqq B,mg_of X G atqq,kqq,bqq⟩⟩
  have Pcarries:pCarries l.prog w K mg base:=⟨⟨_,_,_,d_carries Fqr B Pin,mg_of X G atqr,kqr,bqr⟩⟩
  have Pleast:pLeast l.prog w K mg base:=⟨⟨_,_,_,d_least Fqs B Pcrowds Pin Pcarries,mg_of X G atqs,kqs,bqs⟩⟩
  have PchkSize:pChkSize l.prog w K mg base:=⟨⟨_,_,_,d_chkSize Fq1 hM,mg_of X G atq1,kq1,bq1⟩⟩
  have PchkCrowd:pChkCrowd l.prog w K mg base:=⟨⟨_,_,_,d_chkCrowd Fq2,mg_of X G atq2,kq2,bq2⟩⟩
  have Pplace:pPlace l.prog w K mg base:=⟨⟨_,_,_,d_place Fq3 B,mg_of X G atq3,kq3,bq3⟩⟩
  have PinOrder:pInOrder l.prog w K mg base:=⟨⟨_,_,_,d_inOrder Fq4 B Pplace,mg_of X G atq4,kq4,bq4⟩⟩
  have PliesIn:pLiesIn l.prog w K mg base:=⟨⟨_,_,_,d_liesIn Fq5 B,mg_of X G atq5,kq5,bq5⟩⟩
  have PoneIn:pOneIn l.prog w K mg base:=⟨⟨_,_,_,d_oneIn Fq6 B PliesIn,mg_of X G atq6,kq6,bq6⟩⟩
  have PleastOf:fLeastOf l.prog w K mg base:=⟨⟨_,_,_,d_leastOf Fq7 B PinOrder PoneIn,mg_of X G atq7,kq7,bq7⟩⟩
  have Nmk:nMk l.prog w K mg base C:=⟨⟨_,_,_,d_init Fq8 cl n1 n2 PchkSize PchkCrowd PleastOf,⟨mk,atq8,iq8,kc⟩,mg_of X G aC,bq8⟩⟩
  have Mmany:mMany l.prog w K mg base C:=⟨⟨_,_,_,d_cmany Fq9 cl n1,⟨atq9,iq9,kq9⟩,bq9⟩⟩
  have Mleast:mLeast l.prog w K mg base C:=⟨⟨_,_,_,d_cleast Fqb cl n2 B,⟨atqb,iqb,kqb⟩,bqb⟩⟩
  have Pcshown:pCShown l.prog w K mg base:=⟨⟨_,_,_,d_cshown Fqc B,mg_of X G atqc,kqc,bqc⟩⟩
  have Pshown:pShown l.prog w K mg base C:=⟨⟨_,_,_,d_shown Fqd B cl Mmany Mleast Pcshown,mg_of X G atqd,kqd,bqd⟩⟩
  have PnumR:pNumR l.prog w K mg base:=⟨⟨_,_,_,d_numR Fqe TN,mg_of X G atqe,kqe,bqe⟩⟩
  have RnumR:rNumR l.prog w K mg base eBadNote:=⟨⟨_,_,_,d_numRR Fqe TN EBadNote.c hWg,mg_of X G atqe,kqe,bqe⟩⟩
  have PcrR:pCrR l.prog w K mg base:=⟨⟨_,_,_,d_crR Fqf B PnumR,mg_of X G atqf,kqf,bqf⟩⟩
  have PcrA:pCrA l.prog w K mg base:=⟨⟨_,_,_,d_crA Fqf B PnumR,mg_of X G atqf,kqf,bqf⟩⟩
  have RcrA:rCrA l.prog w K mg base eBadNote:=⟨⟨_,_,_,d_crAR Fqf B PnumR RnumR,mg_of X G atqf,kqf,bqf⟩⟩
  have PcrsR:pCrsR l.prog w K mg base:=⟨⟨_,_,_,d_crsR Fqg PcrR,mg_of X G atqg,kqg,bqg⟩⟩
  have PcsA:pCsA l.prog w K mg base:=⟨⟨_,_,_,d_csA Fqg PcrA,mg_of X G atqg,kqg,bqg⟩⟩
  have RcsA:rCsA l.prog w K mg base eBadNote:=⟨⟨_,_,_,d_csAR Fqg PcrA RcrA,mg_of X G atqg,kqg,bqg⟩⟩
  have PcouR:pCouR l.prog w K mg base C:=⟨⟨_,_,_,d_couR Fqh Nmk,mg_of X G atqh,kqh,bqh⟩⟩
  have RchkSize:rChkSize l.prog w K mg base eBadSize:=⟨⟨_,_,_,d_chkSizeR Fq1 hM EBadSize,mg_of X G atq1,kq1,bq1⟩⟩
  have RchkCrowd:rChkCrowd l.prog w K mg base eBadCrowd:=⟨⟨_,_,_,d_chkCrowdR Fq2 EBadCrowd,mg_of X G atq2,kq2,bq2⟩⟩
  have RmkS:rMkS l.prog w K mg base C eBadSize:=⟨⟨_,_,_,d_initS Fq8 RchkSize,⟨mk,atq8,iq8,kc⟩,mg_of X G aC,bq8⟩⟩
  have RmkG:rMkG l.prog w K mg base C eBadCrowd:=⟨⟨_,_,_,d_initG Fq8 PchkSize PchkCrowd RchkCrowd,⟨mk,atq8,iq8,kc⟩,mg_of X G aC,bq8⟩⟩
  have LcouS:lCouS l.prog w K mg base eBadNote:=⟨⟨_,_,_,d_couS Fqh KS RmkS,mg_of X G atqh,kqh,bqh⟩⟩
  have LcouG:lCouG l.prog w K mg base eBadNote:=⟨⟨_,_,_,d_couG Fqh KB RmkG,mg_of X G atqh,kqh,bqh⟩⟩
  have Pread:pRead l.prog w K mg base C:=⟨⟨_,_,_,d_read Fqi B PnumR PcrsR PcouR Pshown,mg_of X G atqi,kqi,bqi⟩⟩
  have Lread:V.lRead l.prog w K mg base eBadNote:=⟨⟨_,_,_,d_readR Fqi B PnumR RnumR PcsA RcsA PcouR LcouS LcouG Pshown EBadNote.c hWg,mg_of X G atqi,kqi,bqi⟩⟩
  have Plshown:pLShown l.prog w K mg base:=⟨⟨_,_,_,d_lshown Fqt B Pleast,mg_of X G atqt,kqt,bqt⟩⟩
  have Plsp:pLSpoiled l.prog w K mg base:=⟨⟨_,_,_,d_lspoiled Fqu B,mg_of X G atqu,kqu,bqu⟩⟩
  have Plodd:pLOdd l.prog w K mg base:=⟨⟨_,_,_,d_lodd Fqv,mg_of X G atqv,kqv,bqv⟩⟩
  have Plcrowd:pLCrowd l.prog w K mg base:=⟨⟨_,_,_,d_lcrowd Fqw B,mg_of X G atqw,kqw,bqw⟩⟩
  have Pldue:pLDue l.prog w K mg base:=⟨⟨_,_,_,d_ldue Fqx B Plcrowd Pin,mg_of X G atqx,kqx,bqx⟩⟩
  have Ptb1:pTb1 l.prog w K mg base C:=⟨⟨_,_,_,d_tb1 Fqy Pread,mg_of X G atqy,kqy,bqy⟩⟩
  have Ptb2:pTb2 l.prog w K mg base:=⟨⟨_,_,_,d_tb2 Fqy B Lread EBadNote IBadNote_Unlike IBadNote_BadSize IBadNote_BadWeights IBadNote_BadCrowd IBadNote_NoMember IBadNote_BadNote,mg_of X G atqy,kqy,bqy⟩⟩
  have Prt1:pRt1 l.prog w K mg base:=⟨⟨_,_,_,d_rt1 Fqz B CI hmC jk Mmany Mleast Pshown Ptb1,mg_of X G atqz,kqz,bqz⟩⟩
  have Prt2:pRt2 l.prog w K mg base:=⟨⟨_,_,_,d_rt2 Fqz Ptb2,mg_of X G atqz,kqz,bqz⟩⟩
  exact d_law Fq10 Pcell Pmany Ptold Plshown Plsp Plodd Pldue Prt1 Prt2
theorem sq_in {K:PySem.W.Frag}{H:Hp}{a:Addr}{ns:List Int}(hl:ns.length≤63)(hS:SqL K H a (ns.map V.int)){E:XK}:PureSp K aLaw (fun ns=>ns.length≤63) (fun _ d=>d = .bl true) [.ref a] H (fun v _=>v = .bl true) E:=
  ⟨fun _=>False,ns,fun _ z=>z.elim,Reps.cons (rep_lst.mpr ⟨a,_,rfl,hS.imp (fun r=>⟨id,r⟩) id,reps_ints.mpr rfl⟩) Reps.nil,hl,fun d v H' hd _ r=>by rw [hd] at r; exact rep_bl.mp r⟩
theorem walk {l:PySem.W.OpenLaw}{q:Program}{loose:List Str}{XP:(Str→Option Value)→Heap→Prop}{YP:World→Heap→Prop}{d:DefRec}{K:Params→PySem.W.Frag}(hn:l.most=some 63)(hdf:d.params.defaults = [])(hY:∀ (w:World) (h:Heap),YP w h→(K w.params).In h)(F:∀ (w:World) (mg:Str→Option Value) (fa:Addr) (h:Heap),(K w.params).In h→h.Ns mainGlobals mg→mg d.name=some (.ref fa) →
      ∃fd:FuncData,(∀ (s:Shared) (u:Value),BindsTo s fd ⟨[u],[]⟩ [("script",u)]) ∧ ∀base:Heap,(K w.params).In base→base.Ns mainGlobals mg→FnOk l.prog w (K w.params) mg base CX0 12 fa fd ["script"] (PureSp (K w.params) aLaw (fun ns=>ns.length≤63) fun _ d=>d = .bl true)) :
    PySem.W.WalkO q loose XP YP l.row.toRowW d [] (fun f vs=>PySem.call f vs):=
  L2.walk_of (n:=63) (k:=12) (x := "script") (CX:=fun _=>CX0) (sp:=fun w=>PureSp (K w.params) aLaw (fun ns=>ns.length≤63) fun _ d=>d = .bl true) hn (by decide) hdf ⟨rfl,by decide,by decide⟩ hY F (fun _ _ a ns hl _ hS=>sq_in hl hS) fun _ _ _ _ _ z=>z
end V
def PySem.W.Fast.tw13876878302343314143:Unit:=()
def PySem.W.Fast.tw3646415380294229683:Unit:=()
def PySem.W.Fast.tw15243086443742972791:Unit:=()
def PySem.W.Fast.tw12183955330671901042:Unit:=()
def PySem.W.Fast.tw8504972550283590862:Unit:=()
def PySem.W.Fast.tw17253784509976389413:Unit:=()
def PySem.W.Fast.tw3958250144821723424:Unit:=()
def PySem.W.Fast.tw10148341878232834200:Unit:=()
def PySem.W.Fast.tw2838318691524714254:Unit:=()
def PySem.W.Fast.tw15207300132748254629:Unit:=()
def PySem.W.Fast.tw17700256811421293816:Unit:=()
def PySem.W.Fast.tw11072566678497670128:Unit:=()
def PySem.W.Fast.tw9722489356787427522:Unit:=()
open PySem PySem.W PyProof.Rows
set_option maxRecDepth 100000 in
set_option maxHeartbeats 0 in
theorem PySem.Challenge.cw_votesway_k10_texts_read_holds : PySem.Challenge.rw_votesway_k10_texts_read.Holds := by
  w_on; o_law; k_head; (case hw=>w_witness2)
  k_fill
  refine V.walk (l:=PySem.Challenge.rw_votesway_k10_texts_read) rfl rfl (fun w h Y=>PySem.W.kIn_of Y) ?F
  case F =>
    intro w mg fa h KX G hmg
    refine' V.all_mk KX G hmg ?aC ?hM ?atq1 ?lq1 ?cq1 ?kq1 ?atq2 ?lq2 ?cq2 ?kq2 ?atq3 ?lq3 ?cq3 ?kq3 ?atq4 ?lq4 ?cq4 ?kq4 ?atq5 ?lq5 ?cq5 ?kq5 ?atq6 ?lq6 ?cq6 ?kq6 ?atq7 ?lq7 ?cq7 ?kq7 ?atq8 ?iq8 ?lq8 ?cq8 ?kq8 ?atq9 ?iq9 ?lq9 ?cq9 ?kq9 ?atqb ?iqb ?lqb ?cqb ?kqb ?atqc ?lqc ?cqc ?kqc ?atqd ?lqd ?cqd ?kqd ?atqe ?lqe ?cqe ?kqe ?atqf ?lqf ?cqf ?kqf ?atqg ?lqg ?cqg ?kqg ?atqh ?lqh ?cqh ?kqh ?atqi ?lqi ?cqi ?kqi ?atqj ?lqj ?cqj ?kqj ?atqk ?lqk ?cqk ?kqk ?atql ?lql ?cql ?kql ?atqm ?lqm ?cqm ?kqm ?atqn ?lqn ?cqn ?kqn ?atqo ?lqo ?cqo ?kqo ?atqp ?lqp ?cqp ?kqp ?atqq ?lqq ?cqq ?kqq ?atqr ?lqr ?cqr ?kqr ?atqs ?lqs ?cqs ?kqs ?atqt ?lqt ?cqt ?kqt ?atqu ?lqu ?cqu ?kqu ?atqv ?lqv ?cqv ?kqv ?atqw ?lqw ?cqw ?kqw ?atqx ?lqx ?cqx ?kqx ?atqy ?lqy ?cqy ?kqy ?atqz ?lqz ?cqz ?kqz ?atq10 ?lq10 ?cq10 ?kq10 ?pg ?hd ?po ?sa ?mk ?kc ?n1 ?n2 ?aeVoteError ?aeBadCrowd ?aeBadSize ?aeNoMember ?aeBadWeights ?aeUnlike ?aeBadNote ?vc ?vT ?vB ?zVE ?xn ?xk ?x0BadCrowd ?x1BadCrowd ?x2BadCrowd ?x3BadCrowd ?x4BadCrowd ?x5BadCrowd ?x6BadCrowd ?x7BadCrowd ?x8BadCrowd ?x0BadSize ?x1BadSize ?x2BadSize ?x3BadSize ?x4BadSize ?x5BadSize ?x6BadSize ?x7BadSize ?x8BadSize ?x0BadNote ?x1BadNote ?x2BadNote ?x3BadNote ?x4BadNote ?x5BadNote ?x6BadNote ?x7BadNote ?x8BadNote ?kBadNote_Unlike ?kBadNote_BadSize ?kBadNote_BadWeights ?kBadNote_BadCrowd ?kBadNote_NoMember ?kBadNote_BadNote ?ja ?jm ?jk ?aN ?tN ?qN ?hW ?tBC ?tBS ?mSS ?mSC ?mCS ?mCC ?z0 ?z1 ?z2 ?z3 ?z4 ?z5 ?z6 ?z7 ?z8 ?z9 ?z10 ?z11 ?z12 ?z13 ?z14 ?z15
    (case aC=>k_is)
    (case hM=>k_is)
    (case atq1=>k_is)
    (case lq1=>k_is)
    (case cq1=>k_is)
    (case kq1=>k_is)
    (case atq2=>k_is)
    (case lq2=>k_is)
    (case cq2=>k_is)
    (case kq2=>k_is)
    (case atq3=>k_is)
    (case lq3=>k_is)
    (case cq3=>k_is)
    (case kq3=>k_is)
    (case atq4=>k_is)
    (case lq4=>k_is)
    (case cq4=>k_is)
    (case kq4=>k_is)
    (case atq5=>k_is)
    (case lq5=>k_is)
    (case cq5=>k_is)
    (case kq5=>k_is)
    (case atq6=>k_is)
    (case lq6=>k_is)
    (case cq6=>k_is)
    (case kq6=>k_is)
    (case atq7=>k_is)
    (case lq7=>k_is)
    (case cq7=>k_is)
    (case kq7=>k_is)
    (case atq8=>k_is)
    (case iq8=>k_is)
    (case lq8=>k_is)
    (case cq8=>k_is)
    (case kq8=>k_is)
    (case atq9=>k_is)
    (case iq9=>k_is)
    (case lq9=>k_is)
    (case cq9=>k_is)
    (case kq9=>k_is)
    (case atqb=>k_is)
    (case iqb=>k_is)
    (case lqb=>k_is)
    (case cqb=>k_is)
    (case kqb=>k_is)
    (case atqc=>k_is)
    (case lqc=>k_is)
    (case cqc=>k_is)
    (case kqc=>k_is)
    (case atqd=>k_is)
    (case lqd=>k_is)
    (case cqd=>k_is)
    (case kqd=>k_is)
    (case atqe=>k_is)
    (case lqe=>k_is)
    (case cqe=>k_is)
    (case kqe=>k_is)
    (case atqf=>k_is)
    (case lqf=>k_is)
    (case cqf=>k_is)
    (case kqf=>k_is)
    (case atqg=>k_is)
    (case lqg=>k_is)
    (case cqg=>k_is)
    (case kqg=>k_is)
    (case atqh=>k_is)
    (case lqh=>k_is)
    (case cqh=>k_is)
    (case kqh=>k_is)
    (case atqi=>k_is)
    (case lqi=>k_is)
    (case cqi=>k_is)
    (case kqi=>k_is)
    (case atqj=>k_is)
    (case lqj=>k_is)
    (case cqj=>k_is)
    (case kqj=>k_is)
    (case atqk=>k_is)
    (case lqk=>k_is)
    (case cqk=>k_is)
    (case kqk=>k_is)
    (case atql=>k_is)
    (case lql=>k_is)
    (case cql=>k_is)
    (case kql=>k_is)
    (case atqm=>k_is)
    (case lqm=>k_is)
    (case cqm=>k_is)
    (case kqm=>k_is)
    (case atqn=>k_is)
    (case lqn=>k_is)
    (case cqn=>k_is)
    (case kqn=>k_is)
    (case atqo=>k_is)
    (case lqo=>k_is)
    (case cqo=>k_is)
    (case kqo=>k_is)
    (case atqp=>k_is)
    (case lqp=>k_is)
    (case cqp=>k_is)
    (case kqp=>k_is)
    (case atqq=>k_is)
    (case lqq=>k_is)
    (case cqq=>k_is)
    (case kqq=>k_is)
    (case atqr=>k_is)
    (case lqr=>k_is)
    (case cqr=>k_is)
    (case kqr=>k_is)
    (case atqs=>k_is)
    (case lqs=>k_is)
    (case cqs=>k_is)
    (case kqs=>k_is)
    (case atqt=>k_is)
    (case lqt=>k_is)
    (case cqt=>k_is)
    (case kqt=>k_is)
    (case atqu=>k_is)
    (case lqu=>k_is)
    (case cqu=>k_is)
    (case kqu=>k_is)
    (case atqv=>k_is)
    (case lqv=>k_is)
    (case cqv=>k_is)
    (case kqv=>k_is)
    (case atqw=>k_is)
    (case lqw=>k_is)
    (case cqw=>k_is)
    (case kqw=>k_is)
    (case atqx=>k_is)
    (case lqx=>k_is)
    (case cqx=>k_is)
    (case kqx=>k_is)
    (case atqy=>k_is)
    (case lqy=>k_is)
    (case cqy=>k_is)
    (case kqy=>k_is)
    (case atqz=>k_is)
    (case lqz=>k_is)
    (case cqz=>k_is)
    (case kqz=>k_is)
    (case atq10=>k_is)
    (case lq10=>k_is)
    (case cq10=>k_is)
    (case kq10=>k_is)
    (case pg=>k_is)
    (case hd=>k_is)
    (case po=>k_is)
    (case sa=>k_is)
    (case mk=>k_is)
    (case kc=>k_is)
    (case n1=>k_is)
    (case n2=>k_is)
    (case aeVoteError=>k_is)
    (case aeBadCrowd=>k_is)
    (case aeBadSize=>k_is)
    (case aeNoMember=>k_is)
    (case aeBadWeights=>k_is)
    (case aeUnlike=>k_is)
    (case aeBadNote=>k_is)
    (case vc=>k_is)
    (case vT=>k_is)
    (case vB=>k_is)
    (case zVE=>k_is)
    (case xn=>k_is)
    (case xk=>k_is)
    (case x0BadCrowd=>k_exc)
    (case x1BadCrowd=>k_is)
    (case x2BadCrowd=>k_is)
    (case x3BadCrowd=>k_is)
    (case x4BadCrowd=>k_is)
    (case x5BadCrowd=>k_is)
    (case x6BadCrowd=>k_is)
    (case x7BadCrowd=>k_is)
    (case x8BadCrowd=>kit_is)
    (case x0BadSize=>k_exc)
    (case x1BadSize=>k_is)
    (case x2BadSize=>k_is)
    (case x3BadSize=>k_is)
    (case x4BadSize=>k_is)
    (case x5BadSize=>k_is)
    (case x6BadSize=>k_is)
    (case x7BadSize=>k_is)
    (case x8BadSize=>kit_is)
    (case x0BadNote=>k_exc)
    (case x1BadNote=>k_is)
    (case x2BadNote=>k_is)
    (case x3BadNote=>k_is)
    (case x4BadNote=>k_is)
    (case x5BadNote=>k_is)
    (case x6BadNote=>k_is)
    (case x7BadNote=>k_is)
    (case x8BadNote=>kit_is)
    (case kBadNote_Unlike=>kit_is)
    (case kBadNote_BadSize=>kit_is)
    (case kBadNote_BadWeights=>kit_is)
    (case kBadNote_BadCrowd=>kit_is)
    (case kBadNote_NoMember=>kit_is)
    (case kBadNote_BadNote=>kit_is)
    (case ja=>k_is)
    (case jm=>k_is)
    (case jk=>kit_is)
    (case aN=>k_is)
    (case tN=>kernel_rfl)
    (case qN=>kernel_rfl)
    (case hW=>k_is)
    (case tBC=>k_is)
    (case tBS=>k_is)
    (case mSS=>k_is)
    (case mSC=>k_is)
    (case mCS=>k_is)
    (case mCC=>k_is)
    (case z0=>k_is)
    (case z1=>k_is)
    (case z2=>k_is)
    (case z3=>k_is)
    (case z4=>k_is)
    (case z5=>k_is)
    (case z6=>k_is)
    (case z7=>k_is)
    (case z8=>k_is)
    (case z9=>k_is)
    (case z10=>k_is)
    (case z11=>k_is)
    (case z12=>k_is)
    (case z13=>k_is)
    (case z14=>k_is)
    (case z15=>k_is)
#print axioms PySem.Challenge.cw_votesway_k10_texts_read_holds
