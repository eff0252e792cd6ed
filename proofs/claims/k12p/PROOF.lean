import PyProof.Rows.All
import Wide.All
import OpenK.AllK
import Wide.FinOn
import Lean
import PyProof.EqAt
import PyProof.EqKinds
import PyProof.TupleCall
import KE.KDictSum
import PyProof.AttrMissHeap
import PyProof.WalksMore
import KE.LcSums
import PyProof.AutoListH
import PyProof.ListMulRoad
import KE.KSortTup
import PyProof.ZipIter
import PySem.Challenge.RW_leastrecord_k12_whole_hands_alone
set_option genSizeOf false
set_option compiler.extract_closed false
set_option bootstrap.genMatcherCode false
def PySem.W.Fast.tw8582892909898360900:Nat:=0
def PySem.W.Fast.tw17170790131117122428:Nat:=0
def PySem.W.Fast.tw10821479544561757129:Nat:=0
def PySem.W.Fast.tw7994986099505981787:Nat:=0
def PySem.W.Fast.tw15509889005558426339:Nat:=0
def PySem.W.Fast.tw8828319347340995234:Nat:=0
def PySem.W.Fast.tw18305431148026112899:Nat:=0
def PySem.W.Fast.tw2775134756637477953:Nat:=0
def PySem.W.Fast.tw7602656895760399036:Nat:=0
def PySem.W.Fast.tw1307055416890957938:Nat:=0
def PySem.W.Fast.tw16341179250990958776:Nat:=0
def PySem.W.Fast.tw13647689762615498421:Nat:=0
def PySem.W.Fast.tw6120525096003255407:Nat:=0
def PySem.W.Fast.tw2300838822251918001:Nat:=0
def PySem.W.Fast.tw4656134367218960191:Nat:=0
def PySem.W.Fast.tw1904750195174150807:Nat:=0
def PySem.W.Fast.tw5336594090968155346:Nat:=0
def PySem.W.Fast.tw7652927794748554012:Nat:=0
def PySem.W.Fast.tw10311132960659441182:Nat:=0
def PySem.W.Fast.tw11014472294016179705:Nat:=0
def PySem.W.Fast.tw9183300975497260552:Nat:=0
def PySem.W.Fast.tw14283704978863544397:Nat:=0
def PySem.W.Fast.tw12658895003535170792:Nat:=0
def PySem.W.Fast.tw3542218190135164036:Nat:=0
def PySem.W.Fast.tw4318820250876893585:Nat:=0
def PySem.W.Fast.tw10664957205844159558:Nat:=0
def PySem.W.Fast.tw14867752819897923468:Nat:=0
def PySem.W.Fast.tw17694349756609347503:Nat:=0
def PySem.W.Fast.tw565723800656813210:Nat:=0
def PySem.W.Fast.tw5841674019158923225:Nat:=0
def PySem.W.Fast.tw2676637643557305350:Nat:=0
def PySem.W.Fast.tw3991207039440311336:Nat:=0
def PySem.W.Fast.tw14873489222568589582:Nat:=0
def PySem.W.Fast.tw3791762152383890744:Nat:=0
def PySem.W.Fast.tw11289649263563967237:Nat:=0
def PySem.W.Fast.tw8671826262037709476:Nat:=0
def PySem.W.Fast.tw8156526849745962659:Nat:=0
def PySem.W.Fast.tw14663810369720911788:Nat:=0
def PySem.W.Fast.tw15427457569632774037:Nat:=0
def PySem.W.Fast.tw8670695145495078778:Nat:=0
def PySem.W.Fast.tw15786943530306121000:Nat:=0
def PySem.W.Fast.tw6344273028323591300:Nat:=0
def PySem.W.Fast.tw4349079697881742813:Nat:=0
def PySem.W.Fast.tw12451163168610021839:Nat:=0
def PySem.W.Fast.tw1760295863705785357:Nat:=0
def PySem.W.Fast.tw15957007901622640263:Nat:=0
def PySem.W.Fast.tw16280362688661757348:Nat:=0
def PySem.W.Fast.tw2894041175845142899:Nat:=0
def PySem.W.Fast.tw7527593963016749941:Nat:=0
def PySem.W.Fast.tw17289474224053814979:Nat:=0
def PySem.W.Fast.tw16764915728542103392:Nat:=0
def PySem.W.Fast.tw11603372654808368414:Nat:=0
def PySem.W.Fast.tw3182927411554094153:Nat:=0
def PySem.W.Fast.tw15802785471928866284:Nat:=0
def PySem.W.Fast.tw2147583432133814039:Nat:=0
def PySem.W.Fast.tw14351099729791628995:Nat:=0
def PySem.W.Fast.tw6909250532310958724:Nat:=0
def PySem.W.Fast.tw3523367964467175424:Nat:=0
def PySem.W.Fast.tw332508057748836519:Nat:=0
def PySem.W.Fast.tw1949645220872828614:Nat:=0
def PySem.W.Fast.tw9436897329409447046:Nat:=0
def PySem.W.Fast.tw16537584445228570531:Nat:=0
def PySem.W.Fast.tw10739294308857736548:Nat:=0
def PySem.W.Fast.tw9635913035425061929:Nat:=0
def PySem.W.Fast.tw10036605455074518164:Nat:=0
def PySem.W.Fast.tw15971081431816995671:Nat:=0
def PySem.W.Fast.tw9373817758651808767:Nat:=0
noncomputable section
set_option Elab.async false
set_option linter.all false
set_option maxRecDepth 100000
section
namespace L2
open PySem PySem.Spec PyProof.Rows
abbrev Key:=Sum Int Str
noncomputable def nc:Key->Value->Bool
 | .inl k,v=>Value.isInt k v
 | .inr x,v=>Value.isStrOf x v
noncomputable def Nf (w:World):Key->Int
 | .inl k=>hashInt k
 | .inr x=>hashStr w x
theorem bL: ∀ {k:Key} {v:Value},nc k v=true->(∃ i t,k=Sum.inl i∧v=Value.int i t)∨(∃ x t,k=Sum.inr x∧v=Value.str x t)
 | .inl i,v,h=>by
  obtain ⟨t,e⟩:=Value.isInt_shape (k:=i) (v:=v) h
  exact .inl ⟨i,t,rfl,e⟩
 | .inr x,v,h=>by
  obtain ⟨t,e⟩:=Value.isStrOf_shape (x:=x) (v:=v) h
  exact .inr ⟨x,t,rfl,e⟩
theorem wq (i:Int) (t:Tok):nc (.inl i) (.int i t)=true:=by simp [nc,Value.isInt]
theorem kI (x:Str) (t:Tok):nc (.inr x) (.str x t)=true:=by simp [nc,Value.isStrOf]
theorem Hw (a b:Int):decide ((Sum.inl a:Key)=Sum.inl b)=(a == b):=by
 by_cases e:a=b
 · subst e;simp
 · have h: ¬ (Sum.inl a:Key)=Sum.inl b:=fun q=>e (Sum.inl.inj q)
   rw [decide_eq_false h]
   exact (beq_eq_false_iff_ne.mpr e).symm
theorem Iz (a b:Str):decide ((Sum.inr a:Key)=Sum.inr b)=decide (a=b):=by
 by_cases e:a=b
 · subst e;simp
 · have h: ¬ (Sum.inr a:Key)=Sum.inr b:=fun q=>e (Sum.inr.inj q)
   rw [decide_eq_false h,decide_eq_false e]
theorem FN (a:Int) (b:Str):decide ((Sum.inl a:Key)=Sum.inr b)=false:=decide_eq_false (fun q=>nomatch q)
theorem G5 (a:Str) (b:Int):decide ((Sum.inr a:Key)=Sum.inl b)=false:=decide_eq_false (fun q=>nomatch q)
noncomputable def aI (prog:Program) (w:World):PySem.KeyKind prog w Key where
 is:=nc
 hash:=Nf w
 inj:=fun v a b ha hb=>by
  rcases bL ha with ⟨i,t,rfl,rfl⟩ | ⟨x,t,rfl,rfl⟩
  · rcases bL hb with ⟨j,u,rfl,e⟩ | ⟨y,u,rfl,e⟩
    · injection e with e1 _;rw [e1]
    · exact nomatch e
  · rcases bL hb with ⟨j,u,rfl,e⟩ | ⟨y,u,rfl,e⟩
    · exact nomatch e
    · injection e with e1 _;rw [e1]
 byValue:=fun k v h=>by
  rcases bL h with ⟨i,t,rfl,rfl⟩ | ⟨x,t,rfl,rfl⟩<;>rfl
 pyHash:=fun hv h=>by
  rcases bL hv with ⟨i,t,rfl,rfl⟩ | ⟨x,t,rfl,rfl⟩
  · exact wpAny_pyHash_int h
  · exact wpAny_pyHash_str h
 eqBool:=fun hu hv h=>by
  rcases bL hu with ⟨i,t,rfl,rfl⟩ | ⟨x,t,rfl,rfl⟩
  · rcases bL hv with ⟨j,u,rfl,rfl⟩ | ⟨y,u,rfl,rfl⟩
    · rw [Hw] at h;exact wpAny_eqBool_int h
    · rw [FN] at h;exact SeqAt.EqAt.int_str i t y u _ _ _ _ h
  · rcases bL hv with ⟨j,u,rfl,rfl⟩ | ⟨y,u,rfl,rfl⟩
    · rw [G5] at h;exact SeqAt.EqAt.str_int x t j u _ _ _ _ h
    · rw [Iz] at h;exact wpAny_eqBool_str h
 «strs» :=fun k x t v h=>by
  rcases bL h with ⟨i,u,rfl,e⟩ | ⟨y,u,rfl,e⟩
  · exact nomatch e
  · injection e with e1 _
    subst e1
    cases v<;>rfl
theorem sx (prog:Program) (w:World) (i:Int) (t:Tok):(aI prog w).is (.inl i) (.int i t)=true:=wq i t
theorem sG (prog:Program) (w:World) (x:Str) (t:Tok):(aI prog w).is (.inr x) (.str x t)=true:=kI x t
open PySem PySem.Spec PyProof.Rows
inductive V where
 | non | bl (b:Bool) | int (i:Int) | str (x:Str) | byt (b:Array UInt8) | flt (b:UInt64) | ref (a:Addr) | ty (n:String)
 deriving DecidableEq
noncomputable def RelV:V->Value->Prop
 | .non,u=>u=Value.none
 | .bl b,u=>u=Value.bool b
 | .int i,u=> ∃ t,u=Value.int i t
 | .str x,u=> ∃ t,u=Value.str x t
 | .byt b,u=> ∃ t,u=Value.bytes b t
 | .flt b,u=> ∃ t,u=Value.float b t
 | .ref a,u=>u=Value.ref a
 | .ty n,u=>u=Value.type n
abbrev Vals:List V->List Value->Prop:=Paired RelV
theorem Vals.length {xs:List V} {us:List Value} (r:Vals xs us):xs.length=us.length:=Paired.length r
theorem Vals.get: ∀ {xs:List V} {us:List Value} {i:Nat} {x:V},Vals xs us->xs[i]?=some x-> ∃ u,us[i]?=some u∧RelV x u
 | _,_,_,_,.nil,e=>by simp at e
 | _,_,0,_,.cons r _,e=>by simp at e;subst e;exact ⟨_,rfl,r⟩
 | _,_,i+1,x,.cons _ t,e=>by
  obtain ⟨u,h1,h2⟩:=Vals.get (i:=i) (x:=x) t (by simpa using e)
  exact ⟨u,by simpa using h1,h2⟩
theorem Vals.set {x:V} {u:Value} (r:RelV x u): ∀ {xs:List V} {us:List Value} (i:Nat),Vals xs us->Vals (xs.set i x) (us.set i u)
 | _,_,_,.nil=> .nil
 | _,_,0,.cons _ t=> .cons r t
 | _,_,i+1,.cons q t=> .cons q (Vals.set r i t)
theorem Vals.append: ∀ {xs ys:List V} {us ws:List Value},Vals xs us->Vals ys ws->Vals (xs++ys) (us++ws)
 | _,_,_,_,.nil,s=>s
 | _,_,_,_,.cons r t,s=> .cons r (Vals.append t s)
theorem Vals.take: ∀ {xs:List V} {us:List Value} (n:Nat),Vals xs us->Vals (xs.take n) (us.take n)
 | _,_,0,_=> .nil
 | _,_,_+1,.nil=> .nil
 | _,_,n+1,.cons r t=> .cons r (Vals.take n t)
theorem Vals.drop: ∀ {xs:List V} {us:List Value} (n:Nat),Vals xs us->Vals (xs.drop n) (us.drop n)
 | _,_,0,r=>r
 | _,_,_+1,.nil=> .nil
 | _,_,n+1,.cons _ t=>Vals.drop n t
noncomputable def jA:Option V->Option Value->Prop
 | some v,some u=>RelV v u
 | none,none=>True
 | _,_=>False
noncomputable def KV {κ :Type}:List (κ × V)->List (κ × Value)->Prop:=Paired fun (p: κ × V) (q: κ × Value)=>p.1=q.1∧RelV p.2 q.2
noncomputable def kV:Key->V
 | .inl i=> .int i
 | .inr x=> .str x
inductive HO where
  | lst (xs:List V)
  | tup (xs:List V)
  | dK (kvs:List (Key × V)) | dT (kvs:List (List Key × V))
  | set (S:Int->Bool) (n:Nat)
  | ins (C dx:Addr) (fs:List (Str × V))
  | own (x:Addr)
  | xd (fs:List (Str × V))
  | met (f x:Addr)
  | yC (lo hi:Int)
  | jg (o:Obj) (u:HO)
  | tbl (ps:Array Value)
  | ext (φ :Heap->Prop)
abbrev Hp:=Addr->Option HO
noncomputable def upd (H:Hp) (a:Addr) (o:HO):Hp:=fun b=>if b=a then some o else H b
theorem aY {H:Hp} {a:Addr} {o:HO}:upd H a o a=some o:=by unfold upd;rw [if_pos rfl]
theorem aE {H:Hp} {a b:Addr} {o:HO} (h:b≠a):upd H a o b=H b:=by unfold upd;rw [if_neg h]
theorem oP {H:Hp} {a b:Addr} {o u:HO} (h:H a=some o) (h':H b=some u) (d:o≠u):a≠b:=by
 intro e;subst e;rw [h] at h';exact d (Option.some.inj h')
theorem aF {H:Hp} {a b:Addr} {o:HO} (h:H a=some o) (h':H b=none):a≠b:=by
 intro e;subst e;rw [h] at h';cases h'
noncomputable def oD (h:Heap) (a:Addr) (items:Array Value):Prop:= ∃ o,h.get? a=some o∧o.cls= .type "tuple" /\ ∃ n,o.data= .seq items n∧o.dict=none
theorem oD.tup {h:Heap} {a:Addr} {items:Array Value} (x:oD h a items):IsTup h a items:=let ⟨o,e,c,n,d,_⟩:=x;⟨o,e,c,n,d⟩
theorem oD.new (h:Heap) (items:Array Value):oD (h.push { cls:= .type "tuple",data:= .seq items }) h.objs.size items:=⟨_,Heap.get?_push_size _ rfl,rfl,_,rfl,rfl⟩
section
variable (P:Program) (w:World)
noncomputable def a9 (H:Hp) (h:Heap) (a:Addr):HO->Prop
 | .lst xs=>xs.length<=sizeLine∧ ∃ (aw:List Value) (n:Nat),Vals xs aw∧h.get? a=some { cls:= .type "list",data:= .seq aw.toArray n }
 | .tup xs=>xs.length<=sizeLine∧ ∃ aw:List Value,Vals xs aw∧oD h a aw.toArray
 | .dK kvs=>kvs.length<=sizeLine∧(a == sysModules)=false∧ ∃ vs,KV kvs vs∧h.DictOf (aI P w) a vs
 | .dT kvs=>kvs.length<=sizeLine∧(a == sysModules)=false∧ ∃ xs:List (List Key × Addr × Value),
   Paired (fun (p:List Key × V) (q:List Key × Addr × Value)=>p.1=q.1∧H q.2.1=some (.tup (p.1.map kV))∧RelV p.2 q.2.2) kvs xs ∧
   ∃ o es ep,h.get? a=some o∧o.ExactDict∧o.data= .dict es ep∧es.toList=xs.map (entryOfKey (tupleKind (aI P w)))∧(xs.map (·.1)).Nodup
 | .set S n=>h.SetOf (intKind P w) a S n
 | .ins C dx fs=>H dx=some (.own a)∧fs.length<=1000∧dx≠a∧h.get? a=some (PySem.W.instObj C dx) ∧
   ∃ mA,h.Ns1 dx mA∧(∀ f,jA (fs.lookup f) (mA f))∧PySem.Within mA (fs.map (·.1))
 | .own _=> ∃ o,h.get? a=some o
 | .xd fs=> ∃ mA,h.Ns1 a mA∧ ∀ f,jA (fs.lookup f) (mA f)
 | .yC lo hi=> ∃ t u v,h.get? a=some { cls:= .type "range",data:= .fields #[.int lo t,.int hi u,.int 1 v] }
 | .jg o u=>h.get? a=some o∧a9 H h a u
 | .tbl ps=>h.get? a=some { cls:= .none,data:= .fields ps }
 | .met f x=>h.get? a=some (PySem.W.methodObj (.ref f) (.ref x))
 | .ext φ => φ h∧(∃ o,h.get? a=some o)∧ ∀ h1 h2:Heap, φ h1->(∀ o,h1.get? a=some o->h2.get? a=some o)-> φ h2
noncomputable def iY (H:Hp) (h:Heap):Prop:= ∀ a o,H a=some o->a9 P w H h a o
end
section
variable {P:Program} {w:World} {H H':Hp} {h h':Heap} {a:Addr} {o:HO}
theorem a9.lt (x:a9 P w H h a o):a < h.objs.size:=by
 cases o with
 | lst xs=>obtain ⟨_,_,_,_,e⟩:=x;exact Heap.lt_size e
 | tup xs=>obtain ⟨_,_,_,p⟩:=x;exact p.tup.lt
 | dK kvs=>obtain ⟨_,_,_,_,o,_,_,e,_⟩:=x;exact Heap.lt_size e
 | dT kvs=>obtain ⟨_,_,_,_,o,_,_,e,_⟩:=x;exact Heap.lt_size e
 | set S n=>obtain ⟨o,_,_,_,e,_⟩:=x;exact Heap.lt_size e
 | ins C dx fs=>obtain ⟨_,_,_,e,_⟩:=x;exact Heap.lt_size e
 | own y=>obtain ⟨_,e⟩:=x;exact Heap.lt_size e
 | xd fs=>obtain ⟨_,⟨_,_,_,e,_⟩,_⟩:=x;exact Heap.lt_size e
 | yC lo hi=>obtain ⟨_,_,_,e⟩:=x;exact Heap.lt_size e
 | jg ob u=>obtain ⟨e,_⟩:=x;exact Heap.lt_size e
 | tbl ps=>exact Heap.lt_size (show h.get? a=some _ from x)
 | met f y=>exact Heap.lt_size (show h.get? a=some _ from x)
 | ext φ =>obtain ⟨_,⟨_,e⟩,_⟩:=x;exact Heap.lt_size e
theorem Paired.wR {α β :Type} {F G: α -> β ->Prop}: ∀ {l₁ :List α} {l₂ :List β},Paired F l₁ l₂ ->(∀ a b,F a b->G a b)->Paired G l₁ l₂
 | _,_,.nil,_=> .nil
 | _,_,.cons r t,f=> .cons (f _ _ r) (Paired.wR t f)
theorem a9.pV (x:a9 P w H h a o) (k: ∀ b u,(b=a∨H b=some (.own a))->h.get? b=some u->h'.get? b=some u)
  (ho: ∀ b,H b=some (.own a)->H' b=some (.own a)) (ht: ∀ b xs,H b=some (.tup xs)->H' b=some (.tup xs)):a9 P w H' h' a o:=by
 induction o with
 | lst xs=>obtain ⟨z,aw,n,r,e⟩:=x;exact ⟨z,aw,n,r,k _ _ (.inl rfl) e⟩
 | tup xs=>obtain ⟨z,aw,r,ob,e,c⟩:=x;exact ⟨z,aw,r,ob,k _ _ (.inl rfl) e,c⟩
 | dK kvs=>obtain ⟨z,y,vs,r,ob,es,ep,e,c⟩:=x;exact ⟨z,y,vs,r,ob,es,ep,k _ _ (.inl rfl) e,c⟩
 | dT kvs =>
  obtain ⟨z,y,xs,r,ob,es,ep,e,c⟩:=x
  exact ⟨z,y,xs,Paired.wR r fun p q z=>⟨z.1,ht _ _ z.2.1,z.2.2⟩,ob,es,ep,k _ _ (.inl rfl) e,c⟩
 | set S n=>obtain ⟨ob,es,ep,t,e,c⟩:=x;exact ⟨ob,es,ep,t,k _ _ (.inl rfl) e,c⟩
 | ins C dx fs =>
  obtain ⟨d,z,ne,e,mA,⟨od,es,ep,e2,c⟩,r⟩:=x
  exact ⟨ho _ d,z,ne,k _ _ (.inl rfl) e,mA,⟨od,es,ep,k _ _ (.inr d) e2,c⟩,r⟩
 | own y=>obtain ⟨ob,e⟩:=x;exact ⟨ob,k _ _ (.inl rfl) e⟩
 | xd fs=>obtain ⟨mA,⟨od,es,ep,e,c⟩,r⟩:=x;exact ⟨mA,⟨od,es,ep,k _ _ (.inl rfl) e,c⟩,r⟩
 | yC lo hi=>obtain ⟨t,u,v,e⟩:=x;exact ⟨t,u,v,k _ _ (.inl rfl) e⟩
 | jg ob u ih=>obtain ⟨e,q⟩:=x;exact ⟨k _ _ (.inl rfl) e,ih q⟩
 | tbl ps =>
  have e:h.get? a=some { cls:= .none,data:= .fields ps }:=x
  show h'.get? a=some { cls:= .none,data:= .fields ps }
  exact k a _ (.inl rfl) e
 | met f y =>
  have e:h.get? a=some (PySem.W.methodObj (.ref f) (.ref y)):=x
  show h'.get? a=some (PySem.W.methodObj (.ref f) (.ref y))
  exact k a _ (.inl rfl) e
 | ext φ =>obtain ⟨p,⟨o,e⟩,st⟩:=x;exact ⟨st _ _ p fun o q=>k _ _ (.inl rfl) q,⟨o,k _ _ (.inl rfl) e⟩,st⟩
theorem iY.lt (x:iY P w H h) (e:H a=some o):a < h.objs.size:=(x a o e).lt
theorem iY.fresh (x:iY P w H h) (e:h.objs.size<=a):H a=none:=by
 cases q:H a with
 | none=>rfl
 | some u=>exact absurd (Nat.lt_of_lt_of_le (x.lt q) e) (Nat.lt_irrefl _)
theorem iY.kept (x:iY P w H h) (k: ∀ b u,h.get? b=some u->h'.get? b=some u):iY P w H h':=fun a o e =>
 (x a o e).pV (fun b u _ q=>k b u q) (fun _ q=>q) fun _ _ q=>q
theorem iY.laid (x:iY P w H h) (k: ∀ b u,h.get? b=some u->h'.get? b=some u) (hp:h.objs.size<=a) (new:a9 P w (upd H a o) h' a o):iY P w (upd H a o) h':=fun b u e=>by
 have hn:=x.fresh hp
 by_cases hb:b=a
 · subst hb;rw [aY] at e;cases e;exact new
 · rw [aE hb] at e
   exact (x b u e).pV (fun c v _ q=>k c v q) (fun c q=>by rw [aE (aF q hn)];exact q) fun c xs q=>by rw [aE (aF q hn)];exact q
end
noncomputable def Rd (H:Hp) (a:Addr) (u:HO):Prop:=H a=some u∨ ∃ o,H a=some (.jg o u)
theorem Rd.of {H:Hp} {a:Addr} {u:HO} (h:H a=some u):Rd H a u:= .inl h
theorem Rd.ok {P:Program} {w:World} {H:Hp} {h:Heap} {a:Addr} {u:HO} (r:Rd H a u) (x:iY P w H h):a9 P w H h a u:=by
 rcases r with r | ⟨o,r⟩
 · exact x a u r
 · obtain ⟨_,q⟩:=x a _ r
   exact q
noncomputable def L9:Option HO->Prop
 | some (.lst _)=>True
 | some (.dK _)=>True
 | some (.dT _)=>True
 | some (.set _ _)=>True
 | some (.ins _ _ _)=>True
 | some (.ext _)=>True
 | _=>False
section
variable {P:Program} {w:World} {H:Hp} {h h':Heap} {x e:Addr} {o':HO}
theorem iY.write (ok:iY P w H h) (mu:L9 (H x)) (he:e=x∨H e=some (.own x)) (k: ∀ b u,b≠e->h.get? b=some u->h'.get? b=some u) (heo: ∃ u,h'.get? e=some u)
  (new:a9 P w (upd H x o') h' x o'):iY P w (upd H x o') h':=fun b u q=>by
 have nown: ∀ c y,H c=some (.own y)->c≠x:=fun c y r z=>by subst z;rw [r] at mu;exact mu
 have ntup: ∀ c xs,H c=some (.tup xs)->c≠x:=fun c xs r z=>by subst z;rw [r] at mu;exact mu
 by_cases hb:b=x
 · subst hb;rw [aY] at q;cases q;exact new
 · rw [aE hb] at q
   by_cases hbe:b=e
   · have q':H b=some (.own x):=by
      rcases he with z | z
      · exact absurd (hbe.trans z) hb
      · rw [hbe];exact z
     rw [q] at q';cases q'
     obtain ⟨v,hv⟩:=heo
     exact ⟨v,by rw [hbe];exact hv⟩
   · refine (ok b u q).pV (fun c v hc r=>k c v ?_ r) (fun c r=>by rw [aE (nown c b r)];exact r) fun c xs r=>by rw [aE (ntup c xs r)];exact r
     rcases hc with rfl | hc
     · exact hbe
     · rintro rfl
       rcases he with z | z
       · exact nown c b hc z
       · rw [hc] at z;cases z;exact hb rfl
end
structure Un (fs ex:List Addr) (H H':Hp) (h h':Heap):Prop where
 keep: ∀ b o,h.get? b=some o->H b=none->b ∉ fs->b ∉ ex->h'.get? b=some o
 slot: ∀ b o,h.get? b=some o->H b=none->b∈fs->b ∉ ex-> ∃ sl,h'.get? b=some { o with slots:=sl }
 free: ∀ b o,h.get? b=some o->H b=none->b ∉ ex->H' b=none
 there: ∀ b o,h.get? b=some o->b ∉ ex-> ∃ o',h'.get? b=some o'
 kg: ∀ b xs,H b=some (.tup xs)->H' b=some (.tup xs)
 jS: ∀ b o u,H b=some (.jg o u)->H' b=some (.jg o u)
 ll: ∀ b ps,H b=some (.tbl ps)-> ∃ more,H' b=some (.tbl (ps++more))
section
variable {fs fs' ex ex':List Addr} {H H1 H2:Hp} {h h1 h2 h':Heap} {a x e:Addr} {o:HO}
theorem Un.any (u:Un fs ex H H1 h h1) {b:Addr} {ob:Obj} (q:h.get? b=some ob) (n:H b=none) (hx:b ∉ ex): ∃ sl,h1.get? b=some { ob with slots:=sl }:=by
 by_cases hb:b∈fs
 · exact u.slot b ob q n hb hx
 · exact ⟨ob.slots,u.keep b ob q n hb hx⟩
theorem Un.trans (a:Un fs ex H H1 h h1) (b:Un fs ex H1 H2 h1 h2):Un fs ex H H2 h h2 where
 keep:=fun c ob q n hc hx=>b.keep c ob (a.keep c ob q n hc hx) (a.free c ob q n hx) hc hx
 slot:=fun c ob q n hc hx=>by
  obtain ⟨sl,e1⟩:=a.slot c ob q n hc hx
  obtain ⟨sl',e2⟩:=b.slot c _ e1 (a.free c ob q n hx) hc hx
  exact ⟨sl',e2⟩
 free:=fun c ob q n hx=>by
  obtain ⟨o',e1⟩:=a.there c ob q hx
  exact b.free c o' e1 (a.free c ob q n hx) hx
 there:=fun c ob q hx=>by
  obtain ⟨o',e1⟩:=a.there c ob q hx
  exact b.there c o' e1 hx
 kg:=fun c xs q=>b.kg c xs (a.kg c xs q)
 jS:=fun c ob xs q=>b.jS c ob xs (a.jS c ob xs q)
 ll:=fun c ps q=>by
  obtain ⟨m1,e1⟩:=a.ll c ps q
  obtain ⟨m2,e2⟩:=b.ll c _ e1
  exact ⟨m1++m2,by rw [e2,Array.append_assoc]⟩
theorem Un.kept (k: ∀ b u,h.get? b=some u->h'.get? b=some u):Un fs ex H H h h' :=
 ⟨fun b ob q _ _ _=>k b ob q,fun b ob q _ _ _=>⟨ob.slots,k b ob q⟩,fun _ _ _ n _=>n,fun b ob q _=>⟨ob,k b ob q⟩,fun _ _ q=>q,fun _ _ _ q=>q,fun _ ps q=>⟨#[],by rw [q];simp⟩⟩
theorem Un.refl:Un fs ex H H h h:=Un.kept fun _ _ q=>q
theorem Un.laid (k: ∀ b u,h.get? b=some u->h'.get? b=some u) (hp:h.objs.size<=a) (hn:H a=none):Un fs ex H (upd H a o) h h' where
 keep:=fun b u q _ _ _=>k b u q
 slot:=fun b u q _ _ _=>⟨u.slots,k b u q⟩
 free:=fun b u q n _=>by rw [aE (Nat.ne_of_lt (Nat.lt_of_lt_of_le (Heap.lt_size q) hp))];exact n
 there:=fun b u q _=>⟨u,k b u q⟩
 kg:=fun b xs q=>by rw [aE (aF q hn)];exact q
 jS:=fun b u xs q=>by rw [aE (aF q hn)];exact q
 ll:=fun b ps q=>⟨#[],by rw [aE (aF q hn),q];simp⟩
theorem Un.write (mu:L9 (H x)) (he:e=x∨H e=some (.own x)) (k: ∀ b u,b≠e->h.get? b=some u->h'.get? b=some u) (heo: ∃ u,h'.get? e=some u):Un fs ex H (upd H x o) h h':=by
 have hx: ∀ b,H b=none->b≠x:=fun b n z=>by subst z;rw [n] at mu;exact mu
 have hb: ∀ b,H b=none->b≠e:=fun b n z=>by
  subst z
  rcases he with r | r
  · exact hx b n r
  · rw [n] at r;cases r
 have hm: ∀ b u,H b=some u-> ¬ L9 (some u)->b≠x:=fun b u q nm z=>by subst z;rw [q] at mu;exact nm mu
 refine ⟨fun b u q n _ _=>k b u (hb b n) q,fun b u q n _ _=>⟨u.slots,k b u (hb b n) q⟩,fun b u q n _=>by rw [aE (hx b n)];exact n,fun b u q _=>?_,
  fun b xs q=>by rw [aE (hm b _ q fun z=>z)];exact q,fun b u xs q=>by rw [aE (hm b _ q fun z=>z)];exact q,fun b ps q=>⟨#[],by rw [aE (hm b _ q fun z=>z),q];simp⟩⟩
 by_cases hbe:b=e
 · subst hbe;exact heo
 · exact ⟨u,k b u hbe q⟩
end
noncomputable def Ml (h:Heap) (H:Hp):List Addr:=(List.range h.objs.size).filter fun a=>(H a).isSome
noncomputable def qa (h:Heap) (H:Hp):Heap:=PySem.W.hideAll h (Ml h H)
theorem w6 (h:Heap) (H:Hp):(qa h H).objs.size=h.objs.size:=PySem.W.hideAll_size _ _
theorem Am {h:Heap} {H:Hp} {b:Addr} {o:Obj} (e:h.get? b=some o) (n:H b=none):(qa h H).get? b=some o :=
 PySem.W.hideAll_get _ e fun hm=>by
  have q:(H b).isSome=true:=(List.mem_filter.mp hm).2
  rw [n] at q;simp at q
theorem B3 {h:Heap} {H:Hp} {b:Addr} {o:Obj} (e:(qa h H).get? b=some o):h.get? b=some o∧H b=none:=by
 have e':h.get? b=some o:=PySem.W.of_hideAll (Ml h H) e
 refine ⟨e',?_⟩
 cases q:H b with
 | none=>rfl
 | some x =>
  have hm:b∈Ml h H:=List.mem_filter.mpr ⟨List.mem_range.mpr (Heap.lt_size e'),by simp [q]⟩
  have z:(qa h H).get? b=none:=PySem.W.hideAll_none (Ml h H) hm
  rw [z] at e;cases e
noncomputable def Cq (g h:Heap) (L:Addr):List (Addr × Obj):=(List.range h.objs.size).filterMap fun a=>if a=L∨(g.get? a).isSome=true then none else (h.get? a).map fun o=>(a,o)
noncomputable def rest (g h:Heap) (L d:Addr):List (Addr × Obj):=(Cq g h L).filter fun p=>decide (p.1≠d)
open PySem PySem.Spec PyProof.Rows
structure Mod (K:PySem.W.Frag) (mg:Str->Option Value) (base:Heap):Prop where
 MK:K.In base
 glob:base.Ns mainGlobals mg
 blt: ∃ mb,base.Ns builtinsNs mb∧ ∀ x:Str,x≠ "__name__" ->mb x=bootBuiltins x
 nolimit:base.NoLimit
structure Cx where
 prog:Program
 w:World
 K:PySem.W.Frag
 mg:Str->Option Value
 base:Heap
 A:Around
 N:List Str
 s₀ :Shared
 H₀ :Hp
 env:Env
 outer:List Env
 stack:List Env
 ex:List Addr
 fn:Str->Bool
 calm:Bool
 pn:List (Addr × Obj)
 xe:Value->Shared->Prop
noncomputable def xH (l:List Env):List Addr:=l.filterMap (·.frame)
abbrev Cx.fs (X:Cx):List Addr:=xH X.outer
noncomputable def HH (sc:Scope) (x:Str):Prop:=sc.names.lookup x=some .local∨sc.names.lookup x=some .cell∨sc.names.lookup x=some .free
noncomputable def Loc (sc:Scope) (x:Str):Prop:=sc.names.lookup x=some .local∨sc.names.lookup x=some .cell
noncomputable def Look (env:Env) (h:Heap) (m:Str->Option Value) (x:Str) (u:Value):Prop :=
 (env.kindOf x=some .local∧m x=some u)∨((env.kindOf x=some .cell∨env.kindOf x=some .free)∧ ∃ c,env.cells.lookup x=some c∧h.IsCell c (some u))
structure Cx.Ok (X:Cx):Prop where
 mod:Mod X.K X.mg X.base
 kind:X.env.scope.kind= .function
 glob:X.env.globals=mainGlobals
 blt:X.env.builtins=builtinsNs
 above:X.s₀.heap.objs.size<=X.env.locals
 inj: ∀ x y c,X.env.cells.lookup x=some c->X.env.cells.lookup y=some c->x=y
 has: ∀ x,(X.env.kindOf x=some .cell∨X.env.kindOf x=some .free)-> ∃ c,X.env.cells.lookup x=some c
 Ju: ∀ x c,X.fn x=true->X.env.cells.lookup x=some c->X.s₀.heap.objs.size<=c
 hd:X.calm=true->X.A.handled=none
 frames:X.A.frames=some X.stack
 Jw:X.stack=X.outer∨(X.stack=X.env::X.outer∧X.env.frame=some X.env.locals)
 M4: ∀ b∈X.ex,b≠X.env.locals∧ ∀ x c,X.env.cells.lookup x=some c->c≠b
 bs: ∀ b o,X.base.get? b=some o->X.s₀.heap.get? b=some o∧X.H₀ b=none
 Bc:X.base.objs.size<=X.s₀.heap.objs.size
 wj: ∀ b o,X.base.get? b=some o->b ∉ X.ex
 AM: ∀ b∈X.ex,b ∉ X.fs
 j9:X.s₀.heap.FunFrames X.base X.outer
 EO: ∀ b∈X.fs,X.H₀ b=none
structure Inv (X:Cx) (pins:List (Addr × Obj)) (σ :List (Option V)) (H:Hp) (s:Shared):Prop where
 ok:X.Ok
 os:s.os=X.s₀.os
 bare:AllBare s.gens
 base:Un X.fs X.ex X.H₀ H X.s₀.heap s.heap
 loc: ∃ m,s.heap.Ns X.env.locals m∧ ∀ (i:Nat) (x:Str) (v:V),X.N[i]?=some x-> σ[i]?=some (some v)->HH X.env.scope x-> ∃ u,RelV v u∧Look X.env s.heap m x u
 cell: ∀ x c,X.env.cells.lookup x=some c-> ∃ v,s.heap.IsCell c v
 free:H X.env.locals=none
 ie: ∀ x c,X.env.cells.lookup x=some c->H c=none
 pin: ∀ p∈X.pn++pins,s.heap.get? p.1=some p.2∧H p.1=none∧p.1≠X.env.locals∧p.1 ∉ X.fs∧ ∀ v,p.2.data≠ .cell v
 bz:iY X.prog X.w H s.heap
 len: σ.length=X.N.length
section
variable {X:Cx} {pins:List (Addr × Obj)} {σ :List (Option V)} {H H':Hp} {s:Shared} {h':Heap}
theorem Cx.Ok.Nu (ok:X.Ok) {b:Addr} {o:Obj} (e:X.base.get? b=some o):b ∉ X.fs:=fun hb=>by
 have:=(ok.j9.mem hb).1
 rw [e] at this;cases this
theorem Inv.bs (I:Inv X pins σ H s): ∀ b o,X.base.get? b=some o->s.heap.get? b=some o∧H b=none:=fun b o e =>
 ⟨I.base.keep b o (I.ok.bs b o e).1 (I.ok.bs b o e).2 (I.ok.Nu e) (I.ok.wj b o e),I.base.free b o (I.ok.bs b o e).1 (I.ok.bs b o e).2 (I.ok.wj b o e)⟩
theorem Inv.bk (I:Inv X pins σ H s): ∀ b o,X.base.get? b=some o->s.heap.get? b=some o:=fun b o e=>(I.bs b o e).1
theorem Inv.mod (I:Inv X pins σ H s):Mod X.K X.mg X.base:=I.ok.mod
theorem Inv.j1 (I:Inv X pins σ H s):X.K.In s.heap:=I.ok.mod.MK.keeps I.bk
theorem Inv.nolimit (I:Inv X pins σ H s):s.heap.NoLimit:=I.ok.mod.nolimit.keeps I.bk
theorem Inv.fr (I:Inv X pins σ H s): ∃ m,Fr X.base X.env.locals s.heap m :=
 let ⟨m,hn,_⟩:=I.loc
 ⟨m,hn,I.bk,Nat.le_trans I.ok.Bc I.ok.above⟩
theorem Inv.lt (I:Inv X pins σ H s):X.env.locals < s.heap.objs.size:=let ⟨_,hn,_⟩:=I.loc;hn.lt
theorem Inv.sz (I:Inv X pins σ H s):X.s₀.heap.objs.size<=s.heap.objs.size:=Nat.le_trans I.ok.above (Nat.le_of_lt I.lt)
theorem Inv.LR (I:Inv X pins σ H s) {a:Addr} (h:s.heap.objs.size<=a):a ∉ X.fs:=fun hb=>by
 obtain ⟨_,o,ho,_⟩:=I.ok.j9.mem hb
 exact absurd (Nat.lt_of_lt_of_le (Heap.lt_size ho) (Nat.le_trans I.sz h)) (Nat.lt_irrefl _)
theorem Inv.Fu (I:Inv X pins σ H s): ∀ x c,X.env.cells.lookup x=some c->c≠X.env.locals:=fun x c e z=>by
 obtain ⟨v,o,ho,hd⟩:=I.cell x c e
 obtain ⟨m,⟨o',es,ep,ho',hd',_⟩,_⟩:=I.loc
 rw [z,ho'] at ho;cases ho;rw [hd'] at hd;cases hd
theorem Inv.j9 (I:Inv X pins σ H s):s.heap.FunFrames X.base X.outer:=by
 have all: ∀ (l:List Env),(∀ b∈xH l,b∈X.fs)->X.s₀.heap.FunFrames X.base l->s.heap.FunFrames X.base l:=by
  intro l
  induction l with
  | nil=>intro _ _;trivial
  | cons env r ih =>
   intro hs hl
   obtain ⟨hk,⟨L,o,hf,hn,ho,hd⟩,hr⟩:=hl
   have hL:L∈X.fs:=hs L (by unfold xH;rw [List.filterMap_cons,hf];exact List.mem_cons_self)
   obtain ⟨sl,e⟩:=I.base.slot L o ho (I.ok.EO L hL) hL fun z=>I.ok.AM L z hL
   exact ⟨hk,⟨L,_,hf,hn,e,hd⟩,ih (fun b hb=>hs b (by unfold xH;rw [List.filterMap_cons,hf];exact List.mem_cons_of_mem _ hb)) hr⟩
 exact all X.outer (fun _ hb=>hb) I.ok.j9
theorem Inv.stack (I:Inv X pins σ H s):s.heap.FunFrames X.base X.stack:=by
 rcases I.ok.Jw with e | ⟨e,hf⟩
 · rw [e];exact I.j9
 · rw [e]
   obtain ⟨m,hn,_⟩:=I.loc
   refine .cons (by rw [I.ok.kind];decide) hf hn ?_ I.j9
   exact Heap.get?_none_of_le (Nat.le_trans I.ok.Bc I.ok.above)
theorem Inv.ke (I:Inv X pins σ H s): ∀ b∈xH X.stack,b∈X.env.locals::X.fs:=fun b hb=>by
 rcases I.ok.Jw with e | ⟨e,hf⟩
 · rw [e] at hb;exact List.mem_cons_of_mem _ hb
 · rw [e] at hb
   unfold xH at hb
   rw [List.filterMap_cons,hf] at hb
   exact hb
theorem Inv.vJ (I:Inv X pins σ H s): ∀ b∈xH X.stack,H b=none:=fun b hb=>by
 rcases List.mem_cons.mp (I.ke b hb) with e | hb
 · rw [e];exact I.free
 · obtain ⟨_,o,ho,_⟩:=I.ok.j9.mem hb
   exact I.base.free b o ho (I.ok.EO b hb) fun z=>I.ok.AM b z hb
theorem Inv.step {g':Array GenState} {t':Nat} {d':Drawn} {ch:List Addr} (I:Inv X pins σ H s)
  (hch: ∀ b∈ch,(b∈X.ex∨X.s₀.heap.objs.size<=b)∧b≠X.env.locals∧(∀ x c,X.env.cells.lookup x=some c->c≠b)∧ ∀ p∈X.pn++pins,p.1≠b)
  (keep: ∀ b o,b≠X.env.locals->b ∉ X.fs->b ∉ ch->s.heap.get? b=some o->H b=none->h'.get? b=some o)
  (slot: ∀ b o,b≠X.env.locals->b∈X.fs->b ∉ ch->s.heap.get? b=some o->H b=none-> ∃ sl,h'.get? b=some { o with slots:=sl }) (free: ∀ b o,b ∉ ch->s.heap.get? b=some o->H b=none->H' b=none)
  (there: ∀ b o,b ∉ ch->s.heap.get? b=some o-> ∃ o',h'.get? b=some o')
  (kg: ∀ b xs,H b=some (.tup xs)->H' b=some (.tup xs)) (jS: ∀ b o u,H b=some (.jg o u)->H' b=some (.jg o u)) (ll: ∀ b ps,H b=some (.tbl ps)-> ∃ more,H' b=some (.tbl (ps++more)))
  (ns: ∀ m,s.heap.Ns X.env.locals m->h'.Ns X.env.locals m) (bz:iY X.prog X.w H' h') (hg:AllBare g') :
  Inv X pins σ H' { s with heap:=h',gens:=g',drawn:=d',toks:=t' }:=by
 have neL: ∀ b o,X.s₀.heap.get? b=some o->b≠X.env.locals:=fun b o e=>Nat.ne_of_lt (Nat.lt_of_lt_of_le (Heap.lt_size e) I.ok.above)
 have neC: ∀ b o,X.s₀.heap.get? b=some o->b ∉ X.ex->b ∉ ch:=fun b o e hx hb=>by
  rcases (hch b hb).1 with z | z
  · exact hx z
  · exact absurd (Nat.lt_of_lt_of_le (Heap.lt_size e) z) (Nat.lt_irrefl _)
 have cellK: ∀ x c,X.env.cells.lookup x=some c-> ∀ v,s.heap.IsCell c v->h'.IsCell c v:=fun x c e v ⟨o,ho,hd⟩=>by
  have nch:c ∉ ch:=fun z=>(hch c z).2.2.1 x c e rfl
  by_cases hc:c∈X.fs
  · obtain ⟨sl,q⟩:=slot c o (I.Fu x c e) hc nch ho (I.ie x c e)
    exact ⟨_,q,hd⟩
  · exact ⟨o,keep c o (I.Fu x c e) hc nch ho (I.ie x c e),hd⟩
 refine ⟨I.ok,I.os,hg,⟨fun b o e n hb hx=>?_,fun b o e n hb hx=>?_,fun b o e n hx=>?_,fun b o e hx=>?_,fun b xs e=>kg b xs (I.base.kg b xs e),fun b o xs e=>jS b o xs (I.base.jS b o xs e),fun b ps e=>?_⟩,?_,fun x c e=>?_,?_,fun x c e=>?_,fun p hp=>?_,bz,I.len⟩
 · exact keep b o (neL b o e) hb (neC b o e hx) (I.base.keep b o e n hb hx) (I.base.free b o e n hx)
 · obtain ⟨sl,e1⟩:=I.base.slot b o e n hb hx
   obtain ⟨sl',e2⟩:=slot b _ (neL b o e) hb (neC b o e hx) e1 (I.base.free b o e n hx)
   exact ⟨sl',e2⟩
 · obtain ⟨o',e1⟩:=I.base.there b o e hx
   exact free b o' (neC b o e hx) e1 (I.base.free b o e n hx)
 · obtain ⟨o',e1⟩:=I.base.there b o e hx
   exact there b o' (neC b o e hx) e1
 · obtain ⟨m1,e1⟩:=I.base.ll b ps e
   obtain ⟨m2,e2⟩:=ll b _ e1
   exact ⟨m1++m2,by rw [e2,Array.append_assoc]⟩
 · obtain ⟨m,hn,hl⟩:=I.loc
   refine ⟨m,ns m hn,fun i x v e1 e2 e3=>?_⟩
   obtain ⟨u,r,l⟩:=hl i x v e1 e2 e3
   refine ⟨u,r,?_⟩
   rcases l with l | ⟨k,c,e,z⟩
   · exact .inl l
   · exact .inr ⟨k,c,e,cellK x c e _ z⟩
 · obtain ⟨v,z⟩:=I.cell x c e
   exact ⟨v,cellK x c e v z⟩
 · obtain ⟨m,⟨o,_,_,ho,_⟩,_⟩:=I.loc
   exact free _ o (fun z=>(hch _ z).2.1 rfl) ho I.free
 · obtain ⟨v,o,ho,hd⟩:=I.cell x c e
   exact free c o (fun z=>(hch c z).2.2.1 x c e rfl) ho (I.ie x c e)
 · obtain ⟨e,n,ne,nf,d⟩:=I.pin p hp
   have nch:p.1 ∉ ch:=fun z=>(hch p.1 z).2.2.2 p hp rfl
   exact ⟨keep p.1 p.2 ne nf nch e n,free p.1 p.2 nch e n,ne,nf,d⟩
theorem Inv.un {t':Nat} (I:Inv X pins σ H s) (u:Un X.fs [] H H' s.heap h') (bz:iY X.prog X.w H' h'):Inv X pins σ H' { s with heap:=h',toks:=t' }:=by
 obtain ⟨m,⟨o,es,ep,ho,r⟩,_⟩:=id I.loc
 obtain ⟨sl,hL⟩:=u.any ho I.free (by simp)
 exact I.step (g':=s.gens) (d':=s.drawn) (ch:=[]) (fun _ z=>nomatch z) (fun b o _ hb _ e n=>u.keep b o e n hb (by simp)) (fun b o _ hb _ e n=>u.slot b o e n hb (by simp)) (fun b o _ e n=>u.free b o e n (by simp)) (fun b o _ e=>u.there b o e (by simp)) u.kg u.jS u.ll (fun m' hm=>by
  obtain ⟨o',es',ep',ho',r'⟩:=hm
  rw [ho] at ho';cases ho'
  exact ⟨_,es',ep',hL,r'⟩) bz I.bare
theorem Inv.call {g':Array GenState} {t':Nat} {d':Drawn} {ch:List Addr} (I:Inv X pins σ H s) (u:Un (xH X.stack) ch H H' s.heap h') (bz:iY X.prog X.w H' h') (hg:AllBare g')
  (hch: ∀ b∈ch,(b∈X.ex∨X.s₀.heap.objs.size<=b)∧b≠X.env.locals∧(∀ x c,X.env.cells.lookup x=some c->c≠b)∧ ∀ p∈X.pn++pins,p.1≠b) :
  Inv X pins σ H' { s with heap:=h',gens:=g',drawn:=d',toks:=t' }:=by
 obtain ⟨m,⟨o,es,ep,ho,r⟩,_⟩:=id I.loc
 obtain ⟨sl,hL⟩:=u.any ho I.free fun z=>(hch _ z).2.1 rfl
 exact I.step (ch:=ch) hch (fun b o hL hb hc e n=>u.keep b o e n (fun z=>(List.mem_cons.mp (I.ke b z)).elim hL hb) hc) (fun b o _ _ hc e n=>u.any e n hc) (fun b o hc e n=>u.free b o e n hc) (fun b o hc e=>u.there b o e hc) u.kg u.jS u.ll (fun m' hm=>by
  obtain ⟨o',es',ep',ho',r'⟩:=hm
  rw [ho] at ho';cases ho'
  exact ⟨_,es',ep',hL,r'⟩) bz hg
theorem Inv.turned {t':Nat} {it:Addr} (I:Inv X pins σ H s) (k: ∀ b o,b≠it->s.heap.get? b=some o->h'.get? b=some o) (hn:H it=none) (hL:it≠X.env.locals)
  (h1:it∈X.ex∨X.s₀.heap.objs.size<=it) (h2: ∀ x c,X.env.cells.lookup x=some c->c≠it) (h3: ∀ p∈X.pn++pins,p.1≠it):Inv X pins σ H { s with heap:=h',toks:=t' }:=by
 have nit: ∀ b u,H b=some u->b≠it:=fun b u e z=>by rw [z,hn] at e;cases e
 refine I.step (g':=s.gens) (d':=s.drawn) (ch:=[it]) (fun b hb=>?_) (fun b o _ _ hc e _=>k b o (fun z=>hc (by simp [z])) e) (fun b o _ _ hc e _=>⟨o.slots,k b o (fun z=>hc (by simp [z])) e⟩) (fun _ _ _ _ n=>n)
  (fun b o hc e=>⟨o,k b o (fun z=>hc (by simp [z])) e⟩) (fun _ _ e=>e) (fun _ _ _ e=>e) (fun b ps e=>⟨#[],by rw [e];simp⟩) (fun m hm=>?_) (fun b u e=>?_) I.bare
 · have e:b=it:=by simpa using hb
   subst e
   exact ⟨h1,hL,h2,h3⟩
 · obtain ⟨o,es,ep,ho,r⟩:=hm
   exact ⟨o,es,ep,k _ o (Ne.symm hL) ho,r⟩
 · refine (I.bz b u e).pV (fun c v hc q=>k c v ?_ q) (fun _ q=>q) fun _ _ q=>q
   rcases hc with z | z
   · rw [z];exact nit b u e
   · exact nit c _ z
theorem Inv.tok (I:Inv X pins σ H s) (t:Nat):Inv X pins σ H { s with toks:=t }:=I.un (h':=s.heap) (t':=t) Un.refl I.bz
theorem Inv.kept {t':Nat} (I:Inv X pins σ H s) (k: ∀ b u,s.heap.get? b=some u->h'.get? b=some u):Inv X pins σ H { s with heap:=h',toks:=t' }:=I.un (Un.kept k) (I.bz.kept k)
theorem Inv.laid {a:Addr} {o:HO} {t':Nat} (I:Inv X pins σ H s) (k: ∀ b u,s.heap.get? b=some u->h'.get? b=some u) (hp:s.heap.objs.size<=a) (new:a9 X.prog X.w (upd H a o) h' a o) :
  Inv X pins σ (upd H a o) { s with heap:=h',toks:=t' }:=I.un (Un.laid k hp (I.bz.fresh hp)) (I.bz.laid k hp new)
theorem Inv.write {x e:Addr} {o:HO} {t':Nat} (I:Inv X pins σ H s) (mu:L9 (H x)) (he:e=x∨H e=some (.own x)) (k: ∀ b u,b≠e->s.heap.get? b=some u->h'.get? b=some u) (heo: ∃ u,h'.get? e=some u)
  (new:a9 X.prog X.w (upd H x o) h' x o):Inv X pins σ (upd H x o) { s with heap:=h',toks:=t' }:=I.un (Un.write mu he k heo) (I.bz.write mu he k heo new)
theorem Inv.weak {σ':List (Option V)} (I:Inv X pins σ H s) (hl: σ'.length= σ.length) (w: ∀ (i:Nat) v, σ'[i]?=some (some v)-> σ[i]?=some (some v)):Inv X pins σ' H s :=
 ⟨I.ok,I.os,I.bare,I.base,let ⟨m,hn,hl'⟩:=I.loc;⟨m,hn,fun i x v e1 e2 e3=>hl' i x v e1 (w i v e2) e3⟩,I.cell,I.free,I.ie,I.pin,I.bz,hl.trans I.len⟩
theorem Inv.iy {pins':List (Addr × Obj)} (I:Inv X pins σ H s) (h: ∀ p∈pins',s.heap.get? p.1=some p.2∧H p.1=none∧p.1≠X.env.locals∧p.1 ∉ X.fs∧ ∀ v,p.2.data≠ .cell v):Inv X pins' σ H s :=
 ⟨I.ok,I.os,I.bare,I.base,I.loc,I.cell,I.free,I.ie,fun p hp=>(List.mem_append.mp hp).elim (fun z=>I.pin p (List.mem_append_left _ z)) (h p),I.bz,I.len⟩
theorem tu {N:List Str} (hN:N.Nodup) {i j:Nat} {x:Str} (a:N[i]?=some x) (b:N[j]?=some x):i=j:=by
 obtain ⟨h1,e1⟩:=List.getElem?_eq_some_iff.mp a
 obtain ⟨h2,e2⟩:=List.getElem?_eq_some_iff.mp b
 exact (List.getElem_inj hN).mp (e1.trans e2.symm)
theorem pD {M:Model} {A:Around} {E:Value->Shared->Prop} {i:Nat} {x:Str} {v:V} {u:Value} {Q:Unit->Shared->Prop} (I:Inv X pins σ H s) (hN:X.N.Nodup) (hi:X.N[i]?=some x) (hx:Loc X.env.scope x) (r:RelV v u)
  (h: ∀ s',Inv X pins (σ.set i (some v)) H s'->(∃ a,Heap.SameBut a s.heap s'.heap∧(a=X.env.locals∨X.env.cells.lookup x=some a))->Q () s') (hf:X.fn x=true∨X.env.scope.names.lookup x=some .local:=by first | exact .inl rfl | exact .inr rfl | assumption):wpAny M A (storeName X.env x u) Q E s:=by
 obtain ⟨m,hn,hl⟩:=id I.loc
 have hcls:(X.env.scope.kind == .class||(X.env.scope.kind == .module&&X.env.locals !=X.env.globals))=false:=by rw [I.ok.kind];rfl
 have hiσ :i < σ.length:=by rw [I.len];exact (List.getElem?_eq_some_iff.mp hi).1
 have Fu:=I.Fu
 have tracked: ∀ {a:Addr} {h':Heap},(∃ o,s.heap.get? a=some o∧H a=none)->Heap.SameBut a s.heap h'->iY X.prog X.w H h':=fun {a h'} ha hs b ob e=>by
  obtain ⟨_,_,hfree⟩:=ha
  refine (I.bz b ob e).pV (fun c w' hc q=>(hs.2 c ?_).trans q) (fun _ q=>q) fun _ _ q=>q
  rintro rfl
  rcases hc with rfl | hc
  · rw [hfree] at e;cases e
  · rw [hfree] at hc;cases hc
 rcases hx with hk | hk
 · refine wpAny_storeName_local hk hn (fun h' hn' hs=>?_) hcls
   obtain ⟨oL,_,_,hoL,_⟩:=id hn
   refine h _ ⟨I.ok,I.os,I.bare,⟨fun b o e n hb hx=>?_,fun b o e n hb hx=>?_,I.base.free,fun b o e hx=>?_,I.base.kg,I.base.jS,I.base.ll⟩,⟨_,hn',fun j y v' e1 e2 e3=>?_⟩,fun y c e=>?_,I.free,I.ie,fun p hp=>?_,tracked ⟨oL,hoL,I.free⟩ hs,by simpa using I.len⟩ ⟨_,hs,.inl rfl⟩
   · exact (hs.2 b (Nat.ne_of_lt (Nat.lt_of_lt_of_le (Heap.lt_size e) I.ok.above))).trans (I.base.keep b o e n hb hx)
   · obtain ⟨sl,e1⟩:=I.base.slot b o e n hb hx
     exact ⟨sl,(hs.2 b (Nat.ne_of_lt (Nat.lt_of_lt_of_le (Heap.lt_size e) I.ok.above))).trans e1⟩
   · obtain ⟨o',e1⟩:=I.base.there b o e hx
     exact ⟨o',(hs.2 b (Nat.ne_of_lt (Nat.lt_of_lt_of_le (Heap.lt_size e) I.ok.above))).trans e1⟩
   · by_cases hj:j=i
     · subst hj
       rw [hi] at e1;cases e1
       rw [List.getElem?_set_self hiσ] at e2
       cases e2
       exact ⟨u,r,.inl ⟨hk,by simp⟩⟩
     · rw [List.getElem?_set_ne (Ne.symm hj)] at e2
       obtain ⟨u',r',q⟩:=hl j y v' e1 e2 e3
       refine ⟨u',r',?_⟩
       rcases q with ⟨k,e⟩ | ⟨k,c,e,z⟩
       · refine .inl ⟨k,?_⟩
         have:y≠x:=fun e=>hj (tu hN e1 (e ▸ hi))
         simp [this,e]
       · exact .inr ⟨k,c,e,z.sameBut hs (Fu y c e)⟩
   · obtain ⟨w',z⟩:=I.cell y c e
     exact ⟨w',z.sameBut hs (Fu y c e)⟩
   · obtain ⟨e,n,ne,nf,d⟩:=I.pin p hp
     exact ⟨(hs.2 p.1 ne).trans e,n,ne,nf,d⟩
 · have hfn:X.fn x=true:=by
    rcases hf with z | z
    · exact z
    · rw [z] at hk;cases hk
   obtain ⟨c,hc⟩:=I.ok.has x (.inl hk)
   obtain ⟨w',z⟩:=I.cell x c hc
   refine wpAny_storeName_cell I.ok.kind hk hc z (fun h' hc' hs=>?_)
   obtain ⟨oc,hoc,hocd⟩:=id z
   refine h { s with heap:=h' } ⟨I.ok,I.os,I.bare,⟨fun b o e n hb hx=>?_,fun b o e n hb hx=>?_,I.base.free,fun b o e hx=>?_,I.base.kg,I.base.jS,I.base.ll⟩,⟨m,hn.sameBut hs (Ne.symm (Fu x c hc)),fun j y v' e1 e2 e3=>?_⟩,fun y c' e=>?_,I.free,I.ie,fun p hp=>?_,tracked ⟨oc,hoc,I.ie x c hc⟩ hs,by simpa using I.len⟩ ⟨c,hs,.inr hc⟩
   · exact (hs.2 b (Nat.ne_of_lt (Nat.lt_of_lt_of_le (Heap.lt_size e) (I.ok.Ju x c hfn hc)))).trans (I.base.keep b o e n hb hx)
   · obtain ⟨sl,e1⟩:=I.base.slot b o e n hb hx
     exact ⟨sl,(hs.2 b (Nat.ne_of_lt (Nat.lt_of_lt_of_le (Heap.lt_size e) (I.ok.Ju x c hfn hc)))).trans e1⟩
   · obtain ⟨o',e1⟩:=I.base.there b o e hx
     exact ⟨o',(hs.2 b (Nat.ne_of_lt (Nat.lt_of_lt_of_le (Heap.lt_size e) (I.ok.Ju x c hfn hc)))).trans e1⟩
   · by_cases hj:j=i
     · subst hj
       rw [hi] at e1;cases e1
       rw [List.getElem?_set_self hiσ] at e2
       cases e2
       exact ⟨u,r,.inr ⟨.inl hk,c,hc,hc'⟩⟩
     · rw [List.getElem?_set_ne (Ne.symm hj)] at e2
       obtain ⟨u',r',q⟩:=hl j y v' e1 e2 e3
       refine ⟨u',r',?_⟩
       rcases q with q | ⟨k,c',e,z'⟩
       · exact .inl q
       · refine .inr ⟨k,c',e,z'.sameBut hs ?_⟩
         rintro rfl
         exact hj (tu hN e1 (I.ok.inj _ _ _ e hc ▸ hi))
   · by_cases hcc:c'=c
     · subst hcc;exact ⟨_,hc'⟩
     · obtain ⟨w2,z2⟩:=I.cell y c' e
       exact ⟨w2,z2.sameBut hs hcc⟩
   · obtain ⟨e,n,ne,nf,d⟩:=I.pin p hp
     refine ⟨(hs.2 p.1 ?_).trans e,n,ne,nf,d⟩
     intro q
     rw [q,hoc] at e
     have q':oc=p.2:=Option.some.inj e
     exact d w' (by rw [<- q'];exact hocd)
theorem mz {M:Model} {A:Around} {E:Value->Shared->Prop} {i:Nat} {x:Str} {v:V} {u:Value} {Q:Unit->Shared->Prop} (I:Inv X pins σ H s) (hN:X.N.Nodup) (hi:X.N[i]?=some x) (hx:Loc X.env.scope x) (r:RelV v u)
  (h: ∀ s',Inv X pins (σ.set i (some v)) H s'->Q () s') (hf:X.fn x=true∨X.env.scope.names.lookup x=some .local:=by first | exact .inl rfl | exact .inr rfl | assumption):wpAny M A (storeName X.env x u) Q E s :=
 pD I hN hi hx r (fun s' I' _=>h s' I') hf
theorem Inv.JU {s':Shared} {ch:List Addr} (I:Inv X pins σ H s) (ho:s'.os=s.os) (u:Un (xH X.stack) ch H H' s.heap s'.heap) (bz:iY X.prog X.w H' s'.heap) (hg:AllBare s'.gens)
  (hch: ∀ b∈ch,(b∈X.ex∨X.s₀.heap.objs.size<=b)∧b≠X.env.locals∧(∀ x c,X.env.cells.lookup x=some c->c≠b)∧ ∀ p∈X.pn++pins,p.1≠b):Inv X pins σ H' s':=by
 obtain ⟨h',g',d',t',o'⟩:=s'
 have e:o'=s.os:=ho
 subst e
 exact I.call (g':=g') (t':=t') (d':=d') u bz hg hch
end
abbrev XK:=Value->Option Addr->Hp->Prop
abbrev St:=List (Option V)
abbrev VK:=V->Hp->Prop
abbrev TE:=St->Hp->VK->Prop
abbrev TT:=St->Hp->(Bool->Hp->Prop)->Prop
abbrev TA:=St->Hp->(List V->Hp->Prop)->Prop
structure Ends where
 nx:St->Hp->Prop
 rt:VK
 bk:St->Hp->Prop:=fun _ _=>False
 ct:St->Hp->Prop:=fun _ _=>False
abbrev TS:=Ends->St->Hp->Prop
noncomputable def EP (X:Cx) (pins:List (Addr × Obj)) (σ :St) (Q:VK) (u:Value) (s':Shared):Prop:= ∃ v H',Inv X pins σ H' s'∧RelV v u∧Q v H'
noncomputable def TP (X:Cx) (pins:List (Addr × Obj)) (σ :St) (Q:Bool->Hp->Prop) (b:Bool) (s':Shared):Prop:= ∃ H',Inv X pins σ H' s'∧Q b H'
noncomputable def AP (X:Cx) (pins:List (Addr × Obj)) (σ :St) (Q:List V->Hp->Prop) (us:List Value) (s':Shared):Prop:= ∃ vs H',Inv X pins σ H' s'∧Vals vs us∧Q vs H'
noncomputable def SP (X:Cx) (pins:List (Addr × Obj)) (D:Ends) (f:Flow) (s':Shared):Prop :=
 match f with
 | .next=> ∃ σ' H',Inv X pins σ' H' s'∧D.nx σ' H'
 | .brk=> ∃ σ' H',Inv X pins σ' H' s'∧D.bk σ' H'
 | .cont=> ∃ σ' H',Inv X pins σ' H' s'∧D.ct σ' H'
 | .ret u=> ∃ v σ' H',Inv X pins σ' H' s'∧RelV v u∧D.rt v H'
noncomputable def PE (X:Cx) (e:Expr) (t:TE):Prop :=
 ∀ (pins:List (Addr × Obj)) (s:Shared) (σ :St) (H:Hp) (Q:VK),Inv X pins σ H s->t σ H Q->wpAny (model X.prog X.w) X.A (eval e X.env) (EP X pins σ Q) X.xe s
noncomputable def PT (X:Cx) (e:Expr) (t:TT):Prop :=
 ∀ (pins:List (Addr × Obj)) (s:Shared) (σ :St) (H:Hp) (Q:Bool->Hp->Prop),Inv X pins σ H s->t σ H Q->wpAny (model X.prog X.w) X.A (isTrue e X.env (eval e X.env)) (TP X pins σ Q) X.xe s
noncomputable def PW (X:Cx) (e:Expr) (t:TT):Prop :=
 ∀ (whole:Sem Value) (pins:List (Addr × Obj)) (s:Shared) (σ :St) (H:Hp) (Q:Bool->Hp->Prop),Inv X pins σ H s->t σ H Q->wpAny (model X.prog X.w) X.A (isTrue e X.env whole) (TP X pins σ Q) X.xe s
theorem PW.pt {X:Cx} {e:Expr} {t:TT} (h:PW X e t):PT X e t:=h _
noncomputable def PA (X:Cx) (es:List Expr) (t:TA):Prop :=
 ∀ (pos:Pos) (pins:List (Addr × Obj)) (s:Shared) (σ :St) (H:Hp) (Q:List V->Hp->Prop),Inv X pins σ H s->t σ H Q->wpAny (model X.prog X.w) X.A (spliced (backTo pos (starEach es X.env))) (AP X pins σ Q) X.xe s
noncomputable def PS (X:Cx) (st:Stmt) (t:TS):Prop :=
 ∀ (pins:List (Addr × Obj)) (s:Shared) (σ :St) (H:Hp) (D:Ends),Inv X pins σ H s->t D σ H->wpAny (model X.prog X.w) X.A (exec st X.env) (SP X pins D) X.xe s
noncomputable def uk (X:Cx) (st:List Stmt) (t:TS):Prop :=
 ∀ (pins:List (Addr × Obj)) (s:Shared) (σ :St) (H:Hp) (D:Ends),Inv X pins σ H s->t D σ H->wpAny (model X.prog X.w) X.A (execs st X.env) (SP X pins D) X.xe s
theorem cL {α :Type} {t:Sem α} {Q Q': α ->Shared->Prop} {M:Model} {A:Around} {E:Value->Shared->Prop} {s:Shared} (h:wpAny M A t Q E s) (hQ: ∀ a s,Q a s->Q' a s):wpAny M A t Q' E s:=wpAny_mono h hQ fun _ _ x=>x
open PySem PySem.Spec PyProof.Rows
section
variable {X:Cx}
theorem bin {a b:Expr} {ta tb:TE} (ha:PE X a ta) (hb:PE X b tb) {pins:List (Addr × Obj)} {s:Shared} {σ :St} {H:Hp} {R:V->V->Hp->Prop} (I:Inv X pins σ H s) (h:ta σ H fun x H1=>tb σ H1 fun y H2=>R x y H2)
  {α :Type} {Q: α ->Shared->Prop} {f:Value->Value->Sem α}
  (hf: ∀ v u s2 x y H2,Inv X pins σ H2 s2->RelV x v->RelV y u->R x y H2->wpAny (model X.prog X.w) X.A (f v u) Q X.xe s2) :
  wpAny (model X.prog X.w) X.A (eval a X.env) (fun v s₁ =>wpAny (model X.prog X.w) X.A (eval b X.env) (fun u s₂ =>wpAny (model X.prog X.w) X.A (f v u) Q X.xe s₂) X.xe s₁) X.xe s:=by
 refine cL (ha pins s σ H _ I h) fun v s1 ⟨x,H1,I1,r1,q1⟩=>?_
 refine cL (hb pins s1 σ H1 _ I1 q1) fun u s2 ⟨y,H2,I2,r2,q2⟩=>?_
 exact hf v u s2 x y H2 I2 r1 r2 q2
noncomputable def LW (i:Nat):TE:=fun σ H Q=> ∃ v, σ[i]?=some (some v)∧Q v H
noncomputable def tC (v:V):TE:=fun _ H Q=>Q v H
theorem E2 {i:Nat} {x:Str} {pos:Pos} (hN:X.N[i]?=some x) (hv:HH X.env.scope x) (hd:(x == ("__debug__" :Str))=false:=by decide) (hcd:(x == ("__classdict__" :Str))=false:=by decide):PE X (.Name x pos) (LW i):=by
 intro pins s σ H Q I h
 obtain ⟨v,e,h⟩:=h
 obtain ⟨m,hn,hl⟩:=I.loc
 obtain ⟨u,r,l⟩:=hl i x v hN e hv
 have fin:EP X pins σ Q u s:=⟨v,H,I,r,h⟩
 rcases l with ⟨hk,hm⟩ | ⟨hk,c,hc,hcell⟩
 · exact wpAny_Name (wpAny_loadName_local I.ok.kind hk hn hm fin) hd
 · rcases hk with hk | hk
   · exact wpAny_Name (wpAny_loadName_cell I.ok.kind hk hc hcell fin) hd
   · exact wpAny_Name (wpAny_loadName_free I.ok.kind hk hc hcell fin hcd) hd
theorem F5 {i j pos}:PE X (.Constant (.int i) j pos) (tC (.int i)):=fun _ _ _ H _ I h=>wpAny_Constant_int ⟨.int i,H,I.tok _,⟨_,rfl⟩,h⟩
theorem Kk {b j pos}:PE X (.Constant (.bool b) j pos) (tC (.bl b)):=fun _ _ _ H _ I h=>Constant_bool ⟨.bl b,H,I,rfl,h⟩
theorem FX {j pos}:PE X (.Constant .none j pos) (tC .non):=fun _ _ _ H _ I h=>Constant_none ⟨.non,H,I,rfl,h⟩
theorem EX {x j pos}:PE X (.Constant (.str x) j pos) (tC (.str x)):=fun _ _ _ H _ I h=>Calls.Constant_str ⟨.str x,H,I.tok _,⟨_,rfl⟩,h⟩
noncomputable def Gl (X:Cx) (x:Str):Prop:=X.env.kindOf x=some .globalImplicit
theorem vO {E:Value->Shared->Prop} {pins:List (Addr × Obj)} {s:Shared} {σ :St} {H:Hp} {x:Str} {u:Value} {pos:Pos} {Q:Value->Shared->Prop} (I:Inv X pins σ H s) (hg:Gl X x) (hm:X.mg x=some u) (h:Q u s)
  (hd:(x == ("__debug__" :Str))=false:=by decide):wpAny (model X.prog X.w) X.A (eval (.Name x pos) X.env) Q E s :=
 Calls.Name_function_global I.ok.kind hg (Calls.loadGlobal_global (by rw [I.ok.glob];exact I.mod.glob.keeps I.bk) hm h) hd
theorem nG {E:Value->Shared->Prop} {pins:List (Addr × Obj)} {s:Shared} {σ :St} {H:Hp} {x:Str} {u:Value} {pos:Pos} {Q:Value->Shared->Prop} (I:Inv X pins σ H s) (hg:Gl X x) (hm:X.mg x=none) (hv:bootBuiltins x=some u) (h:Q u s)
  (hn:x≠ "__name__" :=by decide) (hd:(x == ("__debug__" :Str))=false:=by decide):wpAny (model X.prog X.w) X.A (eval (.Name x pos) X.env) Q E s:=by
 obtain ⟨mb,h1,h2⟩:=I.mod.blt
 exact Calls.Name_function_global I.ok.kind hg (Calls.loadGlobal_builtin (by rw [I.ok.glob];exact I.mod.glob.keeps I.bk) hm (by rw [I.ok.blt];exact h1.keeps I.bk) ((h2 x hn).trans hv) h) hd
theorem uS {x:Str} {v:V} {u:Value} {pos:Pos} (hg:Gl X x) (hm:X.mg x=some u) (r:RelV v u) (hd:(x == ("__debug__" :Str))=false:=by decide):PE X (.Name x pos) (tC v) :=
 fun _ _ _ H _ I h=>vO I hg hm ⟨v,H,I,r,h⟩ hd
theorem Cz {x:Str} {v:V} {u:Value} {pos:Pos} (hg:Gl X x) (hm:X.mg x=none) (hv:bootBuiltins x=some u) (r:RelV v u) (hn:x≠ "__name__" :=by decide) (hd:(x == ("__debug__" :Str))=false:=by decide):PE X (.Name x pos) (tC v) :=
 fun _ _ _ H _ I h=>nG I hg hm hv ⟨v,H,I,r,h⟩ hn hd
variable {a b:Expr} {ta tb:TE} {pos:Pos}
noncomputable def PC (X:Cx) (op:CmpOp) (a b:Expr) (t:TE):Prop :=
 ∀ (pins:List (Addr × Obj)) (s:Shared) (σ :St) (H:Hp) (Q:VK),Inv X pins σ H s->t σ H Q ->
  wpAny (model X.prog X.w) X.A (eval a X.env) (fun v s₁ =>wpAny (model X.prog X.w) X.A (eval b X.env) (fun u s₂ =>wpAny (model X.prog X.w) X.A (compareOp op v u) (EP X pins σ Q) X.xe s₂) X.xe s₁) X.xe s
theorem sN (b:Expr) {op:CmpOp} (h:op≠ .In) (h2:op≠ .NotIn):behindInMarks op b=false:=by
 have e1:(op == CmpOp.In)=false:=by cases op<;>first | rfl | exact absurd rfl h
 have e2:(op == CmpOp.NotIn)=false:=by cases op<;>first | rfl | exact absurd rfl h2
 cases b<;>simp [behindInMarks,e1,e2]
noncomputable def II (ta:TE):TE:=fun σ H Q=>ta σ H fun x H1=>Q (.bl (decide (x= .non))) H1
noncomputable def Ej (ta:TE):TE:=fun σ H Q=>ta σ H fun x H1=>Q (.bl (!decide (x= .non))) H1
theorem RelV.tw {x:V} {v:Value} (r:RelV x v):(v == Value.none)=decide (x= .non):=by
 cases x with
 | non=>cases r;rfl
 | bl _=>cases r;rfl
 | int _=>obtain ⟨t,rfl⟩:=r;rfl
 | str _=>obtain ⟨t,rfl⟩:=r;rfl
 | byt _=>obtain ⟨t,rfl⟩:=r;rfl
 | flt _=>obtain ⟨t,rfl⟩:=r;rfl
 | ref _=>cases r;rfl
 | ty _=>cases r;rfl
theorem yg {j pos'} (ha:PE X a ta):PC X .Is a (.Constant .none j pos') (II ta):=by
 intro pins s σ H Q I h
 refine cL (ha pins s σ H _ I h) fun v s1 ⟨x,H1,I1,r1,q1⟩=>?_
 exact Constant_none (is_none_gen ⟨.bl _,H1,I1,by rw [r1.tw];rfl,q1⟩)
theorem By {j pos'} (ha:PE X a ta):PC X .IsNot a (.Constant .none j pos') (Ej ta):=by
 intro pins s σ H Q I h
 refine cL (ha pins s σ H _ I h) fun v s1 ⟨x,H1,I1,r1,q1⟩=>?_
 exact Constant_none (isnot_none_gen ⟨.bl _,H1,I1,by rw [r1.tw];rfl,q1⟩)
noncomputable def tB (t:TE):TT:=fun σ H Q=>t σ H fun x H1=> ∃ c,x= .bl c∧Q c H1
theorem Ie {op:CmpOp} {t:TE} (h:PC X op a b t) (h1:behindInMarks op b=false:=by first | exact sN _ (by decide) (by decide) | rfl):PE X (.Compare a [op] [b] pos) t:=fun pins s σ H Q I hw=>wpAny_Compare1 (h pins s σ H Q I hw) h1
theorem zY {op:CmpOp} {t:TE} (h:PC X op a b t) (h1:behindInMarks op b=false:=by first | exact sN _ (by decide) (by decide) | rfl):PT X (.Compare a [op] [b] pos) (tB t):=by
 intro pins s σ H Q I hw
 refine wpAny_isTrue_Compare1 (cL (h pins s σ H _ I hw) fun v s1 h1=>cL h1 fun u s2 h2=>cL h2 fun c s3 ⟨x,H1,I1,r1,q1⟩=>?_) h1
 obtain ⟨d,rfl,q⟩:=q1
 cases r1
 exact wpAny_truthy_bool ⟨H1,I1,q⟩
theorem Ge {e:Expr} {t:TE} (h:PE X e t) (he: ∀ whole,isTrue e X.env whole=(do let v <- whole;standAt e.pos;holding [v] (truthy v)):=by intro _;rfl):PT X e (tB t):=by
 intro pins s σ H Q I hw
 refine isTrue_plain (cL (h pins s σ H _ I hw) fun v s1 ⟨x,H1,I1,r1,q1⟩=>?_) (he _)
 obtain ⟨d,rfl,q⟩:=q1
 cases r1
 exact wpAny_truthy_bool ⟨H1,I1,q⟩
variable {tA tB':TT} {rest:List Expr}
noncomputable def Li (t u:TT):TT:=fun σ H Q=>t σ H fun c H1=>if c=true then u σ H1 Q else Q false H1
noncomputable def NS (t u:TT):TT:=fun σ H Q=>t σ H fun c H1=>if c=true then Q true H1 else u σ H1 Q
noncomputable def LC (t:TT):TT:=fun σ H Q=>t σ H fun c H1=>Q (!c) H1
theorem pw_and1 (ha:PT X a tA):PW X (.BoolOp .And [a] pos) tA:=by
 intro wh pins s σ H Q I h
 refine isTrue_and (cL (ha pins s σ H Q I h) fun c s1 e=>?_)
 cases c with
 | true=>exact isTrue_and_nil e
 | false=>exact e
theorem pw_or1 (ha:PT X a tA):PW X (.BoolOp .Or [a] pos) tA:=by
 intro wh pins s σ H Q I h
 refine isTrue_or (cL (ha pins s σ H Q I h) fun c s1 e=>?_)
 cases c with
 | false=>exact isTrue_or_nil e
 | true=>exact e
theorem pw_and (ha:PT X a tA) (hb:PW X (.BoolOp .And (b::rest) pos) tB'):PW X (.BoolOp .And (a::b::rest) pos) (Li tA tB'):=by
 intro wh pins s σ H Q I h
 refine isTrue_and (cL (ha pins s σ H _ I h) fun c s1 ⟨H1,I1,q1⟩=>?_)
 cases c with
 | true=>exact hb wh pins s1 σ H1 Q I1 q1
 | false=>exact ⟨H1,I1,q1⟩
theorem pw_or (ha:PT X a tA) (hb:PW X (.BoolOp .Or (b::rest) pos) tB'):PW X (.BoolOp .Or (a::b::rest) pos) (NS tA tB'):=by
 intro wh pins s σ H Q I h
 refine isTrue_or (cL (ha pins s σ H _ I h) fun c s1 ⟨H1,I1,q1⟩=>?_)
 cases c with
 | true=>exact ⟨H1,I1,q1⟩
 | false=>exact hb wh pins s1 σ H1 Q I1 q1
theorem Hc (ha:PT X a tA):PT X (.UnaryOp .Not a pos) (LC tA):=by
 intro pins s σ H Q I h
 exact isTrue_not (ha pins s σ H (fun c H1=>Q (!c) H1) I h)
noncomputable def Em (ta tb:TE):TE:=fun σ H Q=>ta σ H fun x H1=> ∃ c,x= .bl c∧if c=true then tb σ H1 Q else Q (.bl false) H1
noncomputable def Kn (ta tb:TE):TE:=fun σ H Q=>ta σ H fun x H1=> ∃ c,x= .bl c∧if c=true then Q (.bl true) H1 else tb σ H1 Q
noncomputable def EE (ta:TE):TE:=fun σ H Q=>ta σ H fun x H1=> ∃ c,x= .bl c∧Q (.bl (!c)) H1
theorem Gy {op} {t:TE} (h:PE X a t):PE X (.BoolOp op [a] pos) t:=fun pins s σ H Q I hw=>BoolOp_one (h pins s σ H Q I hw)
theorem Jd (ha:PE X a ta) (hb:PE X (.BoolOp .And (b::rest) pos) tb):PE X (.BoolOp .And (a::b::rest) pos) (Em ta tb):=by
 intro pins s σ H Q I h
 refine BoolOp_and (cL (ha pins s σ H _ I h) fun v s1 ⟨x,H1,I1,r1,q1⟩=>?_)
 obtain ⟨c,rfl,q1⟩:=q1
 cases r1
 refine wpAny_truthy_bool ?_
 cases c with
 | true=>exact hb pins s1 σ H1 Q I1 q1
 | false=>exact ⟨.bl false,H1,I1,rfl,q1⟩
theorem Ln (ha:PE X a ta) (hb:PE X (.BoolOp .Or (b::rest) pos) tb):PE X (.BoolOp .Or (a::b::rest) pos) (Kn ta tb):=by
 intro pins s σ H Q I h
 refine BoolOp_or (cL (ha pins s σ H _ I h) fun v s1 ⟨x,H1,I1,r1,q1⟩=>?_)
 obtain ⟨c,rfl,q1⟩:=q1
 cases r1
 refine wpAny_truthy_bool ?_
 cases c with
 | false=>exact hb pins s1 σ H1 Q I1 q1
 | true=>exact ⟨.bl true,H1,I1,rfl,q1⟩
theorem Hg (ha:PE X a ta):PE X (.UnaryOp .Not a pos) (EE ta):=by
 intro pins s σ H Q I h
 refine UnaryOp_ (cL (ha pins s σ H _ I h) fun v s1 ⟨x,H1,I1,r1,q1⟩=>?_)
 obtain ⟨c,rfl,q1⟩:=q1
 cases r1
 exact not_of (wpAny_truthy_bool ⟨.bl (!c),H1,I1,rfl,q1⟩)
noncomputable def Ob (t:TT) (ta tb:TE):TE:=fun σ H Q=>t σ H fun c H1=>if c=true then ta σ H1 Q else tb σ H1 Q
theorem yB {c:Expr} (hc:PT X c tA) (ha:PE X a ta) (hb:PE X b tb):PE X (.IfExp c a b pos) (Ob tA ta tb):=by
 intro pins s σ H Q I h
 refine wpAny_IfExp (cL (hc pins s σ H _ I h) fun d s1 ⟨H1,I1,q1⟩=>?_)
 cases d with
 | true=>exact ha pins s1 σ H1 Q I1 q1
 | false=>exact hb pins s1 σ H1 Q I1 q1
end
open PySem PySem.Spec PyProof.Rows
noncomputable def gm (K:PySem.W.Frag) (H:Hp) (a:Addr) (xs:List V):Prop :=
 Rd H a (.lst xs) ∨
  ∃ (o:Obj) (aw:Array Value) (n:Nat),K.lookup a=some o∧o.cls= .type "list" ∧o.dict=none∧o.data= .seq aw n∧aw.size<=sizeLine∧Vals xs aw.toList
noncomputable def fJ (K:PySem.W.Frag) (H:Hp) (a:Addr) (xs:List V):Prop :=
 Rd H a (.tup xs) ∨
  ∃ (o:Obj) (aw:Array Value) (n:Nat),K.lookup a=some o∧o.cls= .type "tuple" ∧o.data= .seq aw n∧aw.size<=sizeLine∧Vals xs aw.toList
noncomputable def NG:Value->Option V
 | .none=>some .non
 | .bool b=>some (.bl b)
 | .int i _=>some (.int i)
 | .str x _=>some (.str x)
 | .bytes b _=>some (.byt b)
 | .float b _=>some (.flt b)
 | .ref a=>some (.ref a)
 | .type n=>some (.ty n)
 | _=>none
theorem RelV.abs {x:V} {u:Value} (r:RelV x u):NG u=some x:=by
 cases x with
 | non=>cases r;rfl
 | bl _=>cases r;rfl
 | int _=>obtain ⟨t,rfl⟩:=r;rfl
 | str _=>obtain ⟨t,rfl⟩:=r;rfl
 | byt _=>obtain ⟨t,rfl⟩:=r;rfl
 | flt _=>obtain ⟨t,rfl⟩:=r;rfl
 | ref _=>cases r;rfl
 | ty _=>cases r;rfl
theorem RelV.inj {x y:V} {u:Value} (r:RelV x u) (q:RelV y u):x=y:=Option.some.inj (r.abs.symm.trans q.abs)
theorem Vals.inj: ∀ {xs ys:List V} {us:List Value},Vals xs us->Vals ys us->xs=ys
 | _,_,_,.nil,.nil=>rfl
 | _,_,_,.cons r t,.cons r' t'=>by rw [r.inj r',Vals.inj t t']
section
variable {X:Cx} {pins:List (Addr × Obj)} {σ :St} {H:Hp} {s:Shared} {a:Addr} {xs ys:List V}
theorem gm.of {K:PySem.W.Frag} (h:H a=some (.lst xs)):gm K H a xs:= .inl (.inl h)
theorem fJ.of {K:PySem.W.Frag} (h:H a=some (.tup xs)):fJ K H a xs:= .inl (.inl h)
theorem Inv.list (I:Inv X pins σ H s) (h:gm X.K H a xs): ∃ aw:List Value,Vals xs aw∧PlainL s.heap a aw.toArray∧xs.length<=sizeLine:=by
 rcases h with h | ⟨o,aw,n,hk,hc,hd,hs,hz,r⟩
 · obtain ⟨z,aw,n,r,e⟩:=h.ok I.bz
   exact ⟨aw,r,⟨_,n,e,rfl,rfl,rfl⟩,z⟩
 · refine ⟨aw.toList,r,⟨o,n,I.j1 a o hk,hc,hd,by simpa using hs⟩,?_⟩
   have e:=r.length
   simp only [Array.length_toList] at e
   omega
theorem Inv.tuple (I:Inv X pins σ H s) (h:fJ X.K H a xs): ∃ aw:List Value,Vals xs aw∧IsTup s.heap a aw.toArray∧xs.length<=sizeLine:=by
 rcases h with h | ⟨o,aw,n,hk,hc,hs,hz,r⟩
 · obtain ⟨z,aw,r,p⟩:=h.ok I.bz
   exact ⟨aw,r,p.tup,z⟩
 · refine ⟨aw.toList,r,⟨o,I.j1 a o hk,hc,n,by simpa using hs⟩,?_⟩
   have e:=r.length
   simp only [Array.length_toList] at e
   omega
theorem Inv.zm (I:Inv X pins σ H s) (h:gm X.K H a xs) (h':gm X.K H a ys):xs=ys:=by
 obtain ⟨aw,r,⟨o,n,e,_,_,d⟩,_⟩:=I.list h
 obtain ⟨its',r',⟨o',n',e',_,_,d'⟩,_⟩:=I.list h'
 rw [e] at e';cases e'
 rw [d] at d'
 injection d' with d1 _
 have:aw=its':=by simpa using congrArg Array.toList d1
 subst this
 exact r.inj r'
theorem Inv.j8 (I:Inv X pins σ H s) (h:fJ X.K H a xs) (h':fJ X.K H a ys):xs=ys:=by
 obtain ⟨aw,r,⟨o,e,_,n,d⟩,_⟩:=I.tuple h
 obtain ⟨its',r',⟨o',e',_,n',d'⟩,_⟩:=I.tuple h'
 rw [e] at e';cases e'
 rw [d] at d'
 injection d' with d1 _
 have:aw=its':=by simpa using congrArg Array.toList d1
 subst this
 exact r.inj r'
end
abbrev Cx.lG (X:Cx) (E:Value->Shared->Prop):Cx:={ X with xe:=E }
abbrev Cx.nZ (X:Cx):Cx:=X.lG fun _ _=>False
theorem Cx.Ok.lG {X:Cx} (ok:X.Ok) (E:Value->Shared->Prop):(X.lG E).Ok :=
 ⟨ok.mod,ok.kind,ok.glob,ok.blt,ok.above,ok.inj,ok.has,ok.Ju,ok.hd,ok.frames,ok.Jw,ok.M4,ok.bs,ok.Bc,ok.wj,ok.AM,ok.j9,ok.EO⟩
theorem Cx.Ok.fU {X:Cx} {E:Value->Shared->Prop} (ok:(X.lG E).Ok):X.Ok :=
 ⟨ok.mod,ok.kind,ok.glob,ok.blt,ok.above,ok.inj,ok.has,ok.Ju,ok.hd,ok.frames,ok.Jw,ok.M4,ok.bs,ok.Bc,ok.wj,ok.AM,ok.j9,ok.EO⟩
section
variable {X:Cx} {pins:List (Addr × Obj)} {σ :St} {H:Hp} {s:Shared} {E:Value->Shared->Prop}
theorem Inv.lG (I:Inv X pins σ H s) (E:Value->Shared->Prop):Inv (X.lG E) pins σ H s:=⟨I.ok.lG E,I.os,I.bare,I.base,I.loc,I.cell,I.free,I.ie,I.pin,I.bz,I.len⟩
theorem Inv.fU (I:Inv (X.lG E) pins σ H s):Inv X pins σ H s:=⟨I.ok.fU,I.os,I.bare,I.base,I.loc,I.cell,I.free,I.ie,I.pin,I.bz,I.len⟩
theorem SP.fU {D:Ends} {f:Flow} {s':Shared} (h:SP (X.lG E) pins D f s'):SP X pins D f s':=by
 cases f with
 | next=>obtain ⟨σ',H',I,q⟩:=h;exact ⟨σ',H',I.fU,q⟩
 | brk=>obtain ⟨σ',H',I,q⟩:=h;exact ⟨σ',H',I.fU,q⟩
 | cont=>obtain ⟨σ',H',I,q⟩:=h;exact ⟨σ',H',I.fU,q⟩
 | ret u=>obtain ⟨v, σ',H',I,r,q⟩:=h;exact ⟨v, σ',H',I.fU,r,q⟩
theorem PE.nZ {e:Expr} {t:TE} (h:PE X.nZ e t):PE X e t:=fun pins s σ H Q I hw =>
 wpAny_mono (h pins s σ H Q (I.lG _) hw) (fun _ _ ⟨v,H',I',r,q⟩=>⟨v,H',I'.fU,r,q⟩) fun _ _ z=>False.elim z
theorem PT.nZ {e:Expr} {t:TT} (h:PT X.nZ e t):PT X e t:=fun pins s σ H Q I hw =>
 wpAny_mono (h pins s σ H Q (I.lG _) hw) (fun _ _ ⟨H',I',q⟩=>⟨H',I'.fU,q⟩) fun _ _ z=>False.elim z
theorem uk.nZ {st:List Stmt} {t:TS} (h:uk X.nZ st t):uk X st t:=fun pins s σ H D I hw =>
 wpAny_mono (h pins s σ H D (I.lG _) hw) (fun _ _ q=>q.fU) fun _ _ z=>False.elim z
end
section
variable {X:Cx} {st:Stmt} {rest:List Stmt} {t u:TS} {e:Expr} {te:TE} {pos:Pos}
noncomputable def yT:TS:=fun D σ H=>D.nx σ H
noncomputable def G7 (t u:TS):TS:=fun D σ H=>t { D with nx:=u D } σ H
theorem B0:uk X [] yT:=fun _ _ σ H _ I h=>wpAny_execs_nil ⟨σ,H,I,h⟩
theorem zw (h1:PS X st t) (h2:uk X rest u):uk X (st::rest) (G7 t u):=by
 intro pins s σ H D I h
 refine wpAny_execs_cons (cL (h1 pins s σ H { D with nx:=u D } I h) fun f s1 q=>?_)
 cases f with
 | next =>
  obtain ⟨σ',H',I',q⟩:=q
  exact h2 pins s1 σ' H' D I' q
 | ret v=>exact q
 | brk=>exact q
 | cont=>exact q
theorem Du (h1:PS X st t):uk X [st] t:=by
 intro pins s σ H D I h
 refine wpAny_execs_cons (cL (h1 pins s σ H D I h) fun f s1 q=>?_)
 cases f with
 | next=>exact wpAny_execs_nil q
 | ret v=>exact q
 | brk=>exact q
 | cont=>exact q
noncomputable def zq:TS:=fun D σ H=>D.bk σ H
theorem yf:PS X (.Break pos) zq:=fun _ _ σ H _ I h=>wpAny_Break ⟨σ,H,I,h⟩
theorem Inv.quiet {pins:List (Addr × Obj)} {σ :St} {H:Hp} {s:Shared} (I:Inv X pins σ H s):interactive X.env=false:=by simp [interactive,I.ok.kind]
noncomputable def EB (te:TE):TS:=fun D σ H=>te σ H fun _ H1=>D.nx σ H1
theorem BY (he:PE X e te) (hs:swapsWith e none pos.line X.env=pure false:=by rfl):PS X (.Expr e pos) (EB te):=by
 intro pins s σ H D I h
 exact wpAny_Expr_any (cL (he pins s σ H _ I h) fun v s1 ⟨x,H1,I1,r1,q1⟩=>⟨σ,H1,I1,q1⟩) I.quiet hs
noncomputable def Lo (te:TE):TS:=fun D σ H=>te σ H D.rt
theorem F1 (he:PE X e te):PS X (.Return (some e) pos) (Lo te):=by
 intro pins s σ H D I h
 exact wpAny_Return_some (cL (he pins s σ H _ I h) fun v s1 ⟨x,H1,I1,r1,q1⟩=>⟨x, σ,H1,I1,r1,q1⟩)
noncomputable def Mc (c:TT) (t u:TS):TS:=fun D σ H=>c σ H fun b H1=>if b=true then t D σ H1 else u D σ H1
theorem LO {c:Expr} {a b:List Stmt} {tc:TT} (hc:PT X c tc) (ha:uk X a t) (hb:uk X b u):PS X (.If c a b pos) (Mc tc t u):=by
 intro pins s σ H D I h
 refine wpAny_If (cL (hc pins s σ H _ I h) fun d s1 ⟨H1,I1,q1⟩=>?_)
 cases d with
 | true=>exact ha pins s1 σ H1 D I1 q1
 | false=>exact hb pins s1 σ H1 D I1 q1
end
abbrev TG:=V->St->Hp->(St->Hp->Prop)->Prop
abbrev oV:=List V->St->Hp->(St->Hp->Prop)->Prop
noncomputable def PG (X:Cx) (target:Expr) (t:TG):Prop :=
 ∀ (pins:List (Addr × Obj)) (s:Shared) (σ :St) (H:Hp) (v:V) (u:Value) (Q:St->Hp->Prop),Inv X pins σ H s->RelV v u->t v σ H Q ->
  wpAny (model X.prog X.w) X.A (assign target X.env u) (fun _ s'=> ∃ σ' H',Inv X pins σ' H' s'∧Q σ' H') X.xe s
noncomputable def KS (X:Cx) (ts:List Expr) (t:oV):Prop :=
 ∀ (pins:List (Addr × Obj)) (s:Shared) (σ :St) (H:Hp) (vs:List V) (us:List Value) (Q:St->Hp->Prop),Inv X pins σ H s->Vals vs us->t vs σ H Q ->
  wpAny (model X.prog X.w) X.A (assignInOrder ((assignEach ts X.env).map (·.2)) us) (fun _ s'=> ∃ σ' H',Inv X pins σ' H' s'∧Q σ' H') X.xe s
abbrev zh:=V->V->V->Hp->(Hp->Prop)->Prop
noncomputable def ox (X:Cx) (t:zh):Prop :=
 ∀ (pins:List (Addr × Obj)) (s:Shared) (σ :St) (H:Hp) (o i v:V) (ov iv u:Value) (Q:Hp->Prop),Inv X pins σ H s->RelV o ov->RelV i iv->RelV v u->t o i v H Q ->
  wpAny (model X.prog X.w) X.A (setItem ov iv u) (fun _ s'=> ∃ H',Inv X pins σ H' s'∧Q H') X.xe s
abbrev Mi:=V->V->Hp->VK->Prop
noncomputable def NW (X:Cx) (op:Operator) (t:Mi):Prop :=
 ∀ (pins:List (Addr × Obj)) (s:Shared) (σ :St) (H:Hp) (x y:V) (v u:Value) (Q:VK),Inv X pins σ H s->RelV x v->RelV y u->t x y H Q ->
  wpAny (model X.prog X.w) X.A (inplaceOp op v u) (EP X pins σ Q) X.xe s
section
variable {X:Cx} {pos:Pos}
noncomputable def fq (i:Nat):TG:=fun v σ H Q=>Q (σ.set i (some v)) H
theorem C7 {i:Nat} {x:Str} (hN:X.N.Nodup) (hi:X.N[i]?=some x) (hx:Loc X.env.scope x) (hf:X.fn x=true∨X.env.scope.names.lookup x=some .local:=by first | exact .inl rfl | exact .inr rfl | assumption):PG X (.Name x pos) (fq i):=by
 intro pins s σ H v u Q I r h
 exact wpAny_assign_Name (mz I hN hi hx r (fun s' I'=>⟨_,H,I',h⟩) hf)
noncomputable def wA:oV:=fun vs σ H Q=>vs=[]∧Q σ H
noncomputable def kP (t:TG) (u:oV):oV:=fun vs σ H Q=> ∃ v r,vs=v::r∧t v σ H fun σ' H'=>u r σ' H' Q
theorem B2:KS X [] wA:=by
 intro pins s σ H vs us Q I r h
 obtain ⟨e,h⟩:=h
 subst e
 cases r
 exact assignInOrder_nil ⟨σ,H,I,h⟩
theorem zu {e:Expr} {es:List Expr} {t:TG} {u:oV} (h1:PG X e t) (h2:KS X es u)
  (hs:(assignEach (e::es) X.env).map (·.2)=assign e X.env::(assignEach es X.env).map (·.2):=by rfl):KS X (e::es) (kP t u):=by
 intro pins s σ H vs us Q I r h
 obtain ⟨v,vr,e1,h⟩:=h
 subst e1
 cases r with
 | cons r rr =>
  rw [hs]
  refine assignInOrder_cons (cL (h1 pins s σ H _ _ _ I r h) fun _ s1 ⟨σ1,H1,I1,q1⟩=>?_)
  exact h2 pins s1 σ1 H1 _ _ Q I1 rr q1
noncomputable def sZ (K:PySem.W.Frag) (n:Nat) (t:oV):TG:=fun v σ H Q=> ∃ a xs,v= .ref a∧fJ K H a xs∧xs.length=n∧t xs σ H Q
theorem Gu {es:List Expr} {k:Nat} {t:oV} {n:Nat} (hc:X.calm=true) (h:KS X es t)
  (hn:(assignEach es X.env).length=n:=by rfl) (hst:(assignEach es X.env).findIdx? (·.1)=none:=by rfl):PG X (.Tuple es k pos) (sZ X.K n t):=by
 intro pins s σ H v u Q I r hw
 obtain ⟨a,xs,e1,hq,hl,hw⟩:=hw
 subst e1
 cases r
 obtain ⟨aw,rv,ht,hz⟩:=I.tuple hq
 refine assign_Tuple_tuple (I.ok.hd hc) ht (by simp [hn,<- hl,rv.length]) hst fun h' hx=>?_
 have I1:Inv X pins σ H { s with heap:=h' }:=I.kept (t':=s.toks) fun b o e=>hx b o (Nat.ne_of_lt (Heap.lt_size e)) e
 exact h pins _ σ H xs _ Q I1 (by simpa using rv) hw
noncomputable def Ni (to ti:TE) (t:zh):TG:=fun v σ H Q=>to σ H fun o H1=>ti σ H1 fun i H2=>t o i v H2 fun H3=>Q σ H3
theorem HL {o i:Expr} {to ti:TE} {t:zh} (ho:PE X o to) (hi:PE X i ti) (hs:ox X t)
  (ha: ∀ v,assign (.Subscript o i pos) X.env v=(do
   let ov <- holding [v] (eval o X.env)
   let iv <- holding [v,ov] (eval i X.env)
   standAt pos
   holding [v,ov,iv] (setItem ov iv v)
   release [v,ov,iv] []):=by intro _;rfl):PG X (.Subscript o i pos) (Ni to ti t):=by
 intro pins s σ H v u Q I r h
 rw [ha]
 refine wpAny_bind (wpAny_holding (cL (ho pins s σ H _ I h) fun ov s1 ⟨x,H1,I1,r1,q1⟩=>?_))
 refine wpAny_bind (wpAny_holding (cL (hi pins s1 σ H1 _ I1 q1) fun iv s2 ⟨y,H2,I2,r2,q2⟩=>?_))
 refine wpAny_bind (wpAny_standAt (wpAny_bind (wpAny_holding (cL (hs pins s2 σ H2 x y v ov iv u _ I2 r1 r2 r q2) fun _ s3 ⟨H3,I3,q3⟩=>?_))))
 exact wpAny_release ⟨σ,H3,I3,q3⟩
noncomputable def DO (te:TE) (g:TG):TS:=fun D σ H=>te σ H fun x H1=>g x σ H1 D.nx
theorem Hy {tg e:Expr} {te:TE} {g:TG} (he:PE X e te) (hg:PG X tg g) (hs:swapsWithSole [tg] e pos.line X.env=pure false:=by rfl) (hw:swappedStores [tg] e X.env=pure none:=by rfl)
  (h1:(assignEach [tg] X.env).map (·.2)=[assign tg X.env]:=by rfl):PS X (.Assign [tg] e pos) (DO te g):=by
 intro pins s σ H D I h
 refine wpAny_Assign_stores (cL (he pins s σ H _ I h) fun v s1 ⟨x,H1,I1,r1,q1⟩=>?_) hs hw
 rw [h1]
 exact cL (hg pins s1 σ H1 x v _ I1 r1 q1) fun _ s2 q=>q
theorem Gi {i:Nat} {x:Str} {e:Expr} {te:TE} {pos':Pos} (hN:X.N.Nodup) (hi:X.N[i]?=some x) (hx:Loc X.env.scope x) (he:PE X e te) (hs:swapsWith e (some (.Name x pos')) pos.line X.env=pure false:=by rfl) (hf:X.fn x=true∨X.env.scope.names.lookup x=some .local:=by first | exact .inl rfl | exact .inr rfl | assumption) :
  PS X (.Assign [.Name x pos'] e pos) (DO te (fq i)):=by
 intro pins s σ H D I h
 refine wpAny_Assign_Name (cL (he pins s σ H _ I h) fun v s1 ⟨y,H1,I1,r1,q1⟩=>?_) hs
 exact mz I1 hN hi hx r1 (fun s2 I2=>⟨_,H1,I2,q1⟩) hf
noncomputable def Nc (i:Nat) (te:TE) (ti:Mi):TS:=fun D σ H=> ∃ x, σ[i]?=some (some x)∧te σ H fun y H1=>ti x y H1 fun z H2=>D.nx (σ.set i (some z)) H2
theorem FG {i:Nat} {x:Str} {e:Expr} {te:TE} {op:Operator} {ti:Mi} {pos':Pos} (hN:X.N.Nodup) (hi:X.N[i]?=some x) (hx:Loc X.env.scope x) (he:PE X e te) (ho:NW X op ti) (hf:X.fn x=true∨X.env.scope.names.lookup x=some .local:=by first | exact .inl rfl | exact .inr rfl | assumption) :
  PS X (.AugAssign (.Name x pos') op e pos) (Nc i te ti):=by
 intro pins s σ H D I h
 obtain ⟨v,e1,h⟩:=h
 obtain ⟨m,hn,hl⟩:=I.loc
 have vis:HH X.env.scope x:=by rcases hx with k | k;exact .inl k;exact .inr (.inl k)
 obtain ⟨u,r,l⟩:=hl i x v hi e1 vis
 refine wpAny_AugAssign_Name ?_
 have go:wpAny (model X.prog X.w) X.A (eval e X.env) (fun w s₂ =>wpAny (model X.prog X.w) X.A (inplaceOp op u w) (fun r s₃ =>wpAny (model X.prog X.w) X.A (storeName X.env x r) (fun _=>SP X pins D .next) X.xe s₃) X.xe s₂) X.xe s:=by
  refine cL (he pins s σ H _ I h) fun w s1 ⟨y,H1,I1,r1,q1⟩=>?_
  refine cL (ho pins s1 σ H1 v y u w _ I1 r r1 q1) fun z s2 ⟨zv,H2,I2,r2,q2⟩=>?_
  exact mz I2 hN hi hx r2 (fun s3 I3=>⟨_,H2,I3,q2⟩) hf
 rcases l with ⟨hk,hm⟩ | ⟨hk,c,hc,hcell⟩
 · exact wpAny_loadName_local I.ok.kind hk hn hm go
 · rcases hk with hk | hk
   · exact wpAny_loadName_cell I.ok.kind hk hc hcell go
   · rcases hx with k | k
     · have:X.env.scope.names.lookup x=some .free:=hk
       rw [k] at this;cases this
     · have:X.env.scope.names.lookup x=some .free:=hk
       rw [k] at this;cases this
noncomputable def Od (f:Int->Int->Int):Mi:=fun x y H Q=> ∃ i j,x= .int i∧y= .int j∧Q (.int (f i j)) H
theorem E6:NW X .Add (Od fun i j=>i+j):=by
 intro pins s σ H x y v u Q I r1 r2 h
 obtain ⟨i,j,e1,e2,q⟩:=h
 subst e1;subst e2
 obtain ⟨t,rfl⟩:=r1
 obtain ⟨t',rfl⟩:=r2
 exact iadd_int ⟨.int _,H,I.tok _,⟨_,rfl⟩,q⟩
end
section
variable {X:Cx} {pos:Pos}
noncomputable def Al (c:TT) (tb:TS):TS:=fun D σ H=> ∃ W:Nat->St->Hp->Prop,(∃ m,W m σ H)∧ ∀ m σ H,W m σ H ->
 c σ H fun b H1=>if b=true then ∃ N:St->Hp->Prop,(∀ σ' H',N σ' H'-> ∃ m',m' < m∧W m' σ' H')∧tb { D with nx:=N,ct:=N,bk:=D.nx } σ H1 else D.nx σ H1
theorem yW {c:Expr} {body:List Stmt} {tc:TT} {tb:TS} (hp:PassesOwn (model X.prog X.w) X.A X.env X.xe) (hc:PT X c tc) (hb:uk X body tb):PS X (.While c body [] pos) (Al tc tb):=by
 intro pins s σ H D I h
 obtain ⟨W,⟨m0,w0⟩,turn⟩:=h
 refine wpAny_While (codeAny_whileLoop (fun n s'=> ∃ σ' H',Inv X pins σ' H' s'∧W n σ' H') ?_ m0 ⟨σ,H,I,w0⟩)
 rintro n s1 ⟨σ1,H1,I1,w1⟩
 refine wpAny_passesOwn hp (cL (hc pins s1 σ1 H1 _ I1 (turn n σ1 H1 w1)) fun b s2 ⟨H2,I2,q2⟩=>?_)
 cases b with
 | true =>
  obtain ⟨N,hN,q2⟩:=q2
  rw [if_pos rfl]
  refine wpAny_passesOwn hp (cL (hb pins s2 σ1 H2 _ I2 q2) fun f s3 q3=>?_)
  cases f with
  | next =>
   obtain ⟨σ3,H3,I3,n3⟩:=q3
   obtain ⟨m',hm,w3⟩:=hN σ3 H3 n3
   exact ⟨m',hm, σ3,H3,I3,w3⟩
  | cont =>
   obtain ⟨σ3,H3,I3,n3⟩:=q3
   obtain ⟨m',hm,w3⟩:=hN σ3 H3 n3
   exact ⟨m',hm, σ3,H3,I3,w3⟩
  | brk=>exact q3
  | ret v=>exact q3
 | false =>
  rw [if_neg Bool.false_ne_true]
  exact wpAny_execs_nil ⟨σ1,H2,I2,q2⟩
end
structure It where
 go:Nat->Hp->Prop
 Jv:Nat->Hp->V->Hp->Prop
 stop:Nat->Hp->Prop
noncomputable def lx (X:Cx) (pins:List (Addr × Obj)) (H:Hp) (b:Addr):Prop :=
 H b=none∧b≠X.env.locals∧b ∉ X.fs∧(b∈X.ex∨X.s₀.heap.objs.size<=b)∧(∀ x c,X.env.cells.lookup x=some c->c≠b)∧ ∀ p∈X.pn++pins,p.1≠b
theorem Inv.Fn {X:Cx} {pins:List (Addr × Obj)} {σ :St} {H H':Hp} {s:Shared} {b:Addr} (I:Inv X pins σ H s) (hb:s.heap.objs.size<=b) (hn:H' b=none):lx X pins H' b:=by
 refine ⟨hn,Nat.ne_of_gt (Nat.lt_of_lt_of_le I.lt hb),I.LR hb,.inr (Nat.le_trans I.sz hb),fun x c e z=>?_,fun p hp z=>?_⟩
 · obtain ⟨v,q⟩:=I.cell x c e
   exact absurd (Nat.lt_of_lt_of_le q.lt (by rw [z];exact hb)) (Nat.lt_irrefl _)
 · exact absurd (Nat.lt_of_lt_of_le (Heap.lt_size (I.pin p hp).1) (by rw [z];exact hb)) (Nat.lt_irrefl _)
structure Turn (P:Program) (w:World) (K:PySem.W.Frag) (tg:Expr) (J:It) (fp:List Addr) (it:Addr) (tn:Nat->Heap->Prop):Prop where
 mem:it∈fp
 obj: ∀ i h,tn i h-> ∀ b∈fp,∃ o,h.get? b=some o∧ ∀ v,o.data≠ .cell v
 keep: ∀ i h h',tn i h->(∀ b∈fp,∀ o,h.get? b=some o->h'.get? b=some o)->tn i h'
 item: ∀ (X:Cx),X.prog=P->X.w=w->X.K=K->X.calm=true-> ∀ (i:Nat) (pins:List (Addr × Obj)) (s:Shared) (σ :St) (H:Hp) (E:Value->Shared->Prop),Inv X pins σ H s->(∀ b∈fp,lx X pins H b)->tn i s.heap->J.go i H ->
  wpAny (model P w) X.A (pyNext (.ref it)) (fun r s1=> ∃ u,r=some u ∧
   wpAny (model P w) X.A (letOwnedTupleGo tg (.ref it) u) (fun _ s2=> ∃ x H',Inv X pins σ H' s2∧RelV x u∧J.Jv i H x H'∧tn (i+1) s2.heap∧ ∀ b∈fp,H' b=none) E s1) E s
 done: ∀ (X:Cx),X.prog=P->X.w=w->X.K=K->X.calm=true-> ∀ (i:Nat) (pins:List (Addr × Obj)) (s:Shared) (σ :St) (H:Hp) (E:Value->Shared->Prop),Inv X pins σ H s->(∀ b∈fp,lx X pins H b)->tn i s.heap->J.stop i H ->
  wpAny (model P w) X.A (pyNext (.ref it)) (fun r s1=>r=none∧Inv X pins σ H s1) E s
 self: ∀ (A:Around) (i:Nat) (s:Shared) (Q:Value->Shared->Prop) (E:Value->Shared->Prop),tn i s.heap->Q (.ref it) s->wpAny (model P w) A (pyIter (.ref it)) Q E s
abbrev TI:=St->Hp->(It->Hp->Prop)->Prop
noncomputable def Lj (X:Cx) (pins:List (Addr × Obj)) (σ :St) (tg:Expr) (R:It->Hp->Prop) (itv:Value) (s2:Shared):Prop :=
 ∃ (it:Addr) (fp:List Addr) (tn:Nat->Heap->Prop) (J:It) (H':Hp),itv= .ref it∧Inv X pins σ H' s2∧Turn X.prog X.w X.K tg J fp it tn∧tn 0 s2.heap∧(∀ b∈fp,lx X pins H' b)∧R J H'
noncomputable def PI (X:Cx) (tg iter:Expr) (wi:TI):Prop :=
 ∀ (pins:List (Addr × Obj)) (s:Shared) (σ :St) (H:Hp) (R:It->Hp->Prop),Inv X pins σ H s->wi σ H R ->
  wpAny (model X.prog X.w) X.A (eval iter X.env) (fun v s1=>wpAny (model X.prog X.w) X.A (pyIter v) (Lj X pins σ tg R) X.xe s1) X.xe s
theorem vc {M : Model} {A : Around} {E : Value -> Shared -> Prop} {s : Shared} {tg : Expr} {it : Addr} {u : Value} {o : Obj} {n : String} {vs : Array Value} {Q : Unit -> Shared -> Prop} (ho : s.heap.get? it = some o) (hc : o.cls = .type n) (hd : o.data = .fields vs)
    (hn : ["enumerate", "zip", "dict_itemiterator", "dict_reverseitemiterator", "odict_iterator", "itertools.zip_longest", "itertools.pairwise"].contains n = false) (hQ : Q () s) : wpAny M A (letOwnedTupleGo tg (.ref it) u) Q E s := by
  unfold letOwnedTupleGo
  cases tg <;> first
    | exact wpAny_pure hQ
    | (cases u <;> first
        | exact wpAny_pure hQ
        | (refine wpAny_bind (wpAny_load ho ?_)
           rw [hc, hd]
           show wpAny M A (if (["enumerate", "zip", "dict_itemiterator", "dict_reverseitemiterator", "odict_iterator", "itertools.zip_longest", "itertools.pairwise"].contains n && vs[0]? == some (rawInt _)) = true then _ else _) Q E s
           rw [if_neg (by intro h; rw [hn, Bool.false_and] at h; cases h)]
           exact wpAny_pure hQ))
noncomputable def ND (K:PySem.W.Frag) (a:Addr):It :=
 ⟨fun i H=> ∃ xs x,gm K H a xs∧xs[i]?=some x,fun i H x H'=>H'=H∧ ∀ xs,gm K H a xs->xs[i]?=some x,fun i H=> ∃ xs,gm K H a xs∧xs.length<=i⟩
noncomputable def Mj (K:PySem.W.Frag) (a:Addr):It :=
 ⟨fun i H=> ∃ xs x,fJ K H a xs∧xs[i]?=some x,fun i H x H'=>H'=H∧ ∀ xs,fJ K H a xs->xs[i]?=some x,fun i H=> ∃ xs,fJ K H a xs∧xs.length<=i⟩
noncomputable def Mf (lo:Int) (n:Nat):It:=⟨fun i _=>i < n,fun i H x H'=>H'=H∧x= .int (lo+i),fun i _=>n<=i⟩
theorem wz {P:Program} {w:World} {K:PySem.W.Frag} {tg:Expr} (a it:Addr):Turn P w K tg (ND K a) [it] it (fun i h=>h.IsListIter it a i) where
 mem:=by simp
 obj:=fun i h st b hb=>by
  have e:b=it:=by simpa using hb
  subst e
  obtain ⟨o,e,c,d⟩:=st
  exact ⟨o,e,fun v z=>by rw [d] at z;cases z⟩
 keep:=fun i h h' st k=>st.at fun o e=>k it (by simp) o e
 item:=by
  intro X hP hw hK hc i pins s σ H E I hf st hg
  subst hP hw hK
  obtain ⟨xs,x,hq,hx⟩:=hg
  obtain ⟨aw,rv,p,hz⟩:=I.list hq
  obtain ⟨u,hu,ru⟩:=rv.get hx
  obtain ⟨f0,f1,f2,f3,f4,f5⟩:=hf it (by simp)
  refine wpAny_pyNext_list_item st p.isList (x:=u) (by simpa using hu) fun h' st' sb=>?_
  have I1:Inv X pins σ H { s with heap:=h' }:=I.turned (t':=s.toks) (fun b o hb e=>(sb.2 b hb).trans e) f0 f1 f3 f4 f5
  obtain ⟨o,e,c,d⟩:=id st'
  exact ⟨u,rfl,vc (s:={ s with heap:=h' }) e c d (by decide) ⟨x,H,I1,ru,⟨rfl,fun ys hy=>by rw [I.zm hy hq];exact hx⟩,st',fun b hb=>(hf b hb).1⟩⟩
 done:=by
  intro X hP hw hK hc i pins s σ H E I hf st hg
  subst hP hw hK
  obtain ⟨xs,hq,hx⟩:=hg
  obtain ⟨aw,rv,p,hz⟩:=I.list hq
  obtain ⟨f0,f1,f2,f3,f4,f5⟩:=hf it (by simp)
  have hl:=rv.length
  exact wpAny_pyNext_list_end (I.ok.hd hc) st p.isList (by simp;omega) fun h' eb=>⟨rfl,I.turned (t':=s.toks) (fun b o hb e=>eb b o hb e) f0 f1 f3 f4 f5⟩
 self:=fun _ _ _ _ _ st h=>wpAny_pyIter_listiter st h
theorem tR {P:Program} {w:World} {K:PySem.W.Frag} {tg:Expr} (a it:Addr):Turn P w K tg (Mj K a) [it] it (fun i h=>h.IsTupleIter it a i) where
 mem:=by simp
 obj:=fun i h st b hb=>by
  have e:b=it:=by simpa using hb
  subst e
  obtain ⟨o,e,c,d⟩:=st
  exact ⟨o,e,fun v z=>by rw [d] at z;cases z⟩
 keep:=fun i h h' st k=>st.at fun o e=>k it (by simp) o e
 item:=by
  intro X hP hw hK hc i pins s σ H E I hf st hg
  subst hP hw hK
  obtain ⟨xs,x,hq,hx⟩:=hg
  obtain ⟨aw,rv,p,hz⟩:=I.tuple hq
  obtain ⟨u,hu,ru⟩:=rv.get hx
  obtain ⟨f0,f1,f2,f3,f4,f5⟩:=hf it (by simp)
  refine wpAny_pyNext_tuple_item st (show s.heap.IsTuple a aw.toArray from p) (x:=u) (by simpa using hu) fun h' st' sb=>?_
  have I1:Inv X pins σ H { s with heap:=h' }:=I.turned (t':=s.toks) (fun b o hb e=>(sb.2 b hb).trans e) f0 f1 f3 f4 f5
  obtain ⟨o,e,c,d⟩:=id st'
  exact ⟨u,rfl,vc (s:={ s with heap:=h' }) e c d (by decide) ⟨x,H,I1,ru,⟨rfl,fun ys hy=>by rw [I.j8 hy hq];exact hx⟩,st',fun b hb=>(hf b hb).1⟩⟩
 done:=by
  intro X hP hw hK hc i pins s σ H E I hf st hg
  subst hP hw hK
  obtain ⟨xs,hq,hx⟩:=hg
  obtain ⟨aw,rv,p,hz⟩:=I.tuple hq
  obtain ⟨f0,f1,f2,f3,f4,f5⟩:=hf it (by simp)
  have hl:=rv.length
  exact wpAny_pyNext_tuple_end (I.ok.hd hc) st (show s.heap.IsTuple a aw.toArray from p) (by simp;omega) fun h' eb=>⟨rfl,I.turned (t':=s.toks) (fun b o hb e=>eb b o hb e) f0 f1 f3 f4 f5⟩
 self:=fun _ _ _ _ _ st h=>wpAny_pyIter_tupleiter st h
theorem uN {P:Program} {w:World} {K:PySem.W.Frag} {tg:Expr} (it:Addr) (lo:Int) (n:Nat):Turn P w K tg (Mf lo n) [it] it (fun i h=>IsRangeIter h it (lo+(i:Nat)*1) ((n:Int) - (i:Nat)) 1) where
 mem:=by simp
 obj:=fun i h st b hb=>by
  have e:b=it:=by simpa using hb
  subst e
  exact ⟨_,st,fun v z=>by
   have z':Data.fields _=Data.cell v:=z
   cases z'⟩
 keep:=fun i h h' st k=>k it (by simp) _ st
 item:=by
  intro X hP hw hK hc i pins s σ H E I hf st hg
  subst hP hw hK
  obtain ⟨f0,f1,f2,f3,f4,f5⟩:=hf it (by simp)
  have W:=Walks.range (prog:=X.prog) (w:=X.w) (I.ok.hd hc) it lo 1 n
  refine W.item i s _ _ hg st fun v h' tk hv st' kk=>?_
  obtain ⟨t,rfl⟩:=hv
  have I1:Inv X pins σ H { s with heap:=h',toks:=tk }:=I.turned (fun b o hb e=>kk b o (by simpa using hb) e) f0 f1 f3 f4 f5
  refine ⟨_,rfl,vc (s:={ s with heap:=h',toks:=tk }) (n:= "range_iterator") st' rfl rfl (by decide) ⟨.int (lo+i),H,I1,⟨t,?_⟩,⟨rfl,rfl⟩,st',fun b hb=>(hf b hb).1⟩⟩
  rw [Int.mul_one]
 done:=by
  intro X hP hw hK hc i pins s σ H E I hf st hg
  subst hP hw hK
  obtain ⟨f0,f1,f2,f3,f4,f5⟩:=hf it (by simp)
  exact wpAny_pyNext_range_end (I.ok.hd hc) st (by have:n<=i:=hg;omega) fun h' eb=>⟨rfl,I.turned (t':=s.toks) (fun b o hb e=>eb b o hb e) f0 f1 f3 f4 f5⟩
 self:=fun _ _ _ _ _ st h=>wpAny_pyIter_rangeiter st h
open PySem PySem.Spec PyProof.Rows
section
variable {X:Cx} {tg:Expr}
theorem AN {pins:List (Addr × Obj)} {σ :St} {H:Hp} {s:Shared} {R:It->Hp->Prop} {E:Value->Shared->Prop} {lo hi:Int} {t u v:Tok} {tk:Nat} (I:Inv X pins σ H s) (h1: -(2 ^ 62)<=lo) (h2:lo < 2 ^ 62) (h3: -(2 ^ 62)<=hi) (h4:hi < 2 ^ 62)
  (q:R (Mf lo (hi - lo).toNat) H):wpAny (model X.prog X.w) X.A (pyIter (.ref s.heap.objs.size)) (Lj X pins σ tg R) E { s with heap:=s.heap.push { cls:= .type "range",data:= .fields #[.int lo t,.int hi u,.int 1 v] },toks:=tk }:=by
 refine wpAny_pyIter_range (IsRange.new ..) (small_one h1 h2 h3 h4) ?_
 have I1:Inv X pins σ H { s with heap:=s.heap.push { cls:= .type "range",data:= .fields #[.int lo t,.int hi u,.int 1 v] },toks:=tk }:=I.kept fun b o e=>Heap.get?_push_of_some _ e
 refine ⟨(s.heap.push { cls:= .type "range",data:= .fields #[.int lo t,.int hi u,.int 1 v] }).objs.size,[(s.heap.push { cls:= .type "range",data:= .fields #[.int lo t,.int hi u,.int 1 v] }).objs.size],_,_,H,rfl,
  I1.kept (t':=tk) fun b o e=>Heap.get?_push_of_some _ e,uN _ lo (hi - lo).toNat,?_,fun b hb=>?_,q⟩
 · have e1:lo+((0:Nat):Int)*1=lo:=by simp
   have e2:(((hi - lo).toNat:Nat):Int) - ((0:Nat):Int)=Builtin.Range.rangeSize lo hi 1:=by rw [rangeSize_one];split<;>omega
   show IsRangeIter _ _ (lo+((0:Nat):Int)*1) ((((hi - lo).toNat:Nat):Int) - ((0:Nat):Int)) 1
   rw [e1,e2]
   exact Heap.get?_push_size _ rfl
 · have e:b=(s.heap.push { cls:= .type "range",data:= .fields #[.int lo t,.int hi u,.int 1 v] }).objs.size:=by simpa using hb
   subst e
   exact I1.Fn (Nat.le_refl _) (I1.bz.fresh (Nat.le_refl _))
noncomputable def LP (ta:TA):TI:=fun σ H R=>ta σ H fun vs H1=> ∃ j:Int,vs=[.int j]∧ -(2 ^ 62)<=j∧j < 2 ^ 62∧R (Mf 0 j.toNat) H1
theorem wy {a:Expr} {ta:TA} {p pos:Pos} (hg:Gl X "range") (hm:X.mg "range" =none) (ha:PA X [a] ta) (hs:starEach [a] X.env=[(false,eval a X.env)]:=by rfl):PI X tg (.Call (.Name "range" p) [a] [] pos) (LP ta):=by
 intro pins s σ H R I h
 refine Call_ (nG I hg hm boot_range (PyProof.Rows.callWith_type1 (cL (ha pos pins s σ H _ I h) fun us s1 ⟨vs,H1,I1,r1,q1⟩=>?_) hs rfl))
 obtain ⟨j,e,q1,q2,q⟩:=q1
 subst e
 cases r1 with
 | cons r rr =>
  cases rr
  obtain ⟨t,rfl⟩:=r
  exact call_range_1 (AN I1 (by omega) (by omega) q1 q2 (by simpa using q))
noncomputable def LD (wi:TI) (g:TG) (tb:TS):TS:=fun D σ H=>wi σ H fun J H1=> ∃ W:Nat->Nat->St->Hp->Prop,(∃ m,W 0 m σ H1)∧ ∀ i m σ H,W i m σ H ->
 (J.stop i H∧D.nx σ H)∨(J.go i H∧ ∃ N:St->Hp->Prop,(∀ σ' H',N σ' H'-> ∃ m',m' < m∧W (i+1) m' σ' H')∧ ∀ x H',J.Jv i H x H'->g x σ H' fun σ2 H2=>tb { D with nx:=N,ct:=N,bk:=D.nx } σ2 H2)
noncomputable def pZ (fp:List Addr) (h:Heap):List (Addr × Obj):=fp.filterMap fun b=>(h.get? b).map fun o=>(b,o)
theorem dQ {fp:List Addr} {h:Heap} {b:Addr} {o:Obj} (hb:b∈fp) (e:h.get? b=some o):(b,o)∈pZ fp h:=List.mem_filterMap.mpr ⟨b,hb,by rw [e];rfl⟩
theorem w9 {fp:List Addr} {h:Heap} {p:Addr × Obj} (hp:p∈pZ fp h):p.1∈fp∧h.get? p.1=some p.2:=by
 obtain ⟨b,hb,e⟩:=List.mem_filterMap.mp hp
 cases q:h.get? b with
 | none=>rw [q] at e;cases e
 | some o =>
  rw [q] at e
  have e':(b,o)=p:=Option.some.inj e
  subst e'
  exact ⟨hb,q⟩
theorem Inv.pinned {pins:List (Addr × Obj)} {σ :St} {H:Hp} {s:Shared} {fp:List Addr} (I:Inv X pins σ H s) (hf: ∀ b∈fp,lx X pins H b) (ho: ∀ b∈fp,∃ o,s.heap.get? b=some o∧ ∀ v,o.data≠ .cell v):Inv X (pins++pZ fp s.heap) σ H s :=
 I.iy fun p hp=>(List.mem_append.mp hp).elim (fun z=>I.pin p (List.mem_append_right _ z)) fun z=>by
  obtain ⟨hb,e⟩:=w9 z
  obtain ⟨f0,f1,f2,_⟩:=hf p.1 hb
  obtain ⟨o,e',d⟩:=ho p.1 hb
  rw [e] at e';cases e'
  exact ⟨e,f0,f1,f2,d⟩
theorem Inv.lZ {pins pl:List (Addr × Obj)} {σ :St} {H:Hp} {s:Shared} (I:Inv X (pins++pl) σ H s):Inv X pins σ H s:=I.iy fun p hp=>I.pin p (List.mem_append_right _ (List.mem_append_left _ hp))
theorem GG {iter:Expr} {body:List Stmt} {wi:TI} {g:TG} {tb:TS} {pos:Pos} (hp:PassesOwn (model X.prog X.w) X.A X.env X.xe) (hc:X.calm=true) (hi:PI X tg iter wi) (hg:PG X tg g) (hb:uk X body tb)
  (hs: ∀ x,foldedSetIterable iter X.env x=pure x:=by intro _;rfl):PS X (.For tg iter body [] pos) (LD wi g tb):=by
 intro pins s σ H D I h
 refine wpAny_For (cL (hi pins s σ H _ I h) fun v s1 h1=>cL h1 fun itv s2 h2=>?_) hs
 obtain ⟨it,fp,tn,J,H2,e,I2,T,st2,f2,W,⟨m0,w0⟩,turn⟩:=h2
 subst e
 have stat: ∀ {H':Hp},(∀ b∈fp,H' b=none)-> ∀ b∈fp,lx X pins H' b:=fun hn b hb=>⟨hn b hb,(f2 b hb).2⟩
 refine codeAny_forLoop_any (fun n s'=> ∃ i σ' H',Inv X pins σ' H' s'∧tn i s'.heap∧(∀ b∈fp,H' b=none)∧W i n σ' H') ?_ m0 ⟨0, σ,H2,I2,st2,fun b hb=>(f2 b hb).1,w0⟩
 rintro n s3 ⟨i, σ3,H3,I3,st3,fr3,w3⟩
 rcases turn i n σ3 H3 w3 with ⟨stop,qn⟩ | ⟨go,N,hN,step⟩
 · refine wpAny_passesOwn hp (cL (T.done X rfl rfl rfl hc i pins s3 σ3 H3 X.xe I3 (stat fr3) st3 stop) fun r s4 ⟨hr,I4⟩=>?_)
   subst hr
   exact wpAny_execs_nil ⟨σ3,H3,I4,qn⟩
 · refine wpAny_passesOwn hp (cL (T.item X rfl rfl rfl hc i pins s3 σ3 H3 X.xe I3 (stat fr3) st3 go) fun r s4 ⟨u,hr,h4⟩=>?_)
   subst hr
   refine wpAny_passesOwn hp (cL h4 fun _ s5 ⟨x,H5,I5,r5,y5,st5,fr5⟩=>?_)
   have I5':=I5.pinned (stat fr5) (T.obj _ _ st5)
   refine wpAny_passesOwn hp (cL (hg _ s5 σ3 H5 x u _ I5' r5 (step x H5 y5)) fun _ s6 ⟨σ6,H6,I6,q6⟩=>?_)
   refine wpAny_passesOwn hp (cL (hb _ s6 σ6 H6 _ I6 q6) fun f s7 q7=>?_)
   have again: ∀ {σ7:St} {H7:Hp},Inv X (pins++pZ fp s5.heap) σ7 H7 s7->N σ7 H7-> ∃ m,m < n∧ ∃ i σ' H',Inv X pins σ' H' s7∧tn i s7.heap∧(∀ b∈fp,H' b=none)∧W i m σ' H':=fun {σ7 H7} I7 n7=>by
    obtain ⟨m',hm,w7⟩:=hN σ7 H7 n7
    refine ⟨m',hm,i+1, σ7,H7,I7.lZ,T.keep _ _ _ st5 fun b hb o e=>(I7.pin (b,o) (List.mem_append_right _ (List.mem_append_right _ (dQ hb e)))).1,fun b hb=>?_,w7⟩
    obtain ⟨o,e,d⟩:=T.obj _ _ st5 b hb
    exact (I7.pin (b,o) (List.mem_append_right _ (List.mem_append_right _ (dQ hb e)))).2.1
   cases f with
   | next=>obtain ⟨σ7,H7,I7,n7⟩:=q7;exact again I7 n7
   | cont=>obtain ⟨σ7,H7,I7,n7⟩:=q7;exact again I7 n7
   | brk=>obtain ⟨σ7,H7,I7,q7⟩:=q7;exact ⟨σ7,H7,I7.lZ,q7⟩
   | ret v=>obtain ⟨x7, σ7,H7,I7,r7,q7⟩:=q7;exact ⟨x7, σ7,H7,I7.lZ,r7,q7⟩
end
open PySem PySem.Spec PyProof.Rows
abbrev R2:=V->V->Hp->VK->Prop
noncomputable def dI (X:Cx) (f:Value->Value->Sem Value) (r:R2):Prop :=
 ∀ (pins:List (Addr × Obj)) (s:Shared) (σ :St) (H:Hp) (x y:V) (v u:Value) (Q:VK),Inv X pins σ H s->RelV x v->RelV y u->r x y H Q ->
  wpAny (model X.prog X.w) X.A (f v u) (EP X pins σ Q) X.xe s
noncomputable def aW (X:Cx) (f:Value) (r:List V->Hp->VK->Prop):Prop :=
 ∀ (pins:List (Addr × Obj)) (s:Shared) (σ :St) (H:Hp) (xs:List V) (us:List Value) (Q:VK),Inv X pins σ H s->Vals xs us->r xs H Q ->
  wpAny (model X.prog X.w) X.A (call f us) (EP X pins σ Q) X.xe s
noncomputable def D0 (r:R2) (ta tb:TE):TE:=fun σ H Q=>ta σ H fun x H1=>tb σ H1 fun y H2=>r x y H2 Q
noncomputable def rI (C:Int->Int->Prop) (g:Int->Int->V):R2:=fun x y H Q=> ∃ i j,x= .int i∧y= .int j∧C i j∧Q (g i j) H
noncomputable def Dt (g:Int->Int->V):R2:=fun x y H Q=> ∃ i j,x= .int i∧y= .int j∧Q (g i j) H
section
variable {X:Cx} {a b c:Expr} {ta tb tc:TE} {pos:Pos}
theorem IJ (ha:PE X a ta) (hb:PE X b tb) {pins:List (Addr × Obj)} {s:Shared} {σ :St} {H:Hp} {R:V->V->Hp->Prop} (I:Inv X pins σ H s)
  (h:ta σ H fun x H1=>tb σ H1 fun y H2=>R x y H2) {Q:Value->Shared->Prop} {f:Value->Value->Sem Value}
  (hf: ∀ v u s2 x y H2,Inv X pins σ H2 s2->RelV x v->RelV y u->R x y H2->wpAny (model X.prog X.w) X.A (f v u) Q X.xe s2) :
  wpAny (model X.prog X.w) X.A (eval a X.env) (fun v s₁ =>wpAny (model X.prog X.w) X.A (eval b X.env) (fun u s₂ =>wpAny (model X.prog X.w) X.A (f v u) Q X.xe s₂) X.xe s₁) X.xe s:=by
 refine cL (ha pins s σ H _ I h) fun v s1 ⟨x,H1,I1,r1,q1⟩=>?_
 refine cL (hb pins s1 σ H1 _ I1 q1) fun u s2 ⟨y,H2,I2,r2,q2⟩=>?_
 exact hf v u s2 x y H2 I2 r1 r2 q2
theorem K2 {op:Operator} {r:R2} (ho:dI X (binaryOp op) r) (ha:PE X a ta) (hb:PE X b tb):PE X (.BinOp a op b pos) (D0 r ta tb):=by
 intro pins s σ H Q I h
 exact wpAny_BinOp (IJ ha hb I h fun v u s2 x y H2 I2 rx ry q=>ho pins s2 σ H2 x y v u Q I2 rx ry q)
theorem Mn {f:Value->Value->Sem Value} {C:Int->Int->Prop} {g:Int->Int->Int}
  (rule: ∀ (i j:Int) (t u:Tok) (s:Shared) (Q:Value->Shared->Prop) (E:Value->Shared->Prop),C i j->Q (.int (g i j) s.toks) { s with toks:=s.toks+1 }->wpAny (model X.prog X.w) X.A (f (.int i t) (.int j u)) Q E s) :
  dI X f (rI C fun i j=> .int (g i j)):=by
 intro pins s σ H x y v u Q I rx ry h
 obtain ⟨i,j,rfl,rfl,hc,q⟩:=h
 obtain ⟨t,rfl⟩:=rx
 obtain ⟨t',rfl⟩:=ry
 exact rule i j t t' s _ _ hc ⟨.int (g i j),H,I.tok _,⟨_,rfl⟩,q⟩
theorem LF {f:Value->Value->Sem Value} {g:Int->Int->Int}
  (rule: ∀ (i j:Int) (t u:Tok) (s:Shared) (Q:Value->Shared->Prop) (E:Value->Shared->Prop),Q (.int (g i j) s.toks) { s with toks:=s.toks+1 }->wpAny (model X.prog X.w) X.A (f (.int i t) (.int j u)) Q E s) :
  dI X f (Dt fun i j=> .int (g i j)):=by
 intro pins s σ H x y v u Q I rx ry h
 obtain ⟨i,j,rfl,rfl,q⟩:=h
 obtain ⟨t,rfl⟩:=rx
 obtain ⟨t',rfl⟩:=ry
 exact rule i j t t' s _ _ ⟨.int (g i j),H,I.tok _,⟨_,rfl⟩,q⟩
theorem HK {f:Value->Value->Sem Value} {g:Int->Int->Bool}
  (rule: ∀ (i j:Int) (t u:Tok) (s:Shared) (Q:Value->Shared->Prop) (E:Value->Shared->Prop),Q (.bool (g i j)) s->wpAny (model X.prog X.w) X.A (f (.int i t) (.int j u)) Q E s) :
  dI X f (Dt fun i j=> .bl (g i j)):=by
 intro pins s σ H x y v u Q I rx ry h
 obtain ⟨i,j,rfl,rfl,q⟩:=h
 obtain ⟨t,rfl⟩:=rx
 obtain ⟨t',rfl⟩:=ry
 exact rule i j t t' s _ _ ⟨.bl (g i j),H,I,rfl,q⟩
noncomputable def M0 (i j:Int):Prop:=0 < j∧j < 1073741824
noncomputable def MY (i j:Int):Prop:=0<=j∧j<=1000000∧i.natAbs < 2 ^ 64
noncomputable def IP (i j:Int):Prop:=(-(2 ^ 64) < i∧i < 2 ^ 64)∨(-(2 ^ 64) < j∧j < 2 ^ 64)
theorem IP.ok {i j:Int} (h:IP i j):IntMulOk i j:=by
 rcases h with ⟨h1,h2⟩ | ⟨h1,h2⟩
 · exact .of_left (intBits_le_64 h1 h2)
 · exact .of_right (intBits_le_64 h1 h2)
theorem Im:dI X (binaryOp .Add) (Dt fun i j=> .int (i+j)):=LF fun _ _ _ _ _ _ _ q=>add_int q
theorem HI:dI X (binaryOp .Sub) (Dt fun i j=> .int (i - j)):=LF fun _ _ _ _ _ _ _ q=>sub_int q
theorem GW:dI X (binaryOp .Mult) (rI IP fun i j=> .int (i*j)):=Mn fun _ _ _ _ _ _ _ hc q=>mul_int q hc.ok
theorem DJ:dI X (binaryOp .FloorDiv) (rI M0 fun i j=> .int (i / j)):=Mn fun i j _ _ _ _ _ hc q=>by
 have h1:(0:Int) < j:=hc.1
 have h2:j < 1073741824:=hc.2
 exact floordiv_int (by omega) (by rw [Int.fdiv_eq_ediv_of_nonneg i (by omega)];exact q) (.inl (PyProof.noPylong_small (by omega)))
theorem Hs:dI X (binaryOp .Mod) (rI (fun _ j=>0 < j) fun i j=> .int (i % j)):=Mn fun i j _ _ _ _ _ hc q=>by
 have h1:(0:Int) < j:=hc
 exact mod_int' (by omega) (by rw [Int.fmod_eq_emod_of_nonneg i (by omega)];exact q)
theorem Hr:dI X (binaryOp .Pow) (rI MY fun i j=> .int (i ^ j.toNat)):=Mn fun _ _ _ _ _ _ _ hc q=>pow_int_small hc.1 hc.2.1 hc.2.2 q
end
noncomputable def x9:V->V->Bool
 | .non,.non=>true | .non,.int _=>true | .int _,.non=>true | .non,.bl _=>true | .bl _,.non=>true | .non,.str _=>true | .str _,.non=>true
 | .int _,.int _=>true | .bl _,.bl _=>true | .str _,.str _=>true | .byt _,.byt _=>true
 | .int _,.str _=>true | .str _,.int _=>true | .bl _,.str _=>true | .str _,.bl _=>true
 | _,_=>false
noncomputable def Oq:R2:=fun x y H Q=>x9 x y=true∧Q (.bl (decide (x=y))) H
noncomputable def Om:R2:=fun x y H Q=>x9 x y=true∧Q (.bl (!decide (x=y))) H
theorem vh {i j:Int}:decide (V.int i=V.int j)=(i == j):=by
 rw [Bool.eq_iff_iff]
 simp
theorem xR {i j:Bool}:decide (V.bl i=V.bl j)=(i == j):=by
 rw [Bool.eq_iff_iff]
 simp
theorem vz {i j:Str}:decide (V.str i=V.str j)=(i == j):=by
 rw [Bool.eq_iff_iff]
 simp
theorem vI {i j:Array UInt8}:decide (V.byt i=V.byt j)=(i.toList == j.toList):=by
 rw [Bool.eq_iff_iff]
 cases i
 cases j
 simp
section
variable {X:Cx} {a b c:Expr} {ta tb tc:TE} {pos:Pos}
theorem aX {pins:List (Addr × Obj)} {σ :St} {H:Hp} {s:Shared} {Q:VK} {k k':Bool} (I:Inv X pins σ H s) (q:Q (.bl k) H) (e:k=k'):EP X pins σ Q (.bool k') s:=by
 subst e
 exact ⟨.bl k,H,I,rfl,q⟩
theorem JQ:dI X (compareOp .Eq) Oq:=by
 intro pins s σ H x y v u Q I rx ry h
 obtain ⟨hs,q⟩:=h
 cases x with
 | non =>
  cases rx
  cases y with
  | non=>cases ry;exact PySem.EqNone.eq_none_none (aX I q (by simp))
  | bl j=>cases ry;exact PySem.EqNone.eq_none_bool (aX I q (by simp))
  | int j=>obtain ⟨t',rfl⟩:=ry;exact PySem.EqNone.eq_none_int (aX I q (by simp))
  | str j=>obtain ⟨t',rfl⟩:=ry;exact PySem.EqNone.eq_none_str (aX I q (by simp))
  | _=>exact absurd (show false=true from hs) Bool.false_ne_true
 | bl i =>
  cases rx
  cases y with
  | non=>cases ry;exact PySem.EqNone.eq_bool_none (aX I q (by simp))
  | bl j=>cases ry;exact eq_bool (aX I q xR)
  | str j=>obtain ⟨t',rfl⟩:=ry;exact PySem.EqMixed.eq_bool_str (aX I q (by simp))
  | _=>exact absurd (show false=true from hs) Bool.false_ne_true
 | int i =>
  obtain ⟨t,rfl⟩:=rx
  cases y with
  | non=>cases ry;exact PySem.EqNone.eq_int_none (aX I q (by simp))
  | int j=>obtain ⟨t',rfl⟩:=ry;exact eq_int (aX I q vh)
  | str j=>obtain ⟨t',rfl⟩:=ry;exact PySem.EqMixed.eq_int_str (aX I q (by simp))
  | _=>exact absurd (show false=true from hs) Bool.false_ne_true
 | str i =>
  obtain ⟨t,rfl⟩:=rx
  cases y with
  | non=>cases ry;exact PySem.EqNone.eq_str_none (aX I q (by simp))
  | bl j=>cases ry;exact PySem.EqMixed.eq_str_bool (aX I q (by simp))
  | int j=>obtain ⟨t',rfl⟩:=ry;exact PySem.EqMixed.eq_str_int (aX I q (by simp))
  | str j=>obtain ⟨t',rfl⟩:=ry;exact eq_str (aX I q vz)
  | _=>exact absurd (show false=true from hs) Bool.false_ne_true
 | byt i =>
  obtain ⟨t,rfl⟩:=rx
  cases y with
  | byt j=>obtain ⟨t',rfl⟩:=ry;exact PySem.W.eq_bytes (aX I q vI)
  | _=>exact absurd (show false=true from hs) Bool.false_ne_true
 | _=>cases y<;>exact absurd (show false=true from hs) Bool.false_ne_true
theorem Lc:dI X (compareOp .NotEq) Om:=by
 intro pins s σ H x y v u Q I rx ry h
 obtain ⟨hs,q⟩:=h
 cases x with
 | non =>
  cases rx
  cases y with
  | non=>cases ry;exact PySem.EqNone.ne_none_none (aX I q (by simp))
  | bl j=>cases ry;exact PySem.EqNone.ne_none_bool (aX I q (by simp))
  | int j=>obtain ⟨t',rfl⟩:=ry;exact PySem.EqNone.ne_none_int (aX I q (by simp))
  | str j=>obtain ⟨t',rfl⟩:=ry;exact PySem.EqNone.ne_none_str (aX I q (by simp))
  | _=>exact absurd (show false=true from hs) Bool.false_ne_true
 | bl i =>
  cases rx
  cases y with
  | non=>cases ry;exact PySem.EqNone.ne_bool_none (aX I q (by simp))
  | bl j=>cases ry;exact ne_bool (aX I q (congrArg not xR))
  | str j=>obtain ⟨t',rfl⟩:=ry;exact PySem.EqMixed.ne_bool_str (aX I q (by simp))
  | _=>exact absurd (show false=true from hs) Bool.false_ne_true
 | int i =>
  obtain ⟨t,rfl⟩:=rx
  cases y with
  | non=>cases ry;exact PySem.EqNone.ne_int_none (aX I q (by simp))
  | int j=>obtain ⟨t',rfl⟩:=ry;exact ne_int (aX I q (congrArg not vh))
  | str j=>obtain ⟨t',rfl⟩:=ry;exact PySem.EqMixed.ne_int_str (aX I q (by simp))
  | _=>exact absurd (show false=true from hs) Bool.false_ne_true
 | str i =>
  obtain ⟨t,rfl⟩:=rx
  cases y with
  | non=>cases ry;exact PySem.EqNone.ne_str_none (aX I q (by simp))
  | bl j=>cases ry;exact PySem.EqMixed.ne_str_bool (aX I q (by simp))
  | int j=>obtain ⟨t',rfl⟩:=ry;exact PySem.EqMixed.ne_str_int (aX I q (by simp))
  | str j=>obtain ⟨t',rfl⟩:=ry;exact ne_str (aX I q (congrArg not vz))
  | _=>exact absurd (show false=true from hs) Bool.false_ne_true
 | byt i =>
  obtain ⟨t,rfl⟩:=rx
  cases y with
  | byt j=>obtain ⟨t',rfl⟩:=ry;exact PySem.W.ne_bytes (aX I q (congrArg not vI))
  | _=>exact absurd (show false=true from hs) Bool.false_ne_true
 | _=>cases y<;>exact absurd (show false=true from hs) Bool.false_ne_true
theorem La:dI X (compareOp .Lt) (Dt fun i j=> .bl (decide (i < j))):=HK fun _ _ _ _ _ _ _ q=>lt_int q
theorem LZ:dI X (compareOp .Gt) (Dt fun i j=> .bl (decide (j < i))):=HK fun _ _ _ _ _ _ _ q=>gt_int q
theorem JR:dI X (compareOp .GtE) (Dt fun i j=> .bl (decide (j<=i))):=HK fun _ _ _ _ _ _ _ q=>ge_int q
theorem vZ:dI X (compareOp .In) (fun x y H Q=> ∃ i j,x= .str i∧y= .str j∧Q (.bl (!(Builtin.Str.occurrences j i 0 j.length 1).isEmpty)) H):=by
 intro pins s σ H x y v u Q I rx ry h
 obtain ⟨i,j,rfl,rfl,q⟩:=h
 obtain ⟨t,rfl⟩:=rx
 obtain ⟨t',rfl⟩:=ry
 exact in_str (aX I q rfl)
theorem dI.or {f:Value->Value->Sem Value} {r r':R2} (h:dI X f r) (h':dI X f r'):dI X f (fun x y H Q=>r x y H Q∨r' x y H Q):=by
 intro pins s σ H x y v u Q I rx ry q
 rcases q with q | q
 · exact h pins s σ H x y v u Q I rx ry q
 · exact h' pins s σ H x y v u Q I rx ry q
theorem AW (b:Expr) {op:CmpOp} (h:op≠ .In:=by decide) (h2:op≠ .NotIn:=by decide):behindInMarks op b=false:=by
 have e1:(op == CmpOp.In)=false:=by cases op<;>first | rfl | exact absurd rfl h
 have e2:(op == CmpOp.NotIn)=false:=by cases op<;>first | rfl | exact absurd rfl h2
 cases b<;>simp [behindInMarks,e1,e2]
theorem Bt {op:CmpOp} {r:R2} (ho:dI X (compareOp op) r) (ha:PE X a ta) (hb:PE X b tb) (hm:behindInMarks op b=false):PE X (.Compare a [op] [b] pos) (D0 r ta tb):=by
 intro pins s σ H Q I h
 exact wpAny_Compare1 (IJ ha hb I h fun v u s2 x y H2 I2 rx ry q=>ho pins s2 σ H2 x y v u Q I2 rx ry q) hm
noncomputable def zZ (t:TE):TT:=fun σ H Q=>t σ H fun x H'=> ∃ k,x= .bl k∧Q k H'
theorem Bm {op:CmpOp} {r:R2} (ho:dI X (compareOp op) r) (ha:PE X a ta) (hb:PE X b tb) (hm:behindInMarks op b=false):PT X (.Compare a [op] [b] pos) (zZ (D0 r ta tb)):=by
 intro pins s σ H Q I h
 refine wpAny_isTrue_Compare1 (cL (ha pins s σ H _ I h) fun v s1 ⟨x,H1,I1,r1,q1⟩=>cL (hb pins s1 σ H1 _ I1 q1) fun u s2 ⟨y,H2,I2,r2,q2⟩ =>
  cL (ho pins s2 σ H2 x y v u _ I2 r1 r2 q2) fun c s3 ⟨z,H3,I3,r3,k,e,q3⟩=>?_) hm
 subst e
 cases r3
 exact wpAny_truthy_bool ⟨H3,I3,q3⟩
theorem j6:(sizeLine:Nat) < 2 ^ 63:=by rw [sizeLine_eq];decide
theorem vals1 {x:V} {us:List Value} (r:Vals [x] us): ∃ u,us=[u]∧RelV x u:=by
 cases r with
 | cons r1 r2=>cases r2;exact ⟨_,rfl,r1⟩
theorem vals2 {x y:V} {us:List Value} (r:Vals [x,y] us): ∃ u w',us=[u,w']∧RelV x u∧RelV y w':=by
 cases r with
 | cons r1 r2 =>
  cases r2 with
  | cons r3 r4=>cases r4;exact ⟨_,_,rfl,r1,r3⟩
theorem xg:aW X (.type "int") (fun xs H Q=>(∃ i,xs=[.int i]∧Q (.int i) H)∨ ∃ k,xs=[.bl k]∧Q (.int (if k then 1 else 0)) H):=by
 intro pins s σ H xs us Q I r h
 rcases h with ⟨i,rfl,q⟩ | ⟨k,rfl,q⟩
 · obtain ⟨u,rfl,t,rfl⟩:=vals1 r
   exact call_int_int ⟨.int i,H,I,⟨_,rfl⟩,q⟩
 · obtain ⟨u,rfl,r1⟩:=vals1 r
   cases r1
   exact call_int_bool ⟨.int (if k then 1 else 0),H,I.tok _,⟨_,rfl⟩,q⟩
end
open PySem PySem.Spec PyProof.Rows
structure HY (h:Heap) (x dx C:Addr) (mA:Str->Option Value):Prop where
 obj:h.get? x=some (PySem.W.instObj C dx)
 ns:h.Ns1 dx mA
 ne:dx≠x
theorem xt {h:Heap} {dx:Addr} {mA:Str->Option Value} (n:h.Ns1 dx mA): ∃ od,h.get? dx=some od∧ ∀ name,PySem.W.lookIn name od=some (mA name):=by
 obtain ⟨o,es,ep,ho,hd,hk,_,hm⟩:=n
 refine ⟨o,ho,fun name=>?_⟩
 have e:=hm name
 unfold nsFind findBy at e
 rw [<- Array.find?_toList] at e
 unfold PySem.W.lookIn
 rw [hd]
 dsimp only
 split
 · rename_i y q
   rw [q] at e
   exact congrArg some e
 · rename_i q
   rw [q] at e
   have a:es.toList.any (·.refKey)=false:=by
    rw [List.any_eq_false]
    intro y hy
    obtain ⟨z,t,hkey⟩:=hk y (Array.mem_toList_iff.mp hy)
    simp [DictEntry.refKey,hkey]
   have a': ¬ es.toList.any (·.refKey)=true:=by rw [a];exact Bool.false_ne_true
   rw [if_neg a']
   exact congrArg some e
theorem HY.look {h:Heap} {x dx C:Addr} {mA:Str->Option Value} (I:HY h x dx C mA): ∃ od,PySem.W.InstAt h x (PySem.W.instObj C dx) C (some od)∧ ∀ name,PySem.W.lookIn name od=some (mA name) :=
 let ⟨od,ho,hl⟩:=xt I.ns
 ⟨od,⟨I.obj,rfl,rfl,ho⟩,hl⟩
section
variable {prog:Program} {w:World} {A:Around} {E:Value->Shared->Prop} {s:Shared} {K:PySem.W.Frag} {x dx C f:Addr} {mA:Str->Option Value} {name:Str} {v:Value}
end
theorem jA.some_of {v:V} {o:Option Value} (r:jA (some v) o): ∃ u,o=some u∧RelV v u:=by
 cases o with
 | none=>exact (show False from r).elim
 | some u=>exact ⟨u,rfl,r⟩
section
variable {P:Program} {w:World} {H H':Hp} {h h':Heap} {a C dx:Addr} {fs fs':List (Str × V)}
theorem CD (bz:iY P w H h) (e:H a=some (.ins C dx fs)): ∃ mA,HY h a dx C mA∧(∀ f,jA (fs.lookup f) (mA f))∧PySem.Within mA (fs.map (·.1))∧fs.length<=1000∧H dx=some (.own a):=by
 obtain ⟨d,z,ne,ob,mA,n,r,q⟩:=(show a9 P w H h a (.ins C dx fs) from bz a _ e)
 exact ⟨mA,⟨ob,n,ne⟩,r,q,z,d⟩
end
structure Nz (K:PySem.W.Frag) (C:Addr):Prop where
 pg:PySem.W.plainGet K C Str.empty=true
 hd:PySem.W.hasDictIn K C=true
 po:PySem.W.plainOver K C=true
 sa:PySem.W.findIn K (.ref C) "__setattr__" =some (some (.builtin "object.__setattr__"))
theorem Nz.get {K:PySem.W.Frag} {C:Addr} (c:Nz K C) (f:Str):PySem.W.plainGet K C f=true:=c.pg
structure Ov (K:PySem.W.Frag) (C:Addr) (f:Str) (v:V) (u:Value):Prop where
 at_:PySem.W.findIn K (.ref C) f=some (some u)
 rel:RelV v u
 get:PySem.W.specialIn K u "__get__" =some none
 cp:PySem.W.copiedNames.contains f=false
structure Meth (K:PySem.W.Frag) (C:Addr) (m:Str) (f:Addr):Prop where
 at_:PySem.W.findIn K (.ref C) m=some (some (.ref f))
 fn:PySem.W.isFn K (.ref f)=true
 kp:PySem.W.keepIn K (.ref f)=true
section
variable {X:Cx} {pins:List (Addr × Obj)} {σ :St} {H:Hp} {s:Shared} {a C dx:Addr} {fs:List (Str × V)} {f:Str} {v:V} {A:Around} {E:Value->Shared->Prop}
theorem Inv.made (I:Inv X pins σ H s):Inv X pins σ (upd (upd H s.heap.objs.size (.own (s.heap.objs.size+1))) (s.heap.objs.size+1) (.ins C s.heap.objs.size []))
  { s with heap:=(s.heap.push PySem.W.emptyDict).push (PySem.W.instObj C s.heap.objs.size) }:=by
 have e1:(s.heap.push PySem.W.emptyDict).get? s.heap.objs.size=some PySem.W.emptyDict:=Heap.get?_push_size s.heap rfl
 have e2:((s.heap.push PySem.W.emptyDict).push (PySem.W.instObj C s.heap.objs.size)).get? (s.heap.objs.size+1)=some (PySem.W.instObj C s.heap.objs.size):=by
  have:=Heap.get?_push_size (s.heap.push PySem.W.emptyDict) (o:=PySem.W.instObj C s.heap.objs.size) rfl
  rwa [Heap.size_push] at this
 have e3:(s.heap.push PySem.W.emptyDict).Ns s.heap.objs.size (fun _=>none):=⟨PySem.W.emptyDict, #[],_,e1,rfl,(fun e he=>absurd he (by simp)),fun _=>rfl⟩
 have I1:=I.laid (a:=s.heap.objs.size) (o:= .own (s.heap.objs.size+1)) (h':=s.heap.push PySem.W.emptyDict) (t':=s.toks) (fun b u q=>Heap.get?_push_of_some _ q) (Nat.le_refl _) ⟨_,e1⟩
 refine I1.laid (a:=s.heap.objs.size+1) (o:= .ins C s.heap.objs.size []) (t':=s.toks) (fun b u q=>Heap.get?_push_of_some _ q) (Nat.le_of_eq (Heap.size_push _ _)) ?_
 have ne:s.heap.objs.size≠s.heap.objs.size+1:=Nat.ne_of_lt (Nat.lt_succ_self _)
 refine ⟨by rw [aE ne,aY],Nat.zero_le _,ne,e2,fun _=>none,(Heap.Ns1.of_empty e3).at fun o q=>Heap.get?_push_of_some _ q,fun _=>True.intro,fun y hy=>absurd rfl hy⟩
end
section
variable {X:Cx} {o e value:Expr} {f:Str} {pos pos' tpos:Pos} {ta tv:TE}
end
section
variable {X:Cx} {pins:List (Addr × Obj)} {σ :St} {H:Hp} {s:Shared} {A:Around} {E:Value->Shared->Prop} {Q:Value->Shared->Prop} {c:Value} {b:Bool}
inductive iR (K:PySem.W.Frag) (H:Hp):V->Value->Prop where
 | non:iR K H .non (.type "NoneType")
 | bl (x:Bool):iR K H (.bl x) (.type "bool")
 | int (i:Int):iR K H (.int i) (.type "int")
 | str (x:Str):iR K H (.str x) (.type "str")
 | flt (x:UInt64):iR K H (.flt x) (.type "float")
 | lst {a:Addr} {xs:List V} (e:H a=some (.lst xs)):iR K H (.ref a) (.type "list")
 | jg {a:Addr} {o:Obj} {xs:List V} (e:H a=some (.jg o (.lst xs))):iR K H (.ref a) (.type "list")
 | tup {a:Addr} {xs:List V} (e:H a=some (.tup xs)):iR K H (.ref a) (.type "tuple")
 | dK {a:Addr} {kvs:List (Key × V)} (e:H a=some (.dK kvs)):iR K H (.ref a) (.type "dict")
 | dT {a:Addr} {kvs:List (List Key × V)} (e:H a=some (.dT kvs)):iR K H (.ref a) (.type "dict")
 | ins {a C dx:Addr} {fs:List (Str × V)} (e:H a=some (.ins C dx fs)) (cl:Nz K C) (ha:PySem.W.findIn K (.ref C) "__class__" =some (some (.builtin "object.__class__")))
   (hn:PySem.W.specialIn K (.builtin "object.__class__") "__get__" =some (some (.builtin "getset_descriptor.__get__"))) (htk:PySem.W.takesIn K (.builtin "object.__class__")=some true)
   (hm:PySem.W.mroIn K C (.type "object")=some true):iR K H (.ref a) (.ref C)
theorem wV {x:V} {u t:Value} (I:Inv X pins σ H s) (rx:RelV x u) (ty:iR X.K H x t) (e:PySem.W.kitOne X.K t c=some b) (h: ∀ tk,Q (.bool b) { s with toks:=tk }) :
  wpAny (model X.prog X.w) A (call (.builtin "isinstance") [u,c]) Q E s:=by
 cases ty with
 | non=>cases (show u=Value.none from rx);exact PySem.W.kia_one PySem.W.kitx_none I.j1 True.intro e (fun z=>nomatch z) h
 | bl y=>cases (show u=Value.bool y from rx);exact PySem.W.kia_one PySem.W.kitx_bool I.j1 True.intro e (fun z=>nomatch z) h
 | int i=>obtain ⟨t,q⟩:=(show ∃ t,u=Value.int i t from rx);cases q;exact PySem.W.kia_one PySem.W.kitx_int I.j1 True.intro e (fun z=>nomatch z) h
 | str y=>obtain ⟨t,q⟩:=(show ∃ t,u=Value.str y t from rx);cases q;exact PySem.W.kia_one PySem.W.kitx_str I.j1 True.intro e (fun z=>nomatch z) h
 | flt y=>obtain ⟨t,q⟩:=(show ∃ t,u=Value.float y t from rx);cases q;exact PySem.W.kia_one PySem.W.kitx_float I.j1 True.intro e (fun z=>nomatch z) h
 | @lst a xs ea =>
  cases (show u=Value.ref a from rx)
  obtain ⟨_,_,n,_,h1⟩:=(show a9 X.prog X.w H s.heap a (.lst xs) from I.bz a _ ea)
  exact PySem.W.kia_one PySem.W.kitx_list I.j1 ⟨_,h1,rfl⟩ e (fun z=>nomatch z) h
 | @jg a ob xs ea =>
  cases (show u=Value.ref a from rx)
  obtain ⟨_,_,_,n,_,h1⟩:=(show a9 X.prog X.w H s.heap a (.jg ob (.lst xs)) from I.bz a _ ea)
  exact PySem.W.kia_one PySem.W.kitx_list I.j1 ⟨_,h1,rfl⟩ e (fun z=>nomatch z) h
 | @tup a xs ea =>
  cases (show u=Value.ref a from rx)
  obtain ⟨_,_,_,p⟩:=(show a9 X.prog X.w H s.heap a (.tup xs) from I.bz a _ ea)
  obtain ⟨o,h1,h2,_⟩:=p
  exact PySem.W.kia_one PySem.W.kitx_tuple I.j1 ⟨o,h1,h2⟩ e (fun z=>nomatch z) h
 | @dK a kvs ea =>
  cases (show u=Value.ref a from rx)
  obtain ⟨_,_,vs,_,p⟩:=(show a9 X.prog X.w H s.heap a (.dK kvs) from I.bz a _ ea)
  obtain ⟨o,es,ep,h1,h2,_⟩:=p
  exact PySem.W.kia_one PySem.W.kitx_dict I.j1 ⟨o,h1,h2.1⟩ e (fun z=>nomatch z) h
 | @dT a kvs ea =>
  cases (show u=Value.ref a from rx)
  obtain ⟨_,_,xs,_,o,es,ep,h1,h2,_⟩:=(show a9 X.prog X.w H s.heap a (.dT kvs) from I.bz a _ ea)
  exact PySem.W.kia_one PySem.W.kitx_dict I.j1 ⟨o,h1,h2.1⟩ e (fun z=>nomatch z) h
 | @ins a C dx fs ea cl ha hn htk hm =>
  cases (show u=Value.ref a from rx)
  obtain ⟨mA,O,_⟩:=CD I.bz ea
  obtain ⟨od,J,_⟩:=O.look
  exact PySem.W.kia_one (PySem.W.kitx_own (cl.get _) cl.hd ha hn htk hm) I.j1 J e (fun z=>nomatch z) h
end
open PySem PySem.Spec PyProof.Rows
structure dq (k:Nat) (A:Around):Prop where
 hd:A.handled=none
 dp:A.depth+3*k+5 < recursionLimit
 un:A.units+16*k+200 < cLine
 gd:A.guards=some []
theorem dq.mono {j k:Nat} {A:Around} (r:dq k A) (h:j<=k):dq j A:=⟨r.hd,by have:=r.dp;omega,by have:=r.un;omega,r.gd⟩
theorem dq.deeper {k:Nat} {A:Around} (r:dq (k+1) A) (env:Env):dq k (A.deeper env) :=
 ⟨r.hd,by have:=r.dp;show A.depth+1+3*k+5 < _;omega,by have:=r.un;show A.units+3+16*k+200 < _;omega,r.gd⟩
theorem dq.in1 {k:Nat} {A:Around} (r:dq (k+1) A):dq k A.in1 :=
 ⟨r.hd,by have:=r.dp;show A.depth+3*k+5 < _;omega,by have:=r.un;show A.units+1+16*k+200 < _;omega,r.gd⟩
theorem dq.depth {k:Nat} {A:Around} (r:dq k A):A.depth < recursionLimit:=by have:=r.dp;omega
theorem dq.units {k:Nat} {A:Around} (r:dq k A):A.units+64 < cLine:=by have:=r.un;omega
theorem dq.Iq {k:Nat} {A:Around} (r:dq k A):A.units < cLine:=by have:=r.un;omega
noncomputable def KU:TA:=fun _ H Q=>Q [] H
noncomputable def AS (ta:TE) (tr:TA):TA:=fun σ H Q=>ta σ H fun x H1=>tr σ H1 fun xs H2=>Q (x::xs) H2
section
variable {X:Cx} {e:Expr} {es:List Expr} {te:TE} {t:TA} {pos:Pos}
theorem ID:PA X [] KU:=fun _ _ _ _ H Q I h=>Calls.spliced_nil ⟨[],H,I,.nil,h⟩
theorem Be (ha:PE X e te) (hr:PA X es t) (hs:starEach (e::es) X.env=(false,eval e X.env)::starEach es X.env:=by rfl):PA X (e::es) (AS te t):=by
 intro pos pins s σ H Q I h
 rw [hs]
 show wpAny _ _ (spliced ((false,eval e X.env)::backTo pos (starEach es X.env))) _ _ s
 refine Calls.spliced_cons (cL (ha pins s σ H _ I h) fun u s1 ⟨x,H1,I1,r1,q1⟩=>?_)
 exact cL (hr pos pins s1 σ H1 _ I1 q1) fun us s2 ⟨xs,H2,I2,r2,q2⟩=>⟨x::xs,H2,I2,.cons r1 r2,q2⟩
noncomputable def Ka (t:TA):TE:=fun σ H Q=>t σ H fun xs H1=>xs.length<=sizeLine∧ ∀ p,H1 p=none->Q (.ref p) (upd H1 p (.tup xs))
noncomputable def K3 (t:TA):TE:=fun σ H Q=>t σ H fun xs H1=>xs.length<=sizeLine∧ ∀ p,H1 p=none->Q (.ref p) (upd H1 p (.lst xs))
theorem FF {x1} (h:PA X es t):PE X (.Tuple es x1 pos) (Ka t):=by
 intro pins s σ H Q I hq
 refine wpAny_Tuple_spliced (cL (h pos pins s σ H _ I hq) fun us s1 ⟨xs,H1,I1,r,z,q⟩=>⟨by rw [<- r.length];exact z,?_⟩)
 have hf:H1 s1.heap.objs.size=none:=I1.bz.fresh (Nat.le_refl _)
 refine ⟨.ref s1.heap.objs.size,upd H1 s1.heap.objs.size (.tup xs),I1.laid (t':=s1.toks) (fun b u e=>Heap.get?_push_of_some _ e) (Nat.le_refl _) ?_,rfl,q _ hf⟩
 exact ⟨z,us,r,⟨_,Heap.get?_push_size _ rfl,rfl,_,rfl,rfl⟩⟩
theorem Hj (h:PA X es t):PE X (.List es pos) (K3 t):=by
 intro pins s σ H Q I hq
 refine wpAny_List_spliced (cL (h pos pins s σ H _ I hq) fun us s1 ⟨xs,H1,I1,r,z,q⟩=>⟨by rw [<- r.length];exact z,?_⟩)
 have hf:H1 s1.heap.objs.size=none:=I1.bz.fresh (Nat.le_refl _)
 refine ⟨.ref s1.heap.objs.size,upd H1 s1.heap.objs.size (.lst xs),I1.laid (t':=s1.toks) (fun b u e=>Heap.get?_push_of_some _ e) (Nat.le_refl _) ?_,rfl,q _ hf⟩
 exact ⟨z,us,0,r,Heap.get?_push_size _ rfl⟩
end
abbrev Sp:=List V->Hp->VK->XK->Prop
abbrev xF:=List Env->Hp->Shared->XK->Value->Shared->Prop
structure uB (P:Program) (w:World) (K:PySem.W.Frag) (mg:Str->Option Value) (base:Heap) (A:Around) (outer:List Env) (s:Shared) (H:Hp):Prop where
 frames:A.frames=some outer
 mod:Mod K mg base
 bs: ∀ b o,base.get? b=some o->s.heap.get? b=some o∧H b=none
 Bc:base.objs.size<=s.heap.objs.size
 j9:s.heap.FunFrames base outer
 EO: ∀ b∈xH outer,H b=none
 bz:iY P w H s.heap
 bare:AllBare s.gens
noncomputable def CE (outer:List Env) (P:Program) (w:World) (H:Hp) (s:Shared) (Q:VK) (u:Value) (s':Shared):Prop :=
 ∃ v H',s'.os=s.os∧AllBare s'.gens∧Un (xH outer) [] H H' s.heap s'.heap∧iY P w H' s'.heap∧RelV v u∧Q v H'
noncomputable def CR (CX:xF) (outer:List Env) (P:Program) (w:World) (H:Hp) (s:Shared) (Q:VK) (E:XK) (r:Result) (s':Shared):Prop :=
 match r with
 | .ok (.ret u)=>CE outer P w H s Q u s'
 | .ok _=>False
 | .error e=>CX outer H s E e s'
structure jC (P:Program) (w:World) (K:PySem.W.Frag) (mg:Str->Option Value) (base:Heap) (CX:xF) (k:Nat) (f:Addr) (fd:FuncData) (ps:List Str) (sp:Sp):Prop where
 len: ∀ vs H Q E,sp vs H Q E->vs.length=ps.length
 run: ∀ (A:Around) (outer:List Env) (s:Shared) (H:Hp) (args:Args) (us:List Value) (vs:List V) (Q:VK) (E:XK),dq k A->uB P w K mg base A outer s H->BindsTo s fd args (ps.zip us)->Vals vs us->sp vs H Q E ->
  codeAny (model P w) A (.call (.ref f) args) (CR CX outer P w H s Q E) s
theorem jC.imp {P:Program} {w:World} {K:PySem.W.Frag} {mg:Str->Option Value} {base:Heap} {CX:xF} {k:Nat} {f:Addr} {fd:FuncData} {ps:List Str} {sp sp':Sp} (F:jC P w K mg base CX k f fd ps sp)
  (h: ∀ vs H Q E,sp' vs H Q E->sp vs H Q E):jC P w K mg base CX k f fd ps sp' :=
 ⟨fun vs H Q E q=>F.len vs H Q E (h _ _ _ _ q),fun A outer s H args us vs Q E hr he hb hv hs=>F.run A outer s H args us vs Q E hr he hb hv (h _ _ _ _ hs)⟩
theorem uB.in1 {P:Program} {w:World} {K:PySem.W.Frag} {mg:Str->Option Value} {base:Heap} {A:Around} {outer:List Env} {s:Shared} {H:Hp} (e:uB P w K mg base A outer s H) :
  uB P w K mg base A.in1 outer s H:=⟨e.frames,e.mod,e.bs,e.Bc,e.j9,e.EO,e.bz,e.bare⟩
section
variable {X:Cx} {pins:List (Addr × Obj)} {σ :St} {H:Hp} {s s':Shared}
theorem Inv.M8 (I:Inv X pins σ H s):uB X.prog X.w X.K X.mg X.base X.A X.stack s H :=
 ⟨I.ok.frames,I.ok.mod,I.bs,Nat.le_trans I.ok.Bc I.sz,I.stack,I.vJ,I.bz,I.bare⟩
theorem Inv.after {Q:VK} {u:Value} (I:Inv X pins σ H s) (h:CE X.stack X.prog X.w H s Q u s'):EP X pins σ Q u s':=by
 obtain ⟨v,H',os,bare,un,bz,r,q⟩:=h
 obtain ⟨hh,g,d,t,os'⟩:=s'
 obtain rfl:os'=s.os:=os
 exact ⟨v,H',I.call (h':=hh) (g':=g) (d':=d) (t':=t) (ch:=[]) un bz bare (fun b z=>absurd z (by simp)),r,q⟩
end
noncomputable def vw (sp:Sp) (Bd:List V) (E:XK) (t:TA):TE:=fun σ H Q=>t σ H fun vs H1=>sp (vs++Bd) H1 Q E
noncomputable def Binds (K:PySem.W.Frag) (fd:FuncData) (ps:List Str) (ds:List Value):Prop :=
 ∀ (s:Shared) (us:List Value),K.In s.heap->(us++ds).length=ps.length->BindsTo s fd ⟨us,[]⟩ (ps.zip (us++ds))
theorem Binds.all {K:PySem.W.Frag} {fd:FuncData} {ps:List Str} (h: ∀ us:List Value,us.length=ps.length->bindArgs fd ⟨us,[]⟩=pure (ps.zip us)):Binds K fd ps []:=fun s us _ hl=>by
 rw [List.append_nil] at hl ⊢
 exact .of_eq (h us hl)
noncomputable def Passes (CX:xF) (X:Cx) (E:XK):Prop:= ∀ (pins:List (Addr × Obj)) (σ :St) (H:Hp) (s:Shared) (e:Value) (s':Shared),Inv X pins σ H s->CX X.stack H s E e s'->X.xe e s'
section
variable {X:Cx} {CX:xF} {k:Nat} {f C:Addr} {fd:FuncData} {ps:List Str} {sp:Sp} {Bd:List V} {ds:List Value} {E:XK} {x m:Str} {p pos apos:Pos} {e o:Expr} {es:List Expr} {ta:TE} {t:TA}
theorem Fx {pins:List (Addr × Obj)} {σ :St} {H:Hp} {s:Shared} {Q:VK} {us:List Value} {vs:List V} (F:jC X.prog X.w X.K X.mg X.base CX k f fd ps sp) (hr:dq k X.A) (hb:Binds X.K fd ps ds) (hd:Vals Bd ds) (hx:Passes CX X E)
  (I:Inv X pins σ H s) (r:Vals vs us) (h:sp (vs++Bd) H Q E):wpAny (model X.prog X.w) X.A (call (.ref f) us) (EP X pins σ Q) X.xe s:=by
 have r2:Vals (vs++Bd) (us++ds):=r.append hd
 have hl:(us++ds).length=ps.length:=by rw [<- r2.length];exact F.len _ _ _ _ h
 refine wpAny_call (codeAny_mono (F.run X.A X.stack s H ⟨us,[]⟩ (us++ds) (vs++Bd) Q E hr I.M8 (hb s us I.j1 hl) r2 h) fun r s' hq=>?_)
 cases r with
 | error e=>exact hx pins σ H s e s' I hq
 | ok fl =>
  cases fl with
  | ret u=>exact I.after hq
  | next=>exact False.elim hq
  | brk=>exact False.elim hq
  | cont=>exact False.elim hq
theorem C4 (F:jC X.prog X.w X.K X.mg X.base CX k f fd ps sp) (hr:dq k X.A) (hg:Gl X x) (hm:X.mg x=some (.ref f)) (hk:PySem.W.keepIn X.K (.ref f)=true) (hb:Binds X.K fd ps ds) (hd:Vals Bd ds) (hx:Passes CX X E)
  (ha:PA X (e::es) t) (hdb:(x == ("__debug__" :Str))=false:=by decide) (he:starEach (e::es) X.env=(false,eval e X.env)::starEach es X.env:=by rfl) (hpl:(backTo pos (starEach es X.env)).any (·.1)=false:=by rfl) :
  PE X (.Call (.Name x p) (e::es) [] pos) (vw sp Bd E t):=by
 intro pins s σ H Q I h
 refine wpAny_Call_Name_kw (vO I hg hm ?_ hdb)
 refine PySem.W.callWith_K (h₀ :=X.base) I.ok.mod.MK hk (cL (ha pos pins s σ H _ I h) fun us s1 ⟨vs,H1,I1,r,q⟩=>⟨I1.j1,?_⟩) he hpl
 exact Fx F hr hb hd hx I1 r q
structure Mk (K:PySem.W.Frag) (C f:Addr):Prop where
 makes:PySem.W.makesIn K C=true
 init:PySem.W.findIn K (.ref C) "__init__" =some (some (.ref f))
 fn:PySem.W.isFn K (.ref f)=true
 kp:PySem.W.keepIn K (.ref C)=true
end
section
variable {X:Cx} {CX:xF} {k:Nat} {f C:Addr} {fd:FuncData} {ps ks:List Str} {sp:Sp} {E:XK} {x m:Str} {p pos apos kpos:Pos} {e o:Expr} {es:List Expr} {kws:List Keyword} {te ta:TE} {t tk:TA} {nm:Option Str}
structure MD (K:PySem.W.Frag) (fd:FuncData) (ps ks:List Str) (g:List Value->List Value->List Value) (gV:List V->List V->List V):Prop where
 to: ∀ (s:Shared) (us ws:List Value),K.In s.heap->(g us ws).length=ps.length->BindsTo s fd ⟨us,ks.zip ws⟩ (ps.zip (g us ws))
 rel: ∀ {vs:List V} {us:List Value} {zs:List V} {ws:List Value},Vals vs us->Vals zs ws->Vals (gV vs zs) (g us ws)
variable {g:List Value->List Value->List Value} {gV:List V->List V->List V}
end
structure aC (N P:List Str) (sc:Scope):Prop where
 kind:sc.kind= .function
 co:sc.isCoroutine=false
 gen:sc.isGenerator=false
 nd:N.Nodup
 pre:N.take P.length=P
 par: ∀ x∈P,sc.names.lookup x=some .local∨sc.names.lookup x=some .cell
 Gp: ∀ y∈sc.names,y.2≠ .free
theorem ph {kindOf:Str->Option NameKind} {x:Str}: ∀ {binds:List (Str × Value)} {m:Str->Option Value},(∀ v,(x,v) ∉ binds)->bindL kindOf binds m x=m x
 | [],_,_=>rfl
 | (n,v)::r,m,h=>by
  unfold bindL
  rw [ph fun w hw=>h w (List.mem_cons_of_mem _ hw)]
  split
  · have:x≠n:=by rintro rfl;exact h v List.mem_cons_self
    simp [this]
  · rfl
theorem pq {kindOf:Str->Option NameKind} {x:Str}: ∀ {binds:List (Str × Value)} {m:Str->Option Value},(∀ v,(x,v) ∉ binds)->bindC kindOf binds m x=m x
 | [],_,_=>rfl
 | (n,v)::r,m,h=>by
  unfold bindC
  rw [pq fun w hw=>h w (List.mem_cons_of_mem _ hw)]
  split
  · rfl
  · have:x≠n:=by rintro rfl;exact h v List.mem_cons_self
    simp [this]
theorem pv {kindOf:Str->Option NameKind} {x:Str} {v:Value}: ∀ {P:List Str} {vs:List Value} {i:Nat} {m:Str->Option Value},P.Nodup->P[i]?=some x->vs[i]?=some v->kindOf x=some .local ->
  bindL kindOf (P.zip vs) m x=some v
 | [],_,_,_,_,h,_,_=>by simp at h
 | _::_,[],_,_,_,_,h,_=>by simp at h
 | p::P,w::vs,0,m,nd,h1,h2,hk=>by
  simp at h1 h2;subst h1;subst h2
  show bindL kindOf ((p,w)::P.zip vs) m p=_
  unfold bindL
  rw [ph fun v hv=>(List.nodup_cons.mp nd).1 (List.of_mem_zip hv).1,if_pos hk]
  simp
 | p::P,w::vs,i+1,m,nd,h1,h2,hk=>by
  show bindL kindOf ((p,w)::P.zip vs) m x=_
  unfold bindL
  exact pv (i:=i) (List.nodup_cons.mp nd).2 (by simpa using h1) (by simpa using h2) hk
theorem o8 {kindOf:Str->Option NameKind} {x:Str} {v:Value}: ∀ {P:List Str} {vs:List Value} {i:Nat} {m:Str->Option Value},P.Nodup->P[i]?=some x->vs[i]?=some v->kindOf x≠some .local ->
  bindC kindOf (P.zip vs) m x=some v
 | [],_,_,_,_,h,_,_=>by simp at h
 | _::_,[],_,_,_,_,h,_=>by simp at h
 | p::P,w::vs,0,m,nd,h1,h2,hk=>by
  simp at h1 h2;subst h1;subst h2
  show bindC kindOf ((p,w)::P.zip vs) m p=_
  unfold bindC
  rw [pq fun v hv=>(List.nodup_cons.mp nd).1 (List.of_mem_zip hv).1,if_neg hk]
  simp
 | p::P,w::vs,i+1,m,nd,h1,h2,hk=>by
  show bindC kindOf ((p,w)::P.zip vs) m x=_
  unfold bindC
  exact o8 (i:=i) (List.nodup_cons.mp nd).2 (by simpa using h1) (by simpa using h2) hk
noncomputable def start (N:List Str) (vs:List V):St:=vs.map some++List.replicate (N.length - vs.length) none
noncomputable def jd (CX:xF) (P:Program) (w:World) (K:PySem.W.Frag) (mg:Str->Option Value) (base:Heap) (N:List Str) (qual:Str) (scope:Scope) (f:Addr) (cd:Value) (A:Around) (outer:List Env) (s:Shared) (H:Hp) (E:XK):Cx where
 prog:=P
 w:=w
 K:=K
 mg:=mg
 base:=base
 A:=A.deeper (envOfC qual scope s.heap.objs.size f cd)
 N:=N
 s₀ :=s
 H₀ :=H
 env:=envOfC qual scope s.heap.objs.size f cd
 outer:=outer
 stack:=envOfC qual scope s.heap.objs.size f cd::outer
 ex:=[]
 calm:=true
 fn:=fun _=>true
 pn:=[]
 xe:=fun e s'=>wpAny (model P w) (A.deeper (envOfC qual scope s.heap.objs.size f cd)) (leaving (envOfC qual scope s.heap.objs.size f cd) e) (fun _ s''=>CX outer H s E e s'') (fun e' s''=>CX outer H s E e' s'') s'
theorem rD {sc:Scope} {n:Nat} {x:Str} (h:sc.names.lookup x=some .cell): ∃ c,(cellsFrom n sc.names []).lookup x=some c:=by
 have q:=PySem.W.cellsFrom_some sc.names n [] (.inl h)
 exact Option.isSome_iff_exists.mp q
theorem wx {CX:xF} {P:Program} {w:World} {K:PySem.W.Frag} {mg:Str->Option Value} {base:Heap} {N ps:List Str} {qual:Str} {scope:Scope} {f:Addr} {cd:Value} {A:Around} {outer:List Env} {s s1:Shared} {H:Hp} {E:XK} {us:List Value} {vs:List V}
  (S:aC N ps scope) (hd:A.handled=none) (e0:uB P w K mg base A outer s H) (hl:vs.length=ps.length) (r:Vals vs us)
  (x:InCallC s s.heap.objs.size (bindL (envOfC qual scope s.heap.objs.size f cd).kindOf (ps.zip us) fun _=>none) (cellsFrom (s.heap.objs.size+1) scope.names []) (bindC (envOfC qual scope s.heap.objs.size f cd).kindOf (ps.zip us) fun _=>none) s1) :
  Inv (jd CX P w K mg base N qual scope f cd A outer s H E) [] (start N vs) H s1:=by
 have hpl:ps.length<=N.length:=by have:=congrArg List.length S.pre;rw [List.length_take] at this;omega
 obtain ⟨h1,tk,rfl,hk⟩:=x.done
 have noA: ∀ b:Addr,b ∉ (jd CX P w K mg base N qual scope f cd A outer s H E).ex:=fun b z=>absurd (show b∈([]:List Addr) from z) (by simp)
 refine ⟨⟨e0.mod,S.kind,rfl,rfl,Nat.le_refl _,fun y z c h1 h2=>?_,fun y hy=>?_,fun y c _ h=>?_,fun _=>hd,Around.frames_deeper e0.frames,.inr ⟨rfl,rfl⟩,fun b z=>absurd z (noA b),e0.bs,e0.Bc,fun b _ _=>noA b,fun b z=>absurd z (noA b),e0.j9,e0.EO⟩,
  rfl,e0.bare,Un.kept hk,⟨_,x.toInCall.ns,fun i y v h1 h2 h3=>?_⟩,fun y c h=>⟨_,x.cell y c h⟩,e0.bz.fresh (Nat.le_refl _),fun y c h=>?_,fun p hp=>absurd (show p∈([]:List (Addr × Obj)) from hp) (by simp),e0.bz.kept hk,?_⟩
 · exact name_of_addr x.apart (PySem.mem_of_lookup h1) (PySem.mem_of_lookup h2)
 · have hy:scope.names.lookup y=some .cell∨scope.names.lookup y=some .free:=hy
   rcases hy with hy | hy
   · exact rD hy
   · exact absurd rfl (S.Gp _ (PySem.mem_of_lookup hy))
 · exact Nat.le_of_lt (x.above y c (PySem.mem_of_lookup h))
 · have hi:i < vs.length:=by
    unfold start at h2
    by_cases hi:i < vs.length
    · exact hi
    · rw [List.getElem?_append_right (by simpa using hi)] at h2
      rw [List.getElem?_replicate] at h2
      split at h2<;>cases h2
   have ha:vs[i]?=some v:=by
    unfold start at h2
    rw [List.getElem?_append_left (by simpa using hi),List.getElem?_map] at h2
    cases e:vs[i]? with
    | none=>rw [e] at h2;cases h2
    | some a=>rw [e] at h2;cases h2;rfl
   obtain ⟨u,hu,rv⟩:=r.get ha
   have hp:ps[i]?=some y:=by
    rw [<- S.pre,List.getElem?_take_of_lt (by omega)];exact h1
   have ndP:ps.Nodup:=by rw [<- S.pre];exact S.nd.sublist (List.take_sublist _ _)
   refine ⟨u,rv,?_⟩
   rcases S.par y (List.mem_of_getElem? hp) with k | k
   · exact .inl ⟨k,pv ndP hp hu k⟩
   · obtain ⟨c,e⟩:=rD (n:=s.heap.objs.size+1) k
     refine .inr ⟨.inl k,c,e,?_⟩
     have q:=x.cell y c e
     rw [o8 ndP hp hu (by show scope.names.lookup y≠_;rw [k];decide)] at q
     exact q
 · exact e0.bz.fresh (Nat.le_of_lt (x.above y c (PySem.mem_of_lookup h)))
 · unfold start
   show _=N.length
   rw [List.length_append,List.length_map,List.length_replicate]
   omega
theorem K5 {CX:xF} {P:Program} {w:World} {K:PySem.W.Frag} {mg:Str->Option Value} {base:Heap} {k:Nat} {f:Addr} {name qual:Str} {params:Arguments} {body:List Stmt} {scope:Scope} {dV kV doc pm cdv ct oc:Value} {an od:Option Addr}
  {osl:Array (Option Value)} {N ps:List Str} {sp:Sp} (lk:K.lookup f=some ⟨oc,od,.func (PySem.W.fnOf name qual params body scope dV kV doc pm an cdv ct),osl⟩) (hcd:PySem.W.codeIn K cdv qual=true) (S:aC N ps scope)
  (len: ∀ vs H Q E,sp vs H Q E->vs.length=ps.length)
  (hbody: ∀ (A:Around) (outer:List Env) (s:Shared) (H:Hp) (vs:List V) (Q:VK) (E:XK),dq k (A.deeper (envOfC qual scope s.heap.objs.size f cdv))->sp vs H Q E ->
   ∃ t,uk (jd CX P w K mg base N qual scope f cdv A outer s H E) body t∧t { nx:=fun _ H'=>Q .non H',rt:=Q } (start N vs) H) :
  jC P w K mg base CX (k+1) f (PySem.W.fnOf name qual params body scope dV kV doc pm an cdv ct) ps sp:=by
 refine ⟨len,fun A outer s H args us vs Q E hr e0 hb r hsp=>?_⟩
 have hl:=len _ _ _ _ hsp
 have KX:K.In s.heap:=e0.mod.MK.keeps fun b o e=>(e0.bs b o e).1
 have lim:s.heap.NoLimit:=e0.mod.nolimit.keeps fun b o e=>(e0.bs b o e).1
 have hkind: ∀ y∈ps.zip us,scope.names.lookup y.1=some .local∨(scope.names.lookup y.1=some .cell∧((cellsFrom (s.heap.objs.size+1) scope.names []).lookup y.1).isSome=true):=fun ⟨n,v⟩ hy=>by
  rcases S.par n (List.of_mem_zip hy).1 with q | q
  · exact .inl q
  · exact .inr ⟨q,PySem.W.cellsFrom_some _ _ _ (.inl q)⟩
 refine codeAny_call_function hr.depth (KX _ _ lk) rfl S.co S.gen rfl (PySem.W.codeRec_of KX hcd) (hb _ _ _ _ ?_)
 refine wpAny_newFunctionEnv_cells S.kind hkind fun env he s1 x=>?_
 subst he
 refine ⟨lim.keeps x.toInCall.keep,codeAny_func ?_⟩
 obtain ⟨t,ht,hq⟩:=hbody A outer s H vs Q E (hr.deeper _) hsp
 have I:Inv (jd CX P w K mg base N qual scope f cdv A outer s H E) [] (start N vs) H s1:=wx S hr.hd e0 hl r x
 refine wpAny_mono (ht [] s1 (start N vs) H _ I hq) (fun fl s' hs=>?_) fun e s' hs=>hs
 have fin: ∀ {σ':St} {H':Hp} {v:V} {u:Value},Inv (jd CX P w K mg base N qual scope f cdv A outer s H E) [] σ' H' s'->RelV v u->Q v H'->CE outer P w H s Q u s' :=
  fun {σ' H' v u} J rv q=>⟨v,H',J.os,J.bare,J.base,J.bz,rv,q⟩
 cases fl with
 | ret u =>
  obtain ⟨v, σ',H',J,rv,q⟩:=hs
  exact fin J rv q
 | next =>
  obtain ⟨σ',H',J,q⟩:=hs
  exact fin (v:=V.non) (u:=Value.none) J rfl q
 | brk =>
  obtain ⟨_,_,_,q⟩:=hs
  exact False.elim q
 | cont =>
  obtain ⟨_,_,_,q⟩:=hs
  exact False.elim q
open PySem PySem.Spec PyProof.Rows
section
variable {X:Cx} {x:Str} {p pos:Pos} {e:Expr} {es:List Expr} {t:TA} {id T:String} {r:List V->Hp->VK->Prop}
noncomputable def Iy (r:List V->Hp->VK->Prop) (t:TA):TE:=fun σ H Q=>t σ H fun vs H1=>r vs H1 Q
theorem AU (hc:aW X (.builtin id) r) (hg:Gl X x) (hm:X.mg x=none) (hv:bootBuiltins x=some (.builtin id)) (ha:PA X (e::es) t) (hn:x≠ "__name__" :=by decide) (hdb:(x == ("__debug__" :Str))=false:=by decide)
  (he:starEach (e::es) X.env=(false,eval e X.env)::starEach es X.env:=by rfl) (hpl:(backTo pos (starEach es X.env)).any (·.1)=false:=by rfl):PE X (.Call (.Name x p) (e::es) [] pos) (Iy r t):=by
 intro pins s σ H Q I h
 refine wpAny_Call_Name_kw (nG I hg hm hv ?_ hn hdb)
 exact PyProof.Rows.callWith_builtin1 (cL (ha pos pins s σ H _ I h) fun us s1 ⟨vs,H1,I1,r1,q1⟩=>hc pins s1 σ H1 vs us Q I1 r1 q1) he hpl
theorem xf (hc:aW X (.type T) r) (hg:Gl X x) (hm:X.mg x=none) (hv:bootBuiltins x=some (.type T)) (ha:PA X (e::es) t) (hn:x≠ "__name__" :=by decide) (hdb:(x == ("__debug__" :Str))=false:=by decide)
  (he:starEach (e::es) X.env=(false,eval e X.env)::starEach es X.env:=by rfl) (hpl:(backTo pos (starEach es X.env)).any (·.1)=false:=by rfl):PE X (.Call (.Name x p) (e::es) [] pos) (Iy r t):=by
 intro pins s σ H Q I h
 refine wpAny_Call_Name_kw (nG I hg hm hv ?_ hn hdb)
 exact PyProof.Rows.callWith_type1 (cL (ha pos pins s σ H _ I h) fun us s1 ⟨vs,H1,I1,r1,q1⟩=>hc pins s1 σ H1 vs us Q I1 r1 q1) he hpl
end
end L2
namespace HT
open PySem PyProof.Rows
section
open PySem.SeqAt
open PySem.AutoSeq1 (wpAny_loadPart')
open PySem.MeetsSeq PySem.MeetsSeq2 PySem.MeetsSeq3
end
section
variable {prog:Program} {w:World} {A:Around} {E:Value->Shared->Prop} {s:Shared}
theorem BF {t b:Addr} {vs ws:List Value} {Q:Value->Shared->Prop} (ht:IsTup s.heap t vs.toArray) (hb:IsTup s.heap b ws.toArray) (hv:vs≠[])
  (h1:ws=[]->Q (.ref t) s) (h2:ws≠[]->Q (.ref s.heap.objs.size) { s with heap:=s.heap.push { cls:= .type "tuple",data:= .seq (vs++ws).toArray } })
  (hsz:vs.length+ws.length<=sizeLine):wpAny (model prog w) A (binaryOp .Add (.ref t) (.ref b)) Q E s:=by
 obtain ⟨⟨cls,dd,data,sl⟩,ho,hc,n,hd⟩:=id ht
 obtain ⟨⟨cls2,dd2,data2,sl2⟩,ho2,hc2,n2,hd2⟩:=id hb
 simp only at hc hd hc2 hd2
 subst hc hd hc2 hd2
 have e:vs.toArray++ws.toArray=(vs++ws).toArray:=by simp
 by_cases hw:ws=[]
 · exact concat_meets ⟨_,ho,rfl⟩ ⟨_,ho2,rfl⟩ noFill_tuple_add seq_tuple_add PySem.F.slot_tuple_add PySem.F.entry_tuple_add (PySem.F.args_tuple_add_2 _ _)
    (tuple_addW1 t b vs.toArray ws.toArray n n2 dd dd2 sl sl2 (by simpa using hv) (by simp [hw])) ⟨ho,ho2,h1 hw⟩
 · refine concat_meets ⟨_,ho,rfl⟩ ⟨_,ho2,rfl⟩ noFill_tuple_add seq_tuple_add PySem.F.slot_tuple_add PySem.F.entry_tuple_add (PySem.F.args_tuple_add_2 _ _)
    (tuple_addW2 t b vs.toArray ws.toArray n n2 dd dd2 sl sl2 (by simpa using hv) (by simpa using hw) (by rw [List.size_toArray,List.size_toArray];exact hsz)) ⟨ho,ho2,?_⟩
   rw [e]
   exact h2 hw
noncomputable def c8 (n d:Nat):Option Int->Nat
 | none=>d
 | some v=>if v < 0 then (v+(n:Int)).toNat else min v.toNat n
theorem jv (n d:Nat):c8 n d none=d:=rfl
theorem lU (n d k:Nat):c8 n d (some (k:Int))=min k n:=by
 show (if (k:Int) < 0 then ((k:Int)+(n:Int)).toNat else min (k:Int).toNat n)=min k n
 rw [if_neg (by omega),Int.toNat_natCast]
theorem Io (n d:Nat) (hd:d<=n) (o:Option Int):c8 n d o<=n:=by
 cases o with
 | none=>exact hd
 | some v =>
  show (if v < 0 then (v+(n:Int)).toNat else min v.toNat n)<=n
  by_cases hv:v < 0
  · rw [if_pos hv];omega
  · rw [if_neg hv];exact Nat.min_le_right _ _
theorem vK (v:Int) (n d:Nat):(if v < 0 then max (v+(n:Int)) 0 else min v (n:Int))=((c8 n d (some v):Nat):Int):=by
 show (if v < 0 then max (v+(n:Int)) 0 else min v (n:Int))=(((if v < 0 then (v+(n:Int)).toNat else min v.toNat n):Nat):Int)
 by_cases hv:v < 0
 · simp only [if_pos hv];omega
 · simp only [if_neg hv];omega
theorem uJ (lo hi:Option Int) (n:Nat):Builtin.Slice.sliceAdjust lo hi 1 (n:Int)=(((c8 n 0 lo:Nat):Int),((c8 n n hi:Nat):Int)):=by
 have h1: ¬ ((1:Int) < 0):=by omega
 unfold Builtin.Slice.sliceAdjust
 simp only [h1,if_false]
 refine Prod.ext ?_ ?_
 · cases lo with
   | none=>rfl
   | some v=>exact vK v n 0
 · cases hi with
   | none=>rfl
   | some v=>exact vK v n n
theorem t9 (i j:Nat):Builtin.Slice.slicePlaces (i:Int) (j:Int) 1=j - i:=by
 unfold Builtin.Slice.slicePlaces
 have h1:(1:Int) > 0:=by omega
 simp only [h1,if_true,Int.ediv_one]
 split<;>omega
theorem l0 {v:Value} {o:Option Int} {Q:Option Int->Shared->Prop} (p:IsPart v o) (h:Q o s):wpAny (model prog w) A (Builtin.Slice.slicePartIndex v) Q E s:=by
 cases p with
 | none=>exact slicePart_none h
 | int i t=>exact slicePart_int h
theorem gj {sl:Addr} {vl vu:Value} {lo hi:Option Int} {n:Nat} {Q:Int × Int × Nat->Shared->Prop} (hs:s.heap.IsSliceOf sl vl vu .none) (pl:IsPart vl lo) (pu:IsPart vu hi)
  (h:Q (((c8 n 0 lo:Nat):Int),1,c8 n n hi - c8 n 0 lo) s):wpAny (model prog w) A (Builtin.Slice.sliceApplied (.ref sl) (pure (n:Int))) Q E s:=by
 obtain ⟨os,hos,hcs,hds⟩:=id hs
 unfold Builtin.Slice.sliceApplied Builtin.Slice.sliceFields
 refine wpAny_bind (wpAny_bind (wpAny_field hos hds (x:=vl) rfl (wpAny_bind (wpAny_field hos hds (x:=vu) rfl (wpAny_bind (wpAny_field hos hds (x:= .none) rfl (wpAny_pure ?_)))))))
 refine wpAny_bind (slicePart_none ?_)
 show wpAny _ _ (if ((1:Int) == 0)=true then _ else _) _ _ s
 rw [if_neg (by decide)]
 refine wpAny_bind (l0 pl (wpAny_bind (l0 pu (wpAny_bind (wpAny_pure ?_)))))
 show wpAny _ _ (match Builtin.Slice.sliceAdjust lo hi 1 (n:Int) with | (lo,hi)=>pure (lo,(1:Int),Builtin.Slice.slicePlaces lo hi 1)) _ _ s
 rw [uJ lo hi n]
 show wpAny _ _ (pure (((c8 n 0 lo:Nat):Int),(1:Int),Builtin.Slice.slicePlaces ((c8 n 0 lo:Nat):Int) ((c8 n n hi:Nat):Int) 1)) _ _ s
 rw [t9]
 exact wpAny_pure h
theorem zb (xs:Array Value) (i k:Nat):((List.range k).filterMap fun (m:Nat)=>xs[((i:Int)+(m:Int)*1).toNat]?).toArray=((xs.toList.drop i).take k).toArray:=by
 have e:(fun (m:Nat)=>xs[((i:Int)+(m:Int)*1).toNat]?)=fun m=>xs[i+m]?:=by
  funext m
  have:((i:Int)+(m:Int)*1).toNat=i+m:=by omega
  rw [this]
 rw [e]
 have:=pick_run xs i k
 rw [List.filterMap_map] at this
 have e2:((fun x=>xs[x]?) ∘ fun x=>i+x)=fun m=>xs[i+m]?:=rfl
 rw [e2] at this
 rw [this]
theorem jH {t sl : Addr} {items : Array Value} {vl vu : Value} {lo hi : Option Int} {Q : Value -> Shared -> Prop} (ht : IsTup s.heap t items) (hs : s.heap.IsSliceOf sl vl vu .none) (pl : IsPart vl lo) (pu : IsPart vu hi)
    (hw : ¬ (c8 items.size 0 lo = 0 /\ c8 items.size items.size hi = items.size))
    (h : Q (.ref s.heap.objs.size) { s with heap := s.heap.push { cls := .type "tuple", data := .seq ((items.toList.drop (c8 items.size 0 lo)).take (c8 items.size items.size hi - c8 items.size 0 lo)).toArray } })
    (hsz : items.size <= sizeLine) : wpAny (model prog w) A (getItem (.ref t) (.ref sl)) Q E s := by
  have htake : sizeOk (.seq ((items.toList.drop (c8 items.size 0 lo)).take (c8 items.size items.size hi - c8 items.size 0 lo)).toArray) := by
    show ((items.toList.drop (c8 items.size 0 lo)).take (c8 items.size items.size hi - c8 items.size 0 lo)).toArray.size <= sizeLine
    rw [List.size_toArray, List.length_take, List.length_drop, Array.length_toList]
    omega
  have hj : c8 items.size items.size hi <= items.size := Io _ _ (Nat.le_refl _) hi
  obtain ⟨os, hos, hcs, hds⟩ := id hs
  have hTs : s.TypeIs (.ref sl) "slice" := ⟨os, hos, hcs⟩
  unfold getItem
  try with_reducible refine wpAny_holding ?_
  first | refine wpAny_bind (wpAny_pure ?_) | skip
  refine wpAny_bind (wpAny_sequenceKey ht.typeIs (by decide) ?_)
  refine wpAny_bind (wpAny_callSpecial?_slot (name := Str.ofString "__getitem__") ht.typeIs PyProof.Rows.slot_tuple_getitem
    (wpAny_call_entry PyProof.Rows.slot_tuple_getitem ht.typeIs entry_tuple_getitem ?_ (args_tuple_getitem _ _)))
  show wpAny _ _ (Builtin.Tuple.tupleItemsOf (.ref t) >>= _) _ _ s
  refine wpAny_bind (tupleItemsOf_ ht ?_)
  refine wpAny_bind (wpAny_typeOf hTs ?_)
  rw [if_pos (by decide)]
  refine wpAny_bind (gj hs pl pu ?_)
  have hno : ¬ ((((c8 items.size 0 lo : Nat) : Int) == 0 && (1 : Int) == 1 && (c8 items.size items.size hi - c8 items.size 0 lo) == items.size) = true) := by
    intro q
    rw [Bool.and_eq_true, Bool.and_eq_true] at q
    have q1 : ((c8 items.size 0 lo : Nat) : Int) = 0 := eq_of_beq q.1.1
    have q2 : c8 items.size items.size hi - c8 items.size 0 lo = items.size := eq_of_beq q.2
    exact hw ⟨by omega, by omega⟩
  show wpAny _ _ (if (((c8 items.size 0 lo : Nat) : Int) == 0 && (1 : Int) == 1 && (c8 items.size items.size hi - c8 items.size 0 lo) == items.size) = true then _ else _) _ _ s
  rw [if_neg hno, zb]
  first
    | exact wpAny_bind (m := Builtin.Tuple.tupleExact _) (wpAny_newObj_type (wpAny_pure ⟨_, rfl, wpAny_pure h⟩) htake)
    | exact wpAny_bind (m := Builtin.Tuple.tupleExact _) (wpAny_newObj_type (wpAny_bind (wpAny_pure (wpAny_pure ⟨_, rfl, wpAny_pure h⟩))) htake)
    | exact wpAny_bind (wpAny_bind (m := Builtin.Tuple.tupleExact _) (wpAny_newObj_type (wpAny_pure (wpAny_pure ⟨_, rfl, wpAny_pure h⟩)) htake))
    | exact wpAny_bind (wpAny_bind (m := Builtin.Tuple.tupleExact _) (wpAny_newObj_type (wpAny_pure ⟨_, rfl, wpAny_pure h⟩) htake))
end
end HT
namespace L2
open PySem PySem.Spec PyProof.Rows
abbrev TO:=St->Hp->(Option Int->Hp->Prop)->Prop
noncomputable def PO (X:Cx) (e:Option Expr) (t:TO):Prop :=
 ∀ (pins:List (Addr × Obj)) (s:Shared) (σ :St) (H:Hp) (Q:Option Int->Hp->Prop),Inv X pins σ H s->t σ H Q ->
  wpAny (model X.prog X.w) X.A (evalPart e X.env) (fun u s'=> ∃ o H',Inv X pins σ H' s'∧IsPart u o∧Q o H') X.xe s
noncomputable def ve:TO:=fun _ H Q=>Q none H
noncomputable def Ei (t:TE):TO:=fun σ H Q=>t σ H fun x H1=> ∃ i,x= .int i∧Q (some i) H1
section
variable {X:Cx} {e:Expr} {te:TE} {lo hi:Option Expr} {tl th:TO} {pos p2:Pos}
theorem Ds:PO X none ve:=by
 intro pins s σ H Q I h
 rw [evalPart_none]
 exact wpAny_pure ⟨none,H,I,.none,h⟩
theorem CN (h:PE X e te):PO X (some e) (Ei te):=by
 intro pins s σ H Q I hw
 rw [evalPart_some]
 refine cL (h pins s σ H _ I hw) fun u s1 ⟨x,H1,I1,r1,q1⟩=>?_
 obtain ⟨i,rfl,q⟩:=q1
 obtain ⟨t,rfl⟩:=r1
 exact ⟨some i,H1,I1,.int i t,q⟩
noncomputable def Bb (X:Cx) (r:V->Option Int->Option Int->Hp->VK->Prop):Prop :=
 ∀ (pins:List (Addr × Obj)) (s:Shared) (σ :St) (H:Hp) (x:V) (v vl vu:Value) (lo hi:Option Int) (sl:Addr) (Q:VK),Inv X pins σ H s->RelV x v->s.heap.IsSliceOf sl vl vu .none->IsPart vl lo->IsPart vu hi->r x lo hi H Q ->
  ∃ T id,typeLookup (.type T) "__getitem__" =pure (some (.builtin id))∧s.TypeIs v T∧wpAny (model X.prog X.w) X.A (getItem v (.ref sl)) (EP X pins σ Q) X.xe s
theorem Bb.or {r r':V->Option Int->Option Int->Hp->VK->Prop} (h:Bb X r) (h':Bb X r'):Bb X (fun x lo hi H Q=>r x lo hi H Q∨r' x lo hi H Q):=by
 intro pins s σ H x v vl vu lo hi sl Q I rx hs pl pu q
 rcases q with q | q
 · exact h pins s σ H x v vl vu lo hi sl Q I rx hs pl pu q
 · exact h' pins s σ H x v vl vu lo hi sl Q I rx hs pl pu q
noncomputable def NX (r:V->Option Int->Option Int->Hp->VK->Prop) (te:TE) (tl th:TO):TE:=fun σ H Q=>te σ H fun x H1=>tl σ H1 fun l H2=>th σ H2 fun u H3=>r x l u H3 Q
theorem Ae {r:V->Option Int->Option Int->Hp->VK->Prop} (hr:Bb X r) (he:PE X e te) (hl:PO X lo tl) (hu:PO X hi th):PE X (.Subscript e (.Slice lo hi none p2) pos) (NX r te tl th):=by
 intro pins s σ H Q I h
 refine Subscript_ (cL (he pins s σ H _ I h) fun v s1 ⟨x,H1,I1,r1,q1⟩=>?_)
 refine wpAny_Slice (cL (hl pins s1 σ H1 _ I1 q1) fun vl s2 ⟨l,H2,I2,pl,q2⟩=>cL (hu pins s2 σ H2 _ I2 q2) fun vu s3 ⟨u,H3,I3,pu,q3⟩=>?_)
 rw [evalPart_none]
 refine wpAny_pure ?_
 have I4:Inv X pins σ H3 { s3 with heap:=s3.heap.push { cls:= .type "slice",data:= .fields #[vl,vu,.none] } }:=I3.kept (t':=s3.toks) fun b ob q=>Heap.get?_push_of_some _ q
 obtain ⟨T,id,hT,ht,hg⟩:=hr pins { s3 with heap:=s3.heap.push { cls:= .type "slice",data:= .fields #[vl,vu,.none] } } σ H3 x v vl vu l u s3.heap.objs.size Q I4 r1 (Heap.IsSliceOf.new ..) pl pu q3
 show wpAny (model X.prog X.w) X.A (subscriptTail e (.Slice lo hi none p2) v (.ref s3.heap.objs.size)) (EP X pins σ Q) X.xe { s3 with heap:=s3.heap.push { cls:= .type "slice",data:= .fields #[vl,vu,.none] } }
 exact tail_any (ops:=[.ref s3.heap.objs.size,v]) ht hT hg (by with_unfolding_all rfl)
noncomputable def lu (xs:List V) (lo hi:Option Int):List V:=(xs.drop (HT.c8 xs.length 0 lo)).take (HT.c8 xs.length xs.length hi - HT.c8 xs.length 0 lo)
theorem kY (xs:List V) (lo hi:Option Int):(lu xs lo hi).length<=xs.length:=by
 unfold lu
 rw [List.length_take,List.length_drop]
 omega
noncomputable def Ky (K:PySem.W.Frag):V->Option Int->Option Int->Hp->VK->Prop:=fun x lo hi H Q=> ∃ a xs,x= .ref a∧fJ K H a xs ∧
 ¬ (HT.c8 xs.length 0 lo=0∧HT.c8 xs.length xs.length hi=xs.length)∧ ∀ p,H p=none->Q (.ref p) (upd H p (.tup (lu xs lo hi)))
theorem E3:Bb X (Ky X.K):=by
 intro pins s σ H x v vl vu lo hi sl Q I rx hs pl pu h
 obtain ⟨a,xs,rfl,hx,hw,q⟩:=h
 cases rx
 obtain ⟨aw,r,ht,hz⟩:=I.tuple hx
 have hlen:aw.toArray.size=xs.length:=by rw [List.size_toArray];exact r.length.symm
 refine ⟨"tuple",_,PyProof.Rows.slot_tuple_getitem.lookup,ht.typeIs,?_⟩
 refine HT.jH ht hs pl pu (by rw [hlen];exact hw) ?_ (by rw [hlen];exact hz)
 rw [hlen]
 refine ⟨.ref s.heap.objs.size,_,I.laid (t':=s.toks) (o:= .tup (lu xs lo hi)) (fun b ob q=>Heap.get?_push_of_some _ q) (Nat.le_refl _) ?_,rfl,q _ (I.bz.fresh (Nat.le_refl _))⟩
 exact ⟨Nat.le_trans (kY xs lo hi) hz,_,(r.drop (HT.c8 xs.length 0 lo)).take (HT.c8 xs.length xs.length hi - HT.c8 xs.length 0 lo),oD.new _ _⟩
noncomputable def EG (K:PySem.W.Frag):R2:=fun x y H Q=> ∃ a b xs ys,x= .ref a∧y= .ref b∧fJ K H a xs∧fJ K H b ys∧xs≠[]∧xs.length+ys.length<=sizeLine ∧
 (ys=[]->Q (.ref a) H)∧(ys≠[]-> ∀ p,H p=none->Q (.ref p) (upd H p (.tup (xs++ys))))
theorem Vals.lN {xs:List V} {us:List Value} (r:Vals xs us):us=[]↔xs=[]:=by
 cases r with
 | nil=>simp
 | cons _ _=>simp
theorem Eg:dI X (binaryOp .Add) (EG X.K):=by
 intro pins s σ H x y v u Q I rx ry h
 obtain ⟨a,b,xs,ys,rfl,rfl,ha,hb,hx,hz,q1,q2⟩:=h
 cases rx
 cases ry
 obtain ⟨aw,r1,p1,_⟩:=I.tuple ha
 obtain ⟨its2,r2,p2,_⟩:=I.tuple hb
 refine HT.BF p1 p2 (fun z=>hx (r1.lN.mp z)) (fun z=>⟨.ref a,H,I,rfl,q1 (r2.lN.mp z)⟩) (fun z=>?_) (by rw [<- r1.length,<- r2.length];exact hz)
 refine ⟨.ref s.heap.objs.size,_,I.laid (t':=s.toks) (o:= .tup (xs++ys)) (fun b ob q=>Heap.get?_push_of_some _ q) (Nat.le_refl _) ?_,rfl,q2 (fun w=>z (r2.lN.mpr w)) _ (I.bz.fresh (Nat.le_refl _))⟩
 exact ⟨by rw [List.length_append];exact hz,_,r1.append r2,oD.new _ _⟩
end
open PySem PySem.Spec PyProof.Rows
noncomputable def oO (n:Nat) (i:Int):Option Nat:=if 0<=i then (if i < n then some i.toNat else none) else if -(n:Int)<=i then some (i+n).toNat else none
noncomputable def eJ {α :Type} (xs:List α) (i:Int):Option α :=(oO xs.length i).bind fun j=>xs[j]?
theorem uZ {n:Nat} {i:Int} {j:Nat} (h:oO n i=some j):seqIndex? i n=some j∧j < n∧ -(n:Int)<=i∧i < n:=by
 unfold oO at h
 by_cases h0:0<=i
 · rw [if_pos h0] at h
   by_cases h1:i < n
   · rw [if_pos h1] at h
     have e:i.toNat=j:=Option.some.inj h
     exact ⟨by rw [seqIndex_of h0 h1,e],by omega,by omega,h1⟩
   · rw [if_neg h1] at h;cases h
 · rw [if_neg h0] at h
   by_cases h1: -(n:Int)<=i
   · rw [if_pos h1] at h
     have e:(i+n).toNat=j:=Option.some.inj h
     exact ⟨by rw [seqIndex_neg (by omega) h1,e],by omega,h1,by omega⟩
   · rw [if_neg h1] at h;cases h
theorem qG {α :Type} {xs:List α} {i:Int} {v: α} (h:eJ xs i=some v): ∃ j,seqIndex? i xs.length=some j∧xs[j]?=some v∧j < xs.length∧ -(xs.length:Int)<=i∧i < xs.length:=by
 unfold eJ at h
 cases e:oO xs.length i with
 | none=>rw [e] at h;cases h
 | some j =>
  rw [e] at h
  obtain ⟨h1,h2,h3,h4⟩:=uZ e
  exact ⟨j,h1,h,h2,h3,h4⟩
theorem d6 {α :Type} {xs:List α} {j:Nat} {v: α} (h:xs[j]?=some v):eJ xs (j:Int)=some v:=by
 have hj:j < xs.length:=(List.getElem?_eq_some_iff.mp h).1
 have e:oO xs.length (j:Int)=some j:=by
  unfold oO
  rw [if_pos (by omega),if_pos (by omega)];simp
 unfold eJ;rw [e];exact h
noncomputable def ql (b:Expr):Prop:= ∀ o i,subscripted b false o i=operate [o,i] (getItem o i)
noncomputable def xc (X:Cx) (r:R2):Prop :=
 ∀ (value slice:Expr) (pins:List (Addr × Obj)) (s:Shared) (σ :St) (H:Hp) (x y:V) (v u:Value) (Q:VK),Inv X pins σ H s->RelV x v->RelV y u->r x y H Q ->
  subscripted slice false v u=operate [v,u] (getItem v u)->wpAny (model X.prog X.w) X.A (subscriptTail value slice v u) (EP X pins σ Q) X.xe s
noncomputable def DI (X:Cx) (id:String) (r:V->List V->Hp->VK->Prop):Prop :=
 ∀ (pins:List (Addr × Obj)) (s:Shared) (σ :St) (H:Hp) (x:V) (xs:List V) (v:Value) (us:List Value) (Q:VK),Inv X pins σ H s->RelV x v->Vals xs us->r x xs H Q ->
  wpAny (model X.prog X.w) X.A (call (.builtin id) (v::us)) (EP X pins σ Q) X.xe s
section
variable {X:Cx} {a b:Expr} {ta tb:TE} {pos:Pos}
theorem xc.or {r r':R2} (h:xc X r) (h':xc X r'):xc X (fun x y H Q=>r x y H Q∨r' x y H Q):=by
 intro value slice pins s σ H x y v u Q I rx ry q hs
 rcases q with q | q
 · exact h value slice pins s σ H x y v u Q I rx ry q hs
 · exact h' value slice pins s σ H x y v u Q I rx ry q hs
theorem L4 {r:R2} (hr:xc X r) (ha:PE X a ta) (hb:PE X b tb) (hs:ql b):PE X (.Subscript a b pos) (D0 r ta tb):=by
 intro pins s σ H Q I h
 exact Subscript_ (IJ ha hb I h fun v u s2 x y H2 I2 rx ry q=>hr a b pins s2 σ H2 x y v u Q I2 rx ry q (hs _ _))
noncomputable def Ld (K:PySem.W.Frag):R2:=fun x y H Q=> ∃ p xs i v,x= .ref p∧y= .int i∧gm K H p xs∧eJ xs i=some v∧Q v H
noncomputable def JH (K:PySem.W.Frag):R2:=fun x y H Q=> ∃ p xs i v,x= .ref p∧y= .int i∧fJ K H p xs∧eJ xs i=some v∧Q v H
noncomputable def Km:R2:=fun x y H Q=> ∃ z i c,x= .str z∧y= .int i∧z.length<=sizeLine∧eJ z.cps.toList i=some c∧Q (.str ⟨#[c]⟩) H
theorem CC:xc X (Ld X.K):=by
 intro value slice pins s σ H x y v u Q I rx ry h hs
 obtain ⟨p,xs,i,z,rfl,rfl,hq,he,q⟩:=h
 cases rx
 obtain ⟨t,rfl⟩:=ry
 obtain ⟨aw,r,pl,hz⟩:=I.list hq
 obtain ⟨j,h1,h2,h3,h4,h5⟩:=qG he
 obtain ⟨w,ew,rw'⟩:=r.get h2
 have hl:=r.length
 have hn:=j6
 have fin:EP X pins σ Q w s:=⟨z,H,I,rw',q⟩
 by_cases h0:0<=i
 · have hj:i.toNat=j:=by
    rw [seqIndex_of h0 h5] at h1
    exact Option.some.inj h1
   exact item_listR pl.isList h0 (by omega) (by rw [hj];simpa using ew) fin hs
 · have hj:(i+(aw.toArray.size:Int)).toNat=j:=by
    rw [seqIndex_neg (by omega) h4] at h1
    rw [List.size_toArray,<- hl]
    exact Option.some.inj h1
   exact subscriptTail_builtinR (x:=w) pl.isList.typeIs slot_list_getitem.lookup
    (wpAny_getItem_list_neg (Q:=fun r s'=>r=w∧EP X pins σ Q r s') pl.isList (by omega) (by rw [List.size_toArray]<;>omega) (by omega) (by rw [hj];simpa using ew) ⟨rfl,fin⟩) hs
theorem HP:xc X (JH X.K):=by
 intro value slice pins s σ H x y v u Q I rx ry h hs
 obtain ⟨p,xs,i,z,rfl,rfl,hq,he,q⟩:=h
 cases rx
 obtain ⟨t,rfl⟩:=ry
 obtain ⟨aw,r,pl,hz⟩:=I.tuple hq
 obtain ⟨j,h1,h2,h3,h4,h5⟩:=qG he
 obtain ⟨w,ew,rw'⟩:=r.get h2
 have hl:=r.length
 have hn:=j6
 have fin:EP X pins σ Q w s:=⟨z,H,I,rw',q⟩
 exact subscriptTail_builtinR (x:=w) pl.typeIs slot_tuple_getitem.lookup
  (getItem_tuple (j:=j) (Q:=fun r s'=>r=w∧EP X pins σ Q r s') pl (by omega) (by omega) (by rw [List.size_toArray,<- hl];exact h1) (by simpa using ew) ⟨rfl,fin⟩) hs
theorem Fs:xc X Km:=by
 intro value slice pins s σ H x y v u Q I rx ry h hs
 obtain ⟨z,i,c,rfl,rfl,hz,he,q⟩:=h
 obtain ⟨t,rfl⟩:=rx
 obtain ⟨t',rfl⟩:=ry
 obtain ⟨j,h1,h2,h3,h4,h5⟩:=qG he
 have hl:z.cps.toList.length=z.length:=by simp [Str.length]
 rw [hl] at h1 h4 h5
 have hn:=j6
 exact tail_any (typeIs_str s z t) slot_str_getitem.lookup (getItem_str (c:=c) (by
  have e1:decide (i < -(2 ^ 63:Int))=false:=decide_eq_false (by omega)
  have e2:decide (i ≥ 2 ^ 63)=false:=decide_eq_false (by omega)
  rw [e1,e2,Bool.or_false]) (by rw [h1];simpa using h2) ⟨.str ⟨#[c]⟩,H,I.tok _,⟨_,rfl⟩,q⟩) hs
noncomputable def Oi (K:PySem.W.Frag):R2:=fun x y H Q=>Ld K x y H Q∨JH K x y H Q∨Km x y H Q
theorem Fe:xc X (Oi X.K):=CC.or (HP.or Fs)
theorem tS (aw:List Value) (n j:Nat) (u:Value):Obj.mapSeq (·.setIfInBounds j u) { cls:= .type "list",data:= .seq aw.toArray n }={ cls:= .type "list",data:= .seq (aw.set j u).toArray n }:=by
 simp [Obj.mapSeq]
theorem Inv.lst {pins:List (Addr × Obj)} {σ :St} {H:Hp} {s:Shared} {p:Addr} {xs:List V} (I:Inv X pins σ H s) (h:H p=some (.lst xs)) :
  ∃ (aw:List Value) (n:Nat),Vals xs aw∧s.heap.get? p=some { cls:= .type "list",data:= .seq aw.toArray n }∧xs.length<=sizeLine:=by
 obtain ⟨z,aw,n,r,e⟩:=I.bz p _ h
 exact ⟨aw,n,r,e,z⟩
theorem Inv.Gk {pins:List (Addr × Obj)} {σ :St} {H:Hp} {s:Shared} {p:Addr} {xs ys:List V} {aw its':List Value} {n n':Nat} {f:Obj->Obj} (I:Inv X pins σ H s) (h:H p=some (.lst xs))
  (ho:s.heap.get? p=some { cls:= .type "list",data:= .seq aw.toArray n }) (hf:f { cls:= .type "list",data:= .seq aw.toArray n }={ cls:= .type "list",data:= .seq its'.toArray n' }) (r:Vals ys its') (hz:ys.length<=sizeLine) (t:Nat) :
  Inv X pins σ (upd H p (.lst ys)) { s with heap:=s.heap.update p f,toks:=t }:=by
 have e:(s.heap.update p f).get? p=some { cls:= .type "list",data:= .seq its'.toArray n' }:=by
  rw [Heap.get?_update_self f ho (by rw [hf]<;>rfl),hf]
 refine I.write (x:=p) (e:=p) (by rw [h];trivial) (.inl rfl) (fun b u hb q=>(Heap.get?_update_other _ _ (Ne.symm hb)).trans q) ⟨_,e⟩ ?_
 exact ⟨hz,its',n',r,e⟩
noncomputable def KW:V->V->V->Hp->(Hp->Prop)->Prop:=fun o i v H Q=> ∃ p xs k j,o= .ref p∧i= .int k∧H p=some (.lst xs)∧oO xs.length k=some j∧Q (upd H p (.lst (xs.set j v)))
theorem set_list:ox X KW:=by
 intro pins s σ H o i v ov iv u Q I ro ri rv h
 obtain ⟨p,xs,k,j,rfl,rfl,hp,hj,q⟩:=h
 cases ro
 obtain ⟨t,rfl⟩:=ri
 obtain ⟨aw,n,r,ho,hz⟩:=I.lst hp
 obtain ⟨h1,h2,h3,h4⟩:=uZ hj
 have hl:=r.length
 have hn:=j6
 have I':Inv X pins σ (upd H p (.lst (xs.set j v))) { s with heap:=s.heap.update p (Obj.mapSeq (·.setIfInBounds j u)) } :=
  I.Gk hp ho (tS aw n j u) (r.set rv j) (by rw [List.length_set];exact hz) s.toks
 by_cases h0:0<=k
 · have hk:k.toNat=j:=by
    rw [seqIndex_of h0 h4] at h1
    exact Option.some.inj h1
   exact PySem.W.ki_setAt ho h0 (by omega) (by rw [List.size_toArray,<- hl];exact h4) (by rw [hk];exact ⟨_,I',q⟩)
 · have hk:(k+(aw.toArray.size:Int)).toNat=j:=by
    rw [seqIndex_neg (by omega) h3] at h1
    rw [List.size_toArray,<- hl]
    exact Option.some.inj h1
   exact PySem.W.ki_setBack ho (by omega) (by rw [List.size_toArray,<- hl];exact h3) (by omega) (by rw [hk];exact ⟨_,I',q⟩)
theorem qh (lo hi:Option Int) (n:Nat):(sliceBounds lo hi none n).1=((HT.c8 n 0 lo:Nat):Int)∧(sliceBounds lo hi none n).2.1=((HT.c8 n n hi:Nat):Int)∧(sliceBounds lo hi none n).2.2=1:=by
 refine ⟨?_,?_,rfl⟩
 · cases lo with
   | none=>simp [sliceBounds,HT.c8]
   | some i =>
    simp only [sliceBounds,HT.c8,Option.getD_none,show (1:Int) > 0 by decide,if_true]
    by_cases h:i < 0
    · simp only [h,if_true]<;>omega
    · simp only [h,if_false]<;>omega
 · cases hi with
   | none=>simp [sliceBounds,HT.c8]
   | some i =>
    simp only [sliceBounds,HT.c8,Option.getD_none,show (1:Int) > 0 by decide,if_true]
    by_cases h:i < 0
    · simp only [h,if_true]<;>omega
    · simp only [h,if_false]<;>omega
theorem nR (aw:List Value) (lo hi:Option Int):slicePick aw.toArray lo hi none=((aw.drop (HT.c8 aw.length 0 lo)).take (HT.c8 aw.length aw.length hi - HT.c8 aw.length 0 lo)).toArray:=by
 obtain ⟨h1,h2,h3⟩:=qh lo hi aw.toArray.size
 unfold slicePick
 rw [h1,h2,h3]
 simp only [sliceRange_one,pick_run,List.size_toArray]<;>rfl
noncomputable def LQ (K:PySem.W.Frag):V->Option Int->Option Int->Hp->VK->Prop:=fun x lo hi H Q=> ∃ a xs,x= .ref a∧gm K H a xs∧ ∀ p,H p=none->Q (.ref p) (upd H p (.lst (lu xs lo hi)))
theorem D4:Bb X (LQ X.K):=by
 intro pins s σ H x v vl vu lo hi sl Q I rx hs pl pu h
 obtain ⟨a,xs,rfl,hx,q⟩:=h
 cases rx
 obtain ⟨aw,r,ht,hz⟩:=I.list hx
 have hlen:=r.length
 refine ⟨"list",_,slot_list_getitem.lookup,ht.isList.typeIs,?_⟩
 refine wpAny_getItem_list_slice ht.isList hs pl pu .none (by simp) ?_ (by rw [List.size_toArray]<;>omega)
 rw [nR,<- hlen]
 refine ⟨.ref s.heap.objs.size,_,I.laid (t':=s.toks) (o:= .lst (lu xs lo hi)) (fun b ob q=>Heap.get?_push_of_some _ q) (Nat.le_refl _) ?_,rfl,q _ (I.bz.fresh (Nat.le_refl _))⟩
 exact ⟨Nat.le_trans (kY xs lo hi) hz,_,0,(r.drop (HT.c8 xs.length 0 lo)).take (HT.c8 xs.length xs.length hi - HT.c8 xs.length 0 lo),Heap.get?_push_size _ rfl⟩
noncomputable def gM:V->Bool
 | .non=>true
 | .bl _=>true
 | .int _=>true
 | .str _=>true
 | _=>false
noncomputable def BR:V->V->Bool
 | .non,.non=>true
 | .bl a,.bl b=>a == b
 | .bl a,.int b=>(if a then 1 else 0) == b
 | .int a,.bl b=>a == (if b then 1 else 0)
 | .int a,.int b=>a == b
 | .str a,.str b=>a == b
 | _,_=>false
theorem Ir {A:Around} {s:Shared} {y x:V} {u v:Value} (ry:RelV y u) (rx:RelV x v) (fy:gM y=true) (fx:gM x=true):SeqAt.EqAt A s u v (BR y x):=by
 cases y with
 | non =>
  cases ry
  cases x with
  | non=>cases rx;exact SeqAt.EqAt.same _
  | bl b=>cases rx;exact SeqAt.EqAt.none_bool b
  | int b=>obtain ⟨t,rfl⟩:=rx;exact SeqAt.EqAt.none_int b t
  | str b=>obtain ⟨t,rfl⟩:=rx;exact SeqAt.EqAt.none_str b t
  | _=>exact absurd (show false=true from fx) Bool.false_ne_true
 | bl a =>
  cases ry
  cases x with
  | non=>cases rx;exact SeqAt.EqAt.bool_none a
  | bl b=>cases rx;exact SeqAt.EqAt.bool_bool a b
  | int b=>obtain ⟨t,rfl⟩:=rx;exact SeqAt.EqAt.bool_int a b t
  | str b=>obtain ⟨t,rfl⟩:=rx;exact SeqAt.EqAt.bool_str a b t
  | _=>exact absurd (show false=true from fx) Bool.false_ne_true
 | int a =>
  obtain ⟨t',rfl⟩:=ry
  cases x with
  | non=>cases rx;exact SeqAt.EqAt.int_none a t'
  | bl b=>cases rx;exact SeqAt.EqAt.int_bool a t' b
  | int b=>obtain ⟨t,rfl⟩:=rx;exact SeqAt.EqAt.int_int a t' b t
  | str b=>obtain ⟨t,rfl⟩:=rx;exact SeqAt.EqAt.int_str a t' b t
  | _=>exact absurd (show false=true from fx) Bool.false_ne_true
 | str a =>
  obtain ⟨t',rfl⟩:=ry
  cases x with
  | non=>cases rx;exact SeqAt.EqAt.str_none a t'
  | bl b=>cases rx;exact SeqAt.EqAt.str_bool a t' b
  | int b=>obtain ⟨t,rfl⟩:=rx;exact SeqAt.EqAt.str_int a t' b t
  | str b=>obtain ⟨t,rfl⟩:=rx;exact SeqAt.EqAt.str_str a t' b t
  | _=>exact absurd (show false=true from fx) Bool.false_ne_true
 | _=>exact absurd (show false=true from fy) Bool.false_ne_true
noncomputable def tN (x:V) (u:Value):Bool:=match u with
 | .none=>BR .non x
 | .bool b=>BR (.bl b) x
 | .int i _=>BR (.int i) x
 | .str z _=>BR (.str z) x
 | _=>false
theorem x8 {x y:V} {u:Value} (r:RelV y u) (f:gM y=true):tN x u=BR y x:=by
 cases y with
 | non=>cases r;rfl
 | bl b=>cases r;rfl
 | int i=>obtain ⟨t,rfl⟩:=r;rfl
 | str z=>obtain ⟨t,rfl⟩:=r;rfl
 | _=>exact absurd (show false=true from f) Bool.false_ne_true
theorem jT {x:V}: ∀ {xs:List V} {us:List Value},Vals xs us->xs.all gM=true->us.any (tN x)=xs.any fun y=>BR y x
 | _,_,.nil,_=>rfl
 | y::xs,u::us,.cons r t,f=>by
  rw [List.all_cons,Bool.and_eq_true] at f
  rw [List.any_cons,List.any_cons,x8 r f.1,jT t f.2]
theorem hE {A:Around} {s:Shared} {x:V} {v:Value} (rx:RelV x v) (fx:gM x=true): ∀ {xs:List V} {us:List Value},Vals xs us->xs.all gM=true-> ∀ u∈us,SeqAt.EqAt A s u v (tN x u)
 | _,_,.nil,_=>fun u hu=>by cases hu
 | y::xs,u::us,.cons r t,f=>fun u' hu=>by
  rw [List.all_cons,Bool.and_eq_true] at f
  rcases List.mem_cons.mp hu with rfl | hu
  · rw [x8 r f.1];exact Ir r rx f.1 fx
  · exact hE rx fx t f.2 u' hu
noncomputable def JZ (x:V) (xs:List V):Bool:=xs.any fun y=>BR y x
noncomputable def Oa (K:PySem.W.Frag) (neg:Bool):R2:=fun x y H Q=> ∃ p xs,y= .ref p∧(gm K H p xs∨fJ K H p xs)∧gM x=true∧xs.all gM=true∧Q (.bl (if neg then !JZ x xs else JZ x xs)) H
theorem wg:dI X (compareOp .In) (Oa X.K false):=by
 intro pins s σ H x y v u Q I rx ry h
 obtain ⟨p,xs,rfl,hq,fx,fs,q⟩:=h
 cases ry
 rcases hq with hq | hq
 · obtain ⟨aw,r,pl,hz⟩:=I.list hq
   refine SeqAt.in_listAt (tN x) pl.isList (fun w hw=>hE rx fx r fs w (by simpa using hw)) ⟨.bl _,H,I,rfl,?_⟩
   rw [show aw.toArray.any (tN x)=aw.any (tN x) by simp,jT r fs]
   exact q
 · obtain ⟨aw,r,pl,hz⟩:=I.tuple hq
   refine SeqAt.in_tupleAt (tN x) pl (fun w hw=>hE rx fx r fs w (by simpa using hw)) ⟨.bl _,H,I,rfl,?_⟩
   rw [show aw.toArray.any (tN x)=aw.any (tN x) by simp,jT r fs]
   exact q
theorem qQ:dI X (compareOp .NotIn) (Oa X.K true):=by
 intro pins s σ H x y v u Q I rx ry h
 obtain ⟨p,xs,rfl,hq,fx,fs,q⟩:=h
 cases ry
 rcases hq with hq | hq
 · obtain ⟨aw,r,pl,hz⟩:=I.list hq
   refine SeqAt.notIn_listAt (tN x) pl.isList (fun w hw=>hE rx fx r fs w (by simpa using hw)) ⟨.bl _,H,I,rfl,?_⟩
   rw [show aw.toArray.any (tN x)=aw.any (tN x) by simp,jT r fs]
   exact q
 · obtain ⟨aw,r,pl,hz⟩:=I.tuple hq
   refine SeqAt.notIn_tupleAt (tN x) pl (fun w hw=>hE rx fx r fs w (by simpa using hw)) ⟨.bl _,H,I,rfl,?_⟩
   rw [show aw.toArray.any (tN x)=aw.any (tN x) by simp,jT r fs]
   exact q
theorem qw:dI X (compareOp .NotIn) (fun x y H Q=> ∃ i j,x= .str i∧y= .str j∧Q (.bl (!(!(Builtin.Str.occurrences j i 0 j.length 1).isEmpty))) H):=by
 intro pins s σ H x y v u Q I rx ry h
 obtain ⟨i,j,rfl,rfl,q⟩:=h
 obtain ⟨t,rfl⟩:=rx
 obtain ⟨t',rfl⟩:=ry
 exact notIn_str ⟨.bl _,H,I,rfl,q⟩
theorem qp:aW X (.builtin "len") (fun xs H Q=> ∃ p ys,xs=[.ref p]∧(gm X.K H p ys∨fJ X.K H p ys)∧Q (.int ys.length) H):=by
 intro pins s σ H xs us Q I r h
 obtain ⟨p,ys,rfl,hq,q⟩:=h
 obtain ⟨u,rfl,rx⟩:=vals1 r
 cases rx
 have hn:=j6
 rcases hq with hq | hq
 · obtain ⟨aw,r',pl,hz⟩:=I.list hq
   have hlen:=r'.length
   exact Calls.call_len_list pl.isList (by simp only [List.size_toArray]<;>omega) ⟨.int ys.length,H,I.tok _,⟨s.toks+1,by rw [List.size_toArray,hlen]⟩,q⟩
 · obtain ⟨aw,r',pl,hz⟩:=I.tuple hq
   have hlen:=r'.length
   exact len_tuple pl (by simp only [List.size_toArray]<;>omega) ⟨.int ys.length,H,I.tok _,⟨s.toks+1,by rw [List.size_toArray,hlen]⟩,q⟩
theorem pY:aW X (.builtin "len") (fun xs H Q=> ∃ z,xs=[.str z]∧z.length<=sizeLine∧Q (.int z.length) H):=by
 intro pins s σ H xs us Q I r h
 obtain ⟨z,rfl,hz,q⟩:=h
 obtain ⟨u,rfl,t,rfl⟩:=vals1 r
 have hn:=j6
 exact len_str (by omega) ⟨.int z.length,H,I.tok _,⟨_,rfl⟩,q⟩
theorem aW.or {f:Value} {r r':List V->Hp->VK->Prop} (h:aW X f r) (h':aW X f r'):aW X f (fun xs H Q=>r xs H Q∨r' xs H Q):=by
 intro pins s σ H xs us Q I rs q
 rcases q with q | q
 · exact h pins s σ H xs us Q I rs q
 · exact h' pins s σ H xs us Q I rs q
theorem qC:aW X (.type "list") (fun xs H Q=> ∃ p ys,xs=[.ref p]∧(gm X.K H p ys∨fJ X.K H p ys)∧ ∀ l,H l=none->Q (.ref l) (upd H l (.lst ys))):=by
 intro pins s σ H xs us Q I r h
 obtain ⟨p,ys,rfl,hq,q⟩:=h
 obtain ⟨u,rfl,rx⟩:=vals1 r
 cases rx
 have fin: ∀ (aw:List Value),Vals ys aw->ys.length<=sizeLine-> ∀ (h':Heap) (c':Nat),(∀ b o',s.heap.get? b=some o'->h'.get? b=some o') ->
   h'.get? s.heap.objs.size=some { cls:= .type "list",dict:=none,data:= .seq aw.toArray c',slots:= #[] }->EP X pins σ Q (.ref s.heap.objs.size) { s with heap:=h' }:=fun aw r' hz h' c' kp e =>
  ⟨.ref s.heap.objs.size,_,I.laid (t':=s.toks) kp (Nat.le_refl _) (show a9 X.prog X.w _ h' _ (.lst ys) from ⟨hz,aw,c',r',e⟩),rfl,q _ (I.bz.fresh (Nat.le_refl _))⟩
 rcases hq with hq | hq
 · obtain ⟨aw,r',pl,hz⟩:=I.list hq
   have hlen:=r'.length
   obtain ⟨o,ho,hc,n,hd⟩:=pl.isList
   exact call_list_seq p (.inl rfl) ho hc hd (fun h' c' kp e=>fin aw r' hz h' c' kp e) (by simp only [List.size_toArray]<;>omega)
 · obtain ⟨aw,r',pl,hz⟩:=I.tuple hq
   have hlen:=r'.length
   obtain ⟨o,ho,hc,n,hd⟩:=pl
   exact call_list_seq p (.inr rfl) ho hc hd (fun h' c' kp e=>fin aw r' hz h' c' kp e) (by simp only [List.size_toArray]<;>omega)
theorem nU:aW X (.type "tuple") (fun xs H Q=> ∃ p ys,xs=[.ref p]∧((gm X.K H p ys∧ ∀ l,H l=none->Q (.ref l) (upd H l (.tup ys)))∨(fJ X.K H p ys∧Q (.ref p) H))):=by
 intro pins s σ H xs us Q I r h
 obtain ⟨p,ys,rfl,h⟩:=h
 obtain ⟨u,rfl,rx⟩:=vals1 r
 cases rx
 rcases h with ⟨hq,q⟩ | ⟨hq,q⟩
 · obtain ⟨aw,r',pl,hz⟩:=I.list hq
   have hlen:=r'.length
   refine call_tuple_list pl.isList (fun h' kp=>?_) (by simp only [List.size_toArray]<;>omega)
   have I1:Inv X pins σ H { s with heap:=h' }:=I.kept (t':=s.toks) kp
   have I2:Inv X pins σ (upd H h'.objs.size (.tup ys)) { s with heap:=h'.push { cls:= .type "tuple",data:= .seq aw.toArray } } :=
    I1.laid (t':=s.toks) (fun b o e=>Heap.get?_push_of_some _ e) (Nat.le_refl _) (show a9 X.prog X.w _ _ _ (.tup ys) from ⟨hz,aw,r',oD.new _ _⟩)
   exact ⟨.ref h'.objs.size,_,I2,rfl,q _ (I1.bz.fresh (Nat.le_refl _))⟩
 · obtain ⟨aw,r',pl,hz⟩:=I.tuple hq
   exact call_tuple_same pl ⟨.ref p,H,I,rfl,q⟩
noncomputable def Lw (K:PySem.W.Frag) (T:String) (x:V) (H:Hp):Prop:=match x with
 | .str _=>T= "str"
 | .int _=>T= "int"
 | .ref p=>(T= "list" /\ ∃ xs,gm K H p xs)∨(T= "tuple" /\ ∃ o,K.lookup p=some o∧o.cls= .type "tuple" ∧o.dict=none) ∨
   (T= "dict" ∧((∃ kvs,H p=some (.dK kvs))∨ ∃ kvs,H p=some (.dT kvs)))∨(T= "set" /\ ∃ S n,H p=some (.set S n))
 | _=>False
theorem GX {pins:List (Addr × Obj)} {σ :St} {H:Hp} {s:Shared} {T:String} {x:V} {v:Value} (I:Inv X pins σ H s) (r:RelV x v) (ty:Lw X.K T x H) :
  s.TypeIs v T∧ ∀ a,v= .ref a-> ∃ ob,s.heap.get? a=some ob∧ob.dict=none:=by
 cases x with
 | str z =>
  obtain ⟨t,rfl⟩:=r
  cases (show T= "str" from ty)
  exact ⟨typeIs_str s z t,fun _ e=>nomatch e⟩
 | int i =>
  obtain ⟨t,rfl⟩:=r
  cases (show T= "int" from ty)
  exact ⟨typeIs_int s i t,fun _ e=>nomatch e⟩
 | ref p =>
  cases r
  rcases ty with ⟨rfl,xs,hq⟩ | ⟨rfl,o,hk,hc,hd⟩ | ⟨rfl,hk⟩ | ⟨rfl,S,n,hk⟩
  · obtain ⟨aw,_,pl,_⟩:=I.list hq
    refine ⟨pl.isList.typeIs,fun a e=>?_⟩
    cases e
    obtain ⟨o,n,e,c,hd,_⟩:=pl
    exact ⟨o,e,hd⟩
  · refine ⟨⟨o,I.j1 p o hk,hc⟩,fun a e=>?_⟩
    cases e
    exact ⟨o,I.j1 _ o hk,hd⟩
  · have z: ∃ o,s.heap.get? p=some o∧o.ExactDict:=by
     rcases hk with ⟨kvs,hk⟩ | ⟨kvs,hk⟩
     · obtain ⟨_,_,_,_,o,_,_,e,ex,_⟩:=I.bz p _ hk
       exact ⟨o,e,ex⟩
     · obtain ⟨_,_,_,_,o,_,_,e,ex,_⟩:=I.bz p _ hk
       exact ⟨o,e,ex⟩
    obtain ⟨o,e,ex⟩:=z
    refine ⟨⟨o,e,ex.1⟩,fun a e2=>?_⟩
    cases e2
    exact ⟨o,e,ex.2.1⟩
  · obtain ⟨o,_,_,_,e,ex,_⟩:=I.bz p _ hk
    refine ⟨⟨o,e,ex.1⟩,fun a e2=>?_⟩
    cases e2
    exact ⟨o,e,ex.2.1⟩
 | _=>exact False.elim ty
noncomputable def NM (K:PySem.W.Frag) (T:String) (r:V->List V->Hp->VK->Prop) (to:TE) (t:TA):TE:=fun σ H Q=>to σ H fun x H1=>Lw K T x H1∧t σ H1 fun xs H2=>r x xs H2 Q
variable {o e:Expr} {es:List Expr} {to:TE} {t:TA} {name:Str} {apos cpos:Pos} {T id:String} {r:V->List V->Hp->VK->Prop}
theorem JK (pa:PlainAttrs T) (slot:Slot T name id) (hty:typeOf (.builtin id)=pure (.type "method_descriptor")) (hm:DI X id r) (ho:PE X o to) (ha:PA X (e::es) t)
  (hbase:attributeBase o name X.env (eval o X.env)=eval o X.env:=by rfl)
  (hfew:((backTo cpos (starEach (e::es) X.env)).all (fun x=> !x.1)&&(backToKw cpos (keywordEach [] X.env)).all (fun x=>x.1.isSome)
   && decide ((e::es).length+([]:List Keyword).length+(if ([]:List Keyword).isEmpty then 0 else 1) < 30))=true:=by rfl)
  (hline:(apos.endLine == cpos.line)=true:=by rfl) (hs:starEach (e::es) X.env=(false,eval e X.env)::starEach es X.env:=by rfl) (hplain:(backTo cpos (starEach es X.env)).any (·.1)=false:=by rfl) :
  PE X (.Call (.Attribute o name apos) (e::es) [] cpos) (NM X.K T r to t):=by
 intro pins s σ H Q I h
 refine wpAny_Call_method_late hbase hfew hline rfl (cL (ho pins s σ H _ I h) fun v s1 ⟨x,H1,I1,r1,ty,q1⟩=>?_)
 obtain ⟨h1,h2⟩:=GX I1 r1 ty
 refine ⟨T,id,pa,slot,hty,h1,h2,?_⟩
 have hA:=ha cpos pins s1 σ H1 _ I1 q1
 rw [hs] at hA ⊢
 refine Calls.callWith_builtin (by show (false||(backTo cpos (starEach es X.env)).any (·.1))=false;rw [hplain]<;>rfl) (Calls.evalArgs_plain ?_)
 exact cL hA fun us s2 ⟨vs,H2,I2,r2,q2⟩=>hm pins s2 σ H2 x vs v us Q I2 r1 r2 q2
/- xs.append(e),list.index on a module's tuple .. are DI facts of 06m -/
end
open PySem PySem.Spec PyProof.Rows
noncomputable def NC (X:Cx) (id:String) (r:V->List V->Hp->VK->Prop):Prop :=
 ∀ (pins:List (Addr × Obj)) (s:Shared) (σ :St) (H:Hp) (x:V) (xs:List V) (v:Value) (us:List Value) (Q:VK),Inv X pins σ H s->RelV x v->Vals xs us->r x xs H Q ->
  wpAny (model X.prog X.w) X.A (call (.builtin id) (v::us)) (EP X pins σ Q) X.xe s
theorem Vals.one: ∀ {x:V} {us:List Value},Vals [x] us-> ∃ u,us=[u]∧RelV x u
 | _,_,.cons r .nil=>⟨_,rfl,r⟩
theorem Vals.two: ∀ {x y:V} {us:List Value},Vals [x,y] us-> ∃ u v,us=[u,v]∧RelV x u∧RelV y v
 | _,_,_,.cons r (.cons q .nil)=>⟨_,_,rfl,r,q⟩
theorem Vals.zero: ∀ {us:List Value},Vals [] us->us=[]
 | _,.nil=>rfl
theorem Vals.eraseIdx: ∀ {xs:List V} {us:List Value} (i:Nat),Vals xs us->Vals (xs.eraseIdx i) (us.eraseIdx i)
 | _,_,_,.nil=> .nil
 | _,_,0,.cons _ t=>t
 | _,_,i+1,.cons r t=> .cons r (Vals.eraseIdx i t)
theorem Vals.rep {xs:List V} {us:List Value} (h:Vals xs us): ∀ k:Nat,Vals (List.replicate k xs).flatten (List.replicate k us).flatten
 | 0=> .nil
 | k+1=>by
  rw [List.replicate_succ,List.replicate_succ,List.flatten_cons,List.flatten_cons]
  exact Vals.append h (Vals.rep h k)
theorem kc {α :Type}: ∀ (l:List α) (i:Nat),(l.eraseIdx i).length<=l.length
 | [],_=>Nat.le_refl _
 | _::_,0=>Nat.le_succ _
 | _::r,i+1=>Nat.succ_le_succ (kc r i)
theorem foldl_rep (aw:List Value): ∀ (k:Nat) (acc:List Value),
  List.foldl (fun x1 x2=>x1++x2) acc.toArray (List.replicate k aw.toArray)=(acc++(List.replicate k aw).flatten).toArray
 | 0,acc=>by simp
 | k+1,acc=>by
  have e:acc.toArray++aw.toArray=(acc++aw).toArray:=by simp
  have e2:(acc++aw)++(List.replicate k aw).flatten=acc++(List.replicate (k+1) aw).flatten:=by
   rw [List.replicate_succ,List.flatten_cons,List.append_assoc]
  rw [<- e2,<- foldl_rep aw k (acc++aw),<- e,List.replicate_succ,List.foldl_cons]
section
variable {X:Cx} {pins:List (Addr × Obj)} {σ :St} {H:Hp} {s:Shared} {l b:Addr} {xs ys zs:List V}
theorem Inv.Jj {aw its':List Value} {n:Nat} {f:Array Value->Array Value} {t':Nat} (I:Inv X pins σ H s) (hH:H l=some (.lst xs))
  (e:s.heap.get? l=some { cls:= .type "list",data:= .seq aw.toArray n }) (hf:f aw.toArray=its'.toArray) (hv:Vals ys its') (hz:ys.length<=sizeLine) :
  Inv X pins σ (upd H l (.lst ys)) { s with heap:=s.heap.update l (Obj.mapSeq f),toks:=t' }:=by
 have q:=PySem.IsL.update e f
 rw [hf] at q
 refine I.write (x:=l) (e:=l) (by rw [hH];exact trivial) (.inl rfl) (fun b' u hb hu=>(Heap.get?_update_other s.heap (Obj.mapSeq f) (Ne.symm hb)).trans hu) ⟨_,q⟩ ?_
 exact ⟨hz,its',_,hv,q⟩
theorem Inv.J8 {aw:List Value} {t':Nat} (I:Inv X pins σ H s) (hv:Vals ys aw) (hz:ys.length<=sizeLine) :
  Inv X pins σ (upd H s.heap.objs.size (.lst ys)) { s with heap:=s.heap.push { cls:= .type "list",data:= .seq aw.toArray },toks:=t' } :=
 I.laid (fun _ _ q=>Heap.get?_push_of_some _ q) (Nat.le_refl _) ⟨hz,aw,0,hv,Heap.get?_push_size _ rfl⟩
theorem Inv.fresh (I:Inv X pins σ H s):H s.heap.objs.size=none:=I.bz.fresh (Nat.le_refl _)
theorem Inv.xr (I:Inv X pins σ H s) (hH:H l=some (.lst xs)):xs.length<=sizeLine∧ ∃ (aw:List Value) (n:Nat),Vals xs aw∧xs.length=aw.length∧s.heap.get? l=some { cls:= .type "list",data:= .seq aw.toArray n }:=by
 obtain ⟨z,aw,n,r,e⟩:=I.bz l _ hH
 exact ⟨z,aw,n,r,r.length,e⟩
theorem AB {n:Nat} (h:n<=sizeLine):Builtin.List.listTooLong n=false:=by
 unfold Builtin.List.listTooLong
 exact decide_eq_false (by omega)
end
section
variable {X:Cx}
noncomputable def Bn:V->List V->Hp->VK->Prop:=fun x vs H Q=> ∃ l xs y,x= .ref l∧vs=[y]∧H l=some (.lst xs)∧xs.length < sizeLine∧Q .non (upd H l (.lst (xs++[y])))
theorem wK:NC X "list.append" Bn:=by
 intro pins s σ H x vs v us Q I rx rv h
 obtain ⟨l,xs,y,rfl,rfl,hH,hz,q⟩:=h
 cases rx
 obtain ⟨u,rfl,ru⟩:=rv.one
 obtain ⟨z,aw,n,r,hl,e⟩:=I.xr hH
 refine call_meets F.slot_list_append ⟨_,e,rfl⟩ F.entry_list_append (F.args_list_append_2 _ _) (PySem.list_append l aw.toArray n u (by rw [List.size_toArray];omega)) ⟨e,?_⟩
 refine ⟨.non,_,I.Jj (its':=aw++[u]) hH e (by simp) (r.append (.cons ru .nil)) ?_,rfl,q⟩
 rw [List.length_append,List.length_singleton]
 omega
noncomputable def FD:V->List V->Hp->VK->Prop:=fun x vs H Q=> ∃ l xs i k y,x= .ref l∧vs=[.int i]∧H l=some (.lst xs)∧ -(2 ^ 63)<=i∧i < 2 ^ 63∧seqIndex? i xs.length=some k∧xs[k]?=some y∧Q y (upd H l (.lst (xs.eraseIdx k)))
theorem yG:NC X "list.pop" FD:=by
 intro pins s σ H x vs v us Q I rx rv h
 obtain ⟨l,xs,i,k,y,rfl,rfl,hH,h1,h2,hk,hy,q⟩:=h
 cases rx
 obtain ⟨u,rfl,ru⟩:=rv.one
 obtain ⟨t,rfl⟩:=ru
 obtain ⟨z,aw,n,r,hl,e⟩:=I.xr hH
 obtain ⟨w,hw,rw'⟩:=r.get hy
 refine call_meets F.slot_list_pop ⟨_,e,rfl⟩ F.entry_list_pop (F.args_list_pop_2 _ _)
  (MeetsSeq.list_pop_at l aw.toArray n i t k w (fitsIndex_both h1 h2) (by rw [List.size_toArray,<- hl];exact hk) (by rw [<- Array.getElem?_toList];exact hw) (by rw [List.size_toArray];omega)) ⟨e,?_⟩
 refine ⟨y,_,I.Jj (its':=aw.eraseIdx k) hH e ?_ (r.eraseIdx k) ?_,rw',q⟩
 · show aw.toArray.eraseIdxIfInBounds k=(aw.eraseIdx k).toArray
   rw [List.eraseIdxIfInBounds_toArray]
 · have:=kc xs k
   omega
noncomputable def Lv:R2:=fun x y H Q=> ∃ l b xs zs,x= .ref l∧y= .ref b∧H l=some (.lst xs)∧H b=some (.lst zs)∧xs.length+zs.length<=sizeLine∧ ∀ p,H p=none->Q (.ref p) (upd H p (.lst (xs++zs)))
theorem HQ:dI X (binaryOp .Add) Lv:=by
 intro pins s σ H x y v u Q I rx ry h
 obtain ⟨l,b,xs,zs,rfl,rfl,hH,hB,hz,q⟩:=h
 cases rx
 cases ry
 obtain ⟨z,aw,n,r,hl,e⟩:=I.xr hH
 obtain ⟨z2,its2,n2,r2,hl2,e2⟩:=I.xr hB
 refine PySem.P.add_list e e2 ?_ (by rw [List.size_toArray,List.size_toArray];omega)
 have ea:aw.toArray++its2.toArray=(aw++its2).toArray:=by simp
 rw [ea]
 exact ⟨.ref _,_,I.J8 (t':=s.toks) (r.append r2) (by rw [List.length_append];omega),rfl,q _ I.fresh⟩
noncomputable def NF:R2:=fun x y H Q=> ∃ l k xs,x= .ref l∧y= .int k∧H l=some (.lst xs)∧ -(2 ^ 63)<=k∧k < 2 ^ 63∧xs.length*k.toNat<=sizeLine ∧
 ∀ p,H p=none->Q (.ref p) (upd H p (.lst (List.replicate k.toNat xs).flatten))
theorem len_rep {α :Type} (xs:List α) (k:Nat):(List.replicate k xs).flatten.length=k*xs.length:=by
 induction k with
 | zero=>simp
 | succ k ih=>rw [List.replicate_succ,List.flatten_cons,List.length_append,ih,Nat.succ_mul,Nat.add_comm]
theorem GQ:dI X (binaryOp .Mult) NF:=by
 intro pins s σ H x y v u Q I rx ry h
 obtain ⟨l,k,xs,rfl,rfl,hH,h1,h2,hz,q⟩:=h
 cases rx
 obtain ⟨t,rfl⟩:=ry
 obtain ⟨z,aw,n,r,hl,e⟩:=I.xr hH
 have hlen:aw.toArray.size*k.toNat<=sizeLine:=by rw [List.size_toArray,<- hl];exact hz
 have hcap: ¬ aw.toArray.size*k.toNat > (2 ^ 63 - 1) / 8:=by
  have:(sizeLine:Nat)<=(2 ^ 63 - 1) / 8:=by decide
  omega
 have hfit: ¬ (!Builtin.List.listFitsIndex k)=true:=by
  rw [fitsIndex_both h1 h2]
  exact Bool.false_ne_true
 have hlong: ¬ Builtin.List.listTooLong (aw.toArray.size*k.toNat)=true:=by
  rw [AB hlen]
  exact Bool.false_ne_true
 have hnew:List.foldl (fun x1 x2=>x1++x2) #[] (List.replicate (if aw.toArray.isEmpty=true then 0 else k.toNat) aw.toArray)=(List.replicate k.toNat aw).flatten.toArray:=by
  have f0: ∀ m:Nat,List.foldl (fun x1 x2=>x1++x2) #[] (List.replicate m aw.toArray)=(List.replicate m aw).flatten.toArray:=fun m=>by
   have:=foldl_rep aw m []
   rw [List.nil_append] at this
   exact this
  rw [f0]
  cases aw with
  | nil=>simp
  | cons a r'=>rw [if_neg (by simp)]
 refine wpAny_binaryOp_repeat_ref (T:= "list") (U:= "int") (by decide) ⟨_,e,rfl⟩ (fun s'=>typeIs_int s' k t) noFill_list_mul F.fills_int_mul F.slot_int_rmul repeat_list F.slot_int_index.lookup
  (call_meets F.slot_int_rmul (typeIs_int s k t) F.entry_int_rmul (F.args_int_rmul_2 _ _) (int___rmul___int_list k t l aw.toArray n)
   ⟨e,rfl,⟨_,e,rfl⟩,call_meets F.slot_list_mul ⟨_,e,rfl⟩ F.entry_list_mul (F.args_list_mul_2 _ _) (AutoListH.list___mul___list_int_3 l aw.toArray n k t hfit hcap hlong) ⟨e,?_⟩⟩)
 rw [hnew]
 exact ⟨.ref _,_,I.J8 (t':=s.toks) (r.rep k.toNat) (by rw [len_rep,Nat.mul_comm];exact hz),rfl,q _ I.fresh⟩
end
section
variable {prog:Program} {w:World} {A:Around} {E:Value->Shared->Prop} {s:Shared}
set_option maxRecDepth 100000 in
end
section
variable {X:Cx}
end
end L2
namespace Att
open PySem PySem.W PySem.Calls PyProof.Rows
theorem lE {P:Params} {h:Heap}: ∀ (ns:List Int) (vs:List Value),WellAll P h vs (ns.map WData.int)->IntsAre vs ns:=by
 intro ns
 induction ns with
 | nil =>
  intro vs w
  rw [List.map_nil] at w
  cases w
  exact .nil
 | cons n ns ih =>
  intro vs w
  rw [List.map_cons] at w
  cases w with
  | cons a b =>
   cases a
   exact .cons _ _ (ih _ b)
theorem xA {l : OpenLaw} {n : Nat} (hn : l.most = some n) {P : Params} {h : Heap} {args : List WData} {vals : List Value}
    (hpre : l.row.toRowW.claim.pre args = true) (hwl : WellAll P h vals args) :
    ∃ a vs ns, vals = [Value.ref a] /\ args = [WData.list (ns.map WData.int)] /\ h.get? a = some { cls := .type "list", data := .seq vs.toArray } /\ IntsAre vs ns /\ ns.length <= n := by
  have hsh : WShape.hasAll [] args [.list .int] = true := (pre_splitW hpre).1
  have hc : l.pre.holds [] { args := args } = true := (pre_splitW hpre).2
  obtain ⟨d, r, rfl, h1, h2⟩ := hasAllW_cons hsh
  obtain rfl := hasAllW_nil h2
  obtain ⟨xs, rfl, h3⟩ := hasW_list h1
  obtain ⟨ns, rfl⟩ := items_int h3
  have hlen : ns.length <= n := by
    unfold OpenLaw.pre at hc
    have h4 : (WTm.not (.lt (.lit (.int (n : Int))) (.len (.arg 0)))).holds [] { args := [.list (ns.map .int)] } = true := by
      have h4 := (holds_andW hc).1
      rw [hn] at h4
      exact h4
    have h5 := condW_of h4 (w_not (w_lt w_lit (w_len_list (w_arg rfl))))
    rw [List.length_map] at h5
    refine Nat.le_of_not_lt fun q => ?_
    have q' : (n : Int) < ((ns.length : Nat) : Int) := by omega
    first
      | (rw [decide_eq_true q'] at h5; exact absurd h5 (by decide))
      | (simp at h5; omega)
  cases hwl with
  | cons w1 w2 =>
    cases w2
    cases w1 with
    | list ho hall => exact ⟨_, _, ns, rfl, rfl, ho, lE ns _ hall, hlen⟩
theorem wM (l:OpenLaw) (args:List WData):l.row.toRowW.claim.post args (.bool true) args=true :=
 postW_of (r:=l.row.toRowW) (X:=(true == true))
  (show WShape.has [] (.bool true) .bool=true by first | rfl | decide | simp [WShape.has,WShape.arms,WShape.armsAll])
  (show (WTm.eq .res (.lit (.bool true))).value [] { args:=args,res:=some (.bool true),after:=args }=some (.bool (true == true)) from w_eq_bool (w_res rfl) w_lit) rfl
theorem sr {l:OpenLaw} {n:Nat} {q:Program} {loose:List Str} {XP:(Str->Option Value)->Heap->Prop} {YP:World->Heap->Prop} {d:DefRec}
  (hn:l.most=some n) (hdf:d.params.defaults=[])
  (call: ∀ (w:World) (s₀ s₁ :Shared) (mg mb:Str->Option Value) (fa:Addr) (o:Obj) (pm cd doc:Value) (a:Addr) (vs:List Value) (ns:List Int),
   Ground q loose [] XP w s₀ mg mb s₁.heap->YP w s₁.heap ->
   s₁.heap.get? fa=some o->o.data= .func (docDef d.name d.params d.body d.scope pm cd doc)->s₁.heap.CodeRec cd d.name->mg d.name=some (.ref fa) ->
   s₁.heap.get? a=some { cls:= .type "list",data:= .seq vs.toArray }->IntsAre vs ns->ns.length<=n->s₁.gens= #[] ->
   codeAny (model l.prog w) callerA (.call (.ref fa) ⟨[.ref a],[]⟩) (fun r s'=>r= .ok (.ret (.bool true))∧OldK s₁.heap s'.heap∧s'.os=s₁.os∧AllBare s'.gens) s₁) :
  WalkO q loose XP YP l.row.toRowW d [] (fun f vs=>PySem.call f vs):=by
 intro w s₀ s₁ mg mb G Y fa o pm cd doc dV kV ho hd hcd hD hmg hg args vals as hpre hlay hrd hwl hlo
 obtain rfl:dV= .none:=Dflts.none hD hdf
 obtain rfl:kV= .none:=Dflts.noKw hD
 obtain ⟨a,vs,ns,rfl,rfl,hobj,hints,hlen⟩:=xA hn hpre hwl
 refine enter_call (codeAny_mono (call w s₀ s₁ mg mb fa o pm cd doc a vs ns G Y ho (fd_plain hd) hcd hmg hobj hints hlen hg) fun r s' hq=>?_)
 obtain ⟨rfl,h2,h3,h4⟩:=hq
 exact ⟨.inl ⟨.bool true,.bool true,[],rfl,fun _=>rfl,.bool true,wM l _,fun _=>⟨List.Pairwise.nil,fun _ hm=>(nomatch hm)⟩⟩,h2,h3,h4⟩
section
variable {prog:Program} {w:World} {A:Around} {E:Value->Shared->Prop} {s:Shared} {K:Frag}
noncomputable def ledger (h:Heap) (L d:Addr):List (Addr × Obj):=(List.range h.objs.size).filterMap fun a=>if a=L∨a=d then none else (h.get? a).map fun o=>(a,o)
end
end Att
namespace L2
open PySem PySem.Spec PyProof.Rows
theorem oY: ∀ {vs:List Value} {ns:List Int},IntsAre vs ns->Vals (ns.map V.int) vs
 | _,_,.nil=> .nil
 | _,_,.cons n t h=> .cons ⟨t,rfl⟩ (oY h)
noncomputable def yV (H:Hp):Prop:= ∀ b,H b=none∨ ∃ o xs,H b=some (.jg o (.lst xs))
theorem yX {P:Program} {w:World} {K:PySem.W.Frag} {mg mb:Str->Option Value} {CX:xF} {k:Nat} {fa a:Addr} {fd:FuncData} {x:Str} {sp:Sp} {s₁ :Shared} {vs:List Value} {ns:List Int}
  (KX:K.In s₁.heap) (hns:s₁.heap.Ns mainGlobals mg) (hb:s₁.heap.Ns builtinsNs mb) (hbb: ∀ x:Str,x≠ "__name__" ->mb x=bootBuiltins x) (hlim:s₁.heap.NoLimit) (hg:s₁.gens= #[])
  (ha:s₁.heap.get? a=some { cls:= .type "list",data:= .seq vs.toArray }) (hi:IntsAre vs ns) (hl:ns.length<=sizeLine) (hr:dq k callerA)
  (F: ∀ base:Heap,K.In base->base.Ns mainGlobals mg->jC P w K mg base CX k fa fd [x] sp) (hbind: ∀ (s:Shared) (u:Value),BindsTo s fd ⟨[u],[]⟩ [(x,u)])
  (hsp: ∀ H:Hp,yV H->gm K H a (ns.map V.int)->sp [.ref a] H (fun v _=>v= .bl true) fun _ _ _=>False)
  (hCX: ∀ H e s',CX [] H s₁ (fun _ _ _=>False) e s'->False) :
  codeAny (model P w) callerA (.call (.ref fa) ⟨[.ref a],[]⟩) (fun r s'=>r= .ok (.ret (.bool true))∧OldK s₁.heap s'.heap∧s'.os=s₁.os∧AllBare s'.gens) s₁ :=by
 have rv:=oY hi
 have lenV:=hi.length
 have core: ∀ H:Hp,yV H->gm K H a (ns.map V.int)->iY P w H s₁.heap->(∀ b,H b≠none->b=a)->(H a≠none->K.lookup a=none) ->
   codeAny (model P w) callerA (.call (.ref fa) ⟨[.ref a],[]⟩) (fun r s'=>r= .ok (.ret (.bool true))∧OldK s₁.heap s'.heap∧s'.os=s₁.os∧AllBare s'.gens) s₁ :=by
  intro H hO hS bz hA hK
  have base_of: ∀ {b:Addr} {o:Obj},s₁.heap.get? b=some o->H b=none->(qa s₁.heap H).get? b=some o:=fun e n=>Am e n
  have noA: ∀ {b:Addr} {o:Obj} {es:Array DictEntry} {ep:Nat},s₁.heap.get? b=some o->o.data= .dict es ep->H b=none:=fun {b o es ep} e d=>by
   cases q:H b with
   | none=>rfl
   | some u =>
    have e':b=a:=hA b (by rw [q];simp)
    subst e'
    rw [ha] at e;cases e
    have d':Data.seq vs.toArray _=Data.dict es ep:=d
    cases d'
  have nsK: ∀ {b:Addr} {m:Str->Option Value},s₁.heap.Ns b m->(qa s₁.heap H).Ns b m:=fun {b m} ⟨o,es,ep,e,d,r⟩=>⟨o,es,ep,base_of e (noA e d),d,r⟩
  have hKb:K.In (qa s₁.heap H):=fun b o e=>base_of (KX b o e) (by
   cases q:H b with
   | none=>rfl
   | some u =>
    have e':b=a:=hA b (by rw [q];simp)
    subst e'
    rw [hK (by rw [q];simp)] at e;cases e)
  have hM:Mod K mg (qa s₁.heap H):=⟨hKb,nsK hns,⟨mb,nsK hb,hbb⟩,let ⟨mc,h1,h2⟩:=hlim;⟨mc,nsK h1,h2⟩⟩
  have e0:uB P w K mg (qa s₁.heap H) callerA [] s₁ H:=⟨rfl,hM,fun b o e=>B3 e,Nat.le_of_eq (w6 _ _),trivial,fun b hb=>absurd (show b∈([]:List Addr) from hb) (by simp),bz,.of_eq hg⟩
  refine codeAny_mono ((F _ hKb (nsK hns)).run callerA [] s₁ H ⟨[.ref a],[]⟩ [.ref a] [.ref a] _ _ hr e0 (hbind s₁ (.ref a)) (.cons rfl .nil) (hsp H hO hS)) fun r s' h=>?_
  cases r with
  | error e=>exact (hCX H e s' h).elim
  | ok fl =>
   cases fl with
   | next=>exact False.elim h
   | brk=>exact False.elim h
   | cont=>exact False.elim h
   | ret u =>
    obtain ⟨v,H',os,bare,un,hok',r',q⟩:=h
    have q':v= .bl true:=q
    subst q'
    obtain rfl:u=Value.bool true:=r'
    refine ⟨rfl,OldK.of_keep fun b o e=>?_,os,bare⟩
    cases q:H b with
    | none=>exact un.keep b o e q (by intro z;exact absurd (show b∈([]:List Addr) from z) (by simp)) (by simp)
    | some u =>
     rcases hO b with z | ⟨ob,xs,z⟩
     · rw [q] at z;cases z
     · have z2:=un.jS b ob _ z
       obtain ⟨e1,_⟩:=bz b _ z
       obtain ⟨e2,_⟩:=hok' b _ z2
       rw [e] at e1;cases e1
       exact e2
 cases hk:K.lookup a with
 | some o =>
  have e:=KX a o hk
  rw [ha] at e
  cases e
  refine core (fun _=>none) (fun _=> .inl rfl) (.inr ⟨_,vs.toArray,_,hk,rfl,rfl,rfl,by rw [List.size_toArray,lenV];exact hl,by simpa using rv⟩) (fun b u z=>by have z':(none:Option HO)=some u:=z;cases z') (fun b z=>absurd rfl z) fun z=>absurd rfl z
 | none =>
  refine core (fun b=>if b=a then some (.jg { cls:= .type "list",data:= .seq vs.toArray } (.lst (ns.map V.int))) else none) (fun b=>?_) (.inl (.inr ⟨{ cls:= .type "list",data:= .seq vs.toArray },if_pos rfl⟩)) (fun b u z=>?_) (fun b z=>?_) fun _=>hk
  · by_cases hb:b=a
    · exact .inr ⟨_,_,if_pos hb⟩
    · exact .inl (if_neg hb)
  · by_cases hb:b=a
    · have z':=(if_pos hb).symm.trans z
      cases z'
      subst hb
      exact ⟨ha,by rw [List.length_map];exact hl,vs,_,rv,ha⟩
    · have z':=(if_neg hb).symm.trans z
      cases z'
  · by_cases hb:b=a
    · exact hb
    · exact absurd (if_neg hb) z
open PySem PySem.Spec PyProof.Rows
theorem DN {l:PySem.W.OpenLaw} {n k:Nat} {q:Program} {loose:List Str} {XP:(Str->Option Value)->Heap->Prop} {YP:World->Heap->Prop} {d:DefRec} {K:Params->PySem.W.Frag} {CX:World->xF} {sp:World->Sp} {x:Str}
  (hn:l.most=some n) (hn2:n<=sizeLine) (hdf:d.params.defaults=[]) (hr:dq k callerA)
  (hY: ∀ (w:World) (h:Heap),YP w h->(K w.params).In h)
  (F: ∀ (w:World) (mg:Str->Option Value) (fa:Addr) (h:Heap),(K w.params).In h->h.Ns mainGlobals mg->mg d.name=some (.ref fa) ->
   ∃ fd:FuncData,(∀ (s:Shared) (u:Value),BindsTo s fd ⟨[u],[]⟩ [(x,u)]) ∧
    ∀ base:Heap,(K w.params).In base->base.Ns mainGlobals mg->jC l.prog w (K w.params) mg base (CX w) k fa fd [x] (sp w))
  (hsp: ∀ (w:World) (H:Hp) (a:Addr) (ns:List Int),ns.length<=n->yV H->gm (K w.params) H a (ns.map V.int)->sp w [.ref a] H (fun v _=>v= .bl true) fun _ _ _=>False)
  (hCX: ∀ (w:World) (H:Hp) (s:Shared) (e:Value) (s':Shared),CX w [] H s (fun _ _ _=>False) e s'->False) :
  PySem.W.WalkO q loose XP YP l.row.toRowW d [] (fun f vs=>PySem.call f vs):=by
 refine Att.sr hn hdf fun w s₀ s₁ mg mb fa o pm cd doc a vs ns G Y ho hd hcd hmg hobj hints hlen hg=>?_
 have KX:=hY w _ Y
 obtain ⟨fd,hb,hF⟩:=F w mg fa _ KX G.T.g hmg
 exact yX KX G.T.g G.T.b G.T.builtins G.T.nolimit hg hobj hints (Nat.le_trans hlen hn2) hr hF hb (fun H hO hS=>hsp w H a ns hlen hO hS) fun H e s'=>hCX w H s₁ e s'
end L2
/- THE LAST THEOREM (shape; LID, My.* are yours):
   My.Adr: a structure of the addresses that your layer names (classes, functions); My.Txt K t: a structure (Prop) of the equations over K;
   My.txt_mk : {K} {implicit addresses ..} (e1 : nsIn K mainGlobals "law" = some (some (.ref f))) (e2 : K.lookup f = some ⟨oc, od, .func (fnOf "law" "law" params body scope dV kV doc pm an cdv ct), sl⟩) (e3 : codeIn K cdv "law" = true) .. : ∃ t, My.Txt K t
set_option maxRecDepth 100000 in
(the tactic k_is has no namespace:write k_is) -/
namespace L2
open PySem PySem.Spec PyProof.Rows
noncomputable def cJ (s:Stmt):Arguments:=match s with
 | .FunctionDef _ a _ _ _ _ _ _ _ _=>a
 | _=>{ posonlyargs:=[],args:=[],vararg:=none,kwonlyargs:=[],kw_defaults:=[],kwarg:=none,defaults:=[] }
noncomputable def bw (s:Stmt):List Stmt:=match s with
 | .FunctionDef _ _ b _ _ _ _ _ _ _=>b
 | _=>[]
noncomputable def ai (s:Stmt):Scope:=match s with
 | .FunctionDef _ _ _ _ _ _ sc _ _ _=>sc
 | _=>{ kind:= .function,names:=[],isGenerator:=false,isCoroutine:=false }
abbrev q8:xF:=fun _ _ _ _ _ _=>False
abbrev E0:XK:=fun _ _ _=>False
theorem Jy {X:Cx}:Passes q8 X E0:=fun _ _ _ _ _ _ _ h=>h.elim
structure xE (K:PySem.W.Frag) (x qual:Str) (st:Stmt) (f:Addr) (fd:FuncData):Prop where
 ex: ∃ (oc:Value) (od:Option Addr) (kV doc pm:Value) (an:Option Addr) (cdv ct:Value) (osl:Array (Option Value)),
  fd=PySem.W.fnOf x qual (cJ st) (bw st) (ai st) .none kV doc pm an cdv ct∧K.lookup f=some ⟨oc,od,.func fd,osl⟩∧PySem.W.codeIn K cdv qual=true
 kp:PySem.W.keepIn K (.ref f)=true
section
variable {P:Program} {w:World} {K:PySem.W.Frag} {mg:Str->Option Value} {base:Heap}
theorem xE.ok {x qual:Str} {st:Stmt} {f:Addr} {fd:FuncData} {N ps:List Str} {k:Nat} {sp:Sp} (F:xE K x qual st f fd) (S:aC N ps (ai st)) (len: ∀ vs H Q E,sp vs H Q E->vs.length=ps.length)
  (hbody: ∀ (cdv:Value) (A:Around) (outer:List Env) (s:Shared) (H:Hp) (vs:List V) (Q:VK) (E:XK),dq k (A.deeper (envOfC qual (ai st) s.heap.objs.size f cdv))->sp vs H Q E ->
   ∃ t,uk (jd q8 P w K mg base N qual (ai st) f cdv A outer s H E).nZ (bw st) t∧t { nx:=fun _ H'=>Q .non H',rt:=Q } (start N vs) H):jC P w K mg base q8 (k+1) f fd ps sp:=by
 obtain ⟨oc,od,kV,doc,pm,an,cdv,ct,osl,rfl,lk,hcd⟩:=F.ex
 refine K5 lk hcd S len fun A outer s H vs Q E hr hsp=>?_
 obtain ⟨t,h,q⟩:=hbody cdv A outer s H vs Q E hr hsp
 exact ⟨t,h.nZ,q⟩
theorem xE.binds {x qual:Str} {st:Stmt} {f:Addr} {fd:FuncData} {ps:List Str} (F:xE K x qual st f fd)
  (h: ∀ (kV doc pm:Value) (an:Option Addr) (cdv ct:Value) (us:List Value),us.length=ps.length->bindArgs (PySem.W.fnOf x qual (cJ st) (bw st) (ai st) .none kV doc pm an cdv ct) ⟨us,[]⟩=pure (ps.zip us)):Binds K fd ps []:=by
 obtain ⟨oc,od,kV,doc,pm,an,cdv,ct,osl,rfl,lk,hcd⟩:=F.ex
 exact .all (h kV doc pm an cdv ct)
theorem Jb {x qual:Str} {st:Stmt} {f:Addr} {oc:Value} {od an:Option Addr} {osl:Array (Option Value)} {kV doc pm cdv ct:Value} (l:K.lookup f=some ⟨oc,od,.func (PySem.W.fnOf x qual (cJ st) (bw st) (ai st) .none kV doc pm an cdv ct),osl⟩)
  (c:PySem.W.codeIn K cdv qual=true) (k:PySem.W.keepIn K (.ref f)=true):xE K x qual st f (PySem.W.fnOf x qual (cJ st) (bw st) (ai st) .none kV doc pm an cdv ct):=⟨⟨oc,od,kV,doc,pm,an,cdv,ct,osl,rfl,l,c⟩,k⟩
end
theorem Ls {A:Around} {k:Nat} (hr:dq k A):A.units+1 < cLine:=Nat.lt_of_le_of_lt (Nat.add_le_add_left (by decide:1<=64) _) hr.units
section
variable {X:Cx}
end
noncomputable def lr (H H':Hp):Prop:= ∀ b o,H b=some o->H' b=some o
theorem lr.trans {H H1 H2:Hp} (a:lr H H1) (b:lr H1 H2):lr H H2:=fun c o h=>b c o (a c o h)
theorem lr.free {H H':Hp} (e:lr H H') {l:Addr} (h:H' l=Option.none):H l=Option.none:=by
 cases q:H l with
 | none=>rfl
 | some o =>
  rw [e l o q] at h
  cases h
end L2
end
section
open PySem PySem.W PyProof.Rows
namespace L2
open PySem PySem.Spec PyProof.Rows
section
variable {κ :Type} [DecidableEq κ]
noncomputable def fZ (kvs:List (κ × V)) (k: κ):Option V:=(kvs.find? fun kv=>decide (kv.1=k)).map (·.2)
noncomputable def putK (kvs:List (κ × V)) (k: κ) (v:V):List (κ × V) :=
 if (kvs.any fun kv=>decide (kv.1=k))=true then kvs.map (fun kv=>if kv.1=k then (kv.1,v) else kv) else kvs++[(k,v)]
theorem nM {p: κ × V} {r:List (κ × V)} {k: κ} (e:p.1=k):fZ (p::r) k=some p.2:=by simp [fZ,List.find?_cons,e]
theorem mZ {p: κ × V} {r:List (κ × V)} {k: κ} (e: ¬ p.1=k):fZ (p::r) k=fZ r k:=by simp [fZ,List.find?_cons,e]
theorem rW (k: κ): ∀ kvs:List (κ × V),(kvs.any fun kv=>decide (kv.1=k))=(fZ kvs k).isSome
 | []=>rfl
 | p::r=>by
  rw [List.any_cons]
  by_cases e:p.1=k
  · simp only [nM e,decide_eq_true e,Bool.true_or,Option.isSome_some]
  · rw [mZ e,decide_eq_false e,Bool.false_or];exact rW k r
theorem gZ (kvs:List (κ × V)) (k: κ) (v:V):(putK kvs k v).length<=kvs.length+1:=by
 unfold putK
 split
 · rw [List.length_map];omega
 · rw [List.length_append,List.length_cons,List.length_nil];omega
theorem jA.gf {o:Option V} {u:Option Value} (r:jA o u):o.isSome=u.isSome:=by
 cases o with
 | none=>cases u with
  | none=>rfl
  | some _=>exact (show False from r).elim
 | some _=>cases u with
  | none=>exact (show False from r).elim
  | some _=>rfl
theorem jA.getD {o:Option V} {u:Option Value} {d:V} {d':Value} (r:jA o u) (rd:RelV d d'):RelV (o.getD d) (u.getD d'):=by
 cases o with
 | none=>cases u with
  | none=>exact rd
  | some _=>exact (show False from r).elim
 | some _=>cases u with
  | none=>exact (show False from r).elim
  | some _=>exact r
theorem KV.val {kvs:List (κ × V)} {vs:List (κ × Value)} (r:KV kvs vs) (k: κ):jA (fZ kvs k) (valueAt vs k):=by
 unfold KV at r
 induction r with
 | nil=>exact True.intro
 | @cons p q ps qs h t ih =>
  obtain ⟨h1,h2⟩:=h
  by_cases e:p.1=k
  · have e':q.1=k:=h1.symm.trans e
    have b:valueAt (q::qs) k=some q.2:=by simp [valueAt,List.find?_cons,e']
    rw [nM e,b];exact h2
  · have e': ¬ q.1=k:=fun z=>e (h1.trans z)
    have b:valueAt (q::qs) k=valueAt qs k:=by simp [valueAt,List.find?_cons,e']
    rw [mZ e,b];exact ih
theorem KV.any {kvs:List (κ × V)} {vs:List (κ × Value)} (r:KV kvs vs) (k: κ):(kvs.any fun kv=>decide (kv.1=k))=vs.any fun kv=>decide (kv.1=k):=by
 unfold KV at r
 induction r with
 | nil=>rfl
 | cons h t ih=>rw [List.any_cons,List.any_cons,ih,h.1]
theorem KV.FK {kvs:List (κ × V)} {vs:List (κ × Value)} (r:KV kvs vs) (k: κ) {y:V} {u:Value} (ry:RelV y u) :
  KV (kvs.map fun kv=>if kv.1=k then (kv.1,y) else kv) (vs.map fun kv=>if kv.1=k then (kv.1,u) else kv):=by
 unfold KV at r ⊢
 induction r with
 | nil=>exact .nil
 | @cons p q ps qs h t ih =>
  rw [List.map_cons,List.map_cons]
  refine .cons ?_ ih
  obtain ⟨h1,h2⟩:=h
  by_cases e:p.1=k
  · rw [if_pos e,if_pos (h1.symm.trans e)];exact ⟨h1,ry⟩
  · rw [if_neg e,if_neg (fun z=>e (h1.trans z))];exact ⟨h1,h2⟩
theorem KV.put {kvs:List (κ × V)} {vs:List (κ × Value)} (r:KV kvs vs) (k: κ) {y:V} {u:Value} (ry:RelV y u):KV (putK kvs k y) (stored vs k u):=by
 unfold putK stored
 rw [r.any k]
 by_cases e:(vs.any fun kv=>decide (kv.1=k))=true
 · rw [if_pos e,if_pos e];exact r.FK k ry
 · rw [if_neg e,if_neg e];exact Paired.snoc r ⟨rfl,ry⟩
theorem KV.keys {kvs:List (κ × V)} {vs:List (κ × Value)} (r:KV kvs vs):kvs.map (·.1)=vs.map (·.1):=by
 unfold KV at r
 induction r with
 | nil=>rfl
 | cons h t ih=>rw [List.map_cons,List.map_cons,ih,h.1]
theorem KV.length {kvs:List (κ × V)} {vs:List (κ × Value)} (r:KV kvs vs):kvs.length=vs.length:=Paired.length r
end
theorem jX {P:Program} {w:World} {k:Key} {u:Value} (r:RelV (kV k) u):(aI P w).is k u=true:=by
 cases k with
 | inl i=>obtain ⟨t,e⟩:=(show ∃ t,u=Value.int i t from r);subst e;exact sx P w i t
 | inr x=>obtain ⟨t,e⟩:=(show ∃ t,u=Value.str x t from r);subst e;exact sG P w x t
theorem pF {P:Program} {w:World}: ∀ {ks:List Key} {us:List Value},Vals (ks.map kV) us->ItemsAre (aI P w) ks us
 | [],_,r=>by rw [List.map_nil] at r;cases r;exact .nil
 | k::ks,_,r=>by
  rw [List.map_cons] at r
  cases r with
  | cons h t=>exact .cons (jX h) (pF t)
abbrev KT (H:Hp):List (List Key × V)->List (List Key × Addr × Value)->Prop:=Paired fun p q=>p.1=q.1∧H q.2.1=some (.tup (p.1.map kV))∧RelV p.2 q.2.2
theorem KT.val {H:Hp} {kvs:List (List Key × V)} {xs:List (List Key × Addr × Value)} (r:KT H kvs xs) (k:List Key):jA (fZ kvs k) ((atKey xs k).map (·.2)):=by
 induction r with
 | nil=>exact True.intro
 | @cons p q ps qs h t ih =>
  obtain ⟨h1,_,h2⟩:=h
  by_cases e:p.1=k
  · have e':q.1=k:=h1.symm.trans e
    have b:atKey (q::qs) k=some q.2:=by simp [atKey,List.find?_cons,e']
    rw [nM e,b];exact h2
  · have e': ¬ q.1=k:=fun z=>e (h1.trans z)
    have b:atKey (q::qs) k=atKey qs k:=by simp [atKey,List.find?_cons,e']
    rw [mZ e,b];exact ih
theorem KT.FK {H:Hp} {kvs:List (List Key × V)} {xs:List (List Key × Addr × Value)} (r:KT H kvs xs) (k:List Key) {y:V} {u:Value} (ry:RelV y u) :
  KT H (kvs.map fun kv=>if kv.1=k then (kv.1,y) else kv) (xs.map (putAt k u)):=by
 induction r with
 | nil=>exact .nil
 | @cons p q ps qs h t ih =>
  rw [List.map_cons,List.map_cons]
  refine .cons ?_ ih
  obtain ⟨h1,h2,h3⟩:=h
  unfold putAt
  by_cases e:p.1=k
  · rw [if_pos e,if_pos (h1.symm.trans e)];exact ⟨h1,h2,ry⟩
  · rw [if_neg e,if_neg (fun z=>e (h1.trans z))];exact ⟨h1,h2,h3⟩
theorem KT.put {H:Hp} {kvs:List (List Key × V)} {xs:List (List Key × Addr × Value)} (r:KT H kvs xs) (k:List Key) {b:Addr} {y:V} {u:Value} (hb:H b=some (.tup (k.map kV))) (ry:RelV y u) :
  KT H (putK kvs k y) (storedH xs k b u):=by
 have e:(kvs.any fun kv=>decide (kv.1=k))=(atKey xs k).isSome:=by
  rw [rW,(r.val k).gf,Option.isSome_map]
 unfold putK storedH
 rw [e]
 by_cases q:(atKey xs k).isSome=true
 · rw [if_pos q,if_pos q];exact r.FK k ry
 · rw [if_neg q,if_neg q];exact Paired.snoc r ⟨rfl,hb,ry⟩
theorem KT.keeps {H H':Hp} {kvs:List (List Key × V)} {xs:List (List Key × Addr × Value)} (r:KT H kvs xs) (ht: ∀ b ys,H b=some (.tup ys)->H' b=some (.tup ys)):KT H' kvs xs :=
 Paired.wR r fun _ _ z=>⟨z.1,ht _ _ z.2.1,z.2.2⟩
section
variable {P:Program} {w:World} {H:Hp} {h:Heap} {a:Addr}
theorem En {u:HO} (ok:iY P w H h) (e:Rd H a u):a9 P w H h a u:=e.ok ok
theorem kR {kvs:List (Key × V)} (ok:iY P w H h) (e:Rd H a (.dK kvs)):kvs.length<=sizeLine∧(a == sysModules)=false∧ ∃ vs,KV kvs vs∧h.DictOf (aI P w) a vs :=
 show a9 P w H h a (.dK kvs) from En ok e
theorem mD {kvs:List (Key × V)} (ok:iY P w H h) (e:H a=some (.dK kvs)):kvs.length<=sizeLine∧(a == sysModules)=false∧ ∃ vs,KV kvs vs∧h.DictOf (aI P w) a vs:=kR ok (.inl e)
theorem j3 {ks:List Key} (ok:iY P w H h) (e:H a=some (.tup (ks.map kV))):(tupleKind (aI P w)).is h ks a:=by
 obtain ⟨_,aw,r,o,h1,h2,n,h3,_⟩:=(show a9 P w H h a (.tup (ks.map kV)) from ok a _ e)
 exact ⟨o,aw.toArray,n,h1,h2,h3,by simpa using pF r⟩
theorem nh {kvs:List (List Key × V)} (ok:iY P w H h) (e:Rd H a (.dT kvs)):kvs.length<=sizeLine∧(a == sysModules)=false ∧
  ∃ xs,KT H kvs xs∧h.DictOfH (tupleKind (aI P w)) a xs:=by
 obtain ⟨z,y,xs,r,o,es,ep,h1,h2,h3,h4,h5⟩:=(show a9 P w H h a (.dT kvs) from En ok e)
 refine ⟨z,y,xs,r,o,es,ep,h1,h2,h3,h4,fun x hx=>?_,h5⟩
 have all: ∀ {l:List (List Key × V)} {m:List (List Key × Addr × Value)},KT H l m-> ∀ x∈m,(tupleKind (aI P w)).is h x.1 x.2.1:=by
  intro l m q
  induction q with
  | nil=>intro x hx;exact nomatch hx
  | @cons p q ps qs hq t ih =>
   intro x hx
   rcases List.mem_cons.mp hx with e | hx
   · subst e
     exact j3 ok (by rw [<- hq.1];exact hq.2.1)
   · exact ih x hx
 exact all r x hx
theorem L8 {kvs:List (List Key × V)} (ok:iY P w H h) (e:H a=some (.dT kvs)):kvs.length<=sizeLine∧(a == sysModules)=false ∧
  ∃ xs,KT H kvs xs∧h.DictOfH (tupleKind (aI P w)) a xs:=nh ok (.inl e)
end
noncomputable def iO (H:Hp) (a:Addr) (y:V) (r:Option V):Prop :=
 (∃ kvs k,Rd H a (.dK kvs)∧y=kV k∧r=fZ kvs k)∨ ∃ kvs k b,Rd H a (.dT kvs)∧y= .ref b∧H b=some (.tup (k.map kV))∧r=fZ kvs k
noncomputable def uc (H:Hp) (a:Addr) (y v:V) (H':Hp):Prop :=
 (∃ kvs k,H a=some (.dK kvs)∧y=kV k∧kvs.length < sizeLine∧H'=upd H a (.dK (putK kvs k v))) ∨
 ∃ kvs k b,H a=some (.dT kvs)∧y= .ref b∧H b=some (.tup (k.map kV))∧kvs.length < sizeLine∧H'=upd H a (.dT (putK kvs k v))
theorem iO.k {H:Hp} {a:Addr} {kvs:List (Key × V)} {k:Key} (e:H a=some (.dK kvs)):iO H a (kV k) (fZ kvs k):= .inl ⟨kvs,k,.inl e,rfl,rfl⟩
theorem iO.t {H:Hp} {a b:Addr} {kvs:List (List Key × V)} {k:List Key} (e:H a=some (.dT kvs)) (eb:H b=some (.tup (k.map kV))):iO H a (.ref b) (fZ kvs k):= .inr ⟨kvs,k,b,.inl e,rfl,eb,rfl⟩
theorem uc.k {H:Hp} {a:Addr} {kvs:List (Key × V)} {k:Key} {v:V} (e:H a=some (.dK kvs)) (hl:kvs.length < sizeLine):uc H a (kV k) v (upd H a (.dK (putK kvs k v))):= .inl ⟨kvs,k,e,rfl,hl,rfl⟩
theorem uc.t {H:Hp} {a b:Addr} {kvs:List (List Key × V)} {k:List Key} {v:V} (e:H a=some (.dT kvs)) (eb:H b=some (.tup (k.map kV))) (hl:kvs.length < sizeLine) :
  uc H a (.ref b) v (upd H a (.dT (putK kvs k v))):= .inr ⟨kvs,k,b,e,rfl,eb,hl,rfl⟩
section
variable {X:Cx} {pins:List (Addr × Obj)} {σ :St} {H:Hp} {s:Shared} {a:Addr} {y v:V} {u r:Value} {o:Option V} {A:Around} {E:Value->Shared->Prop}
theorem Inv.big (I:Inv X pins σ H s):sysModules < s.heap.objs.size:=by
 have h:mainGlobals < s.heap.objs.size:=(I.mod.glob.keeps I.bk).lt
 exact Nat.lt_trans (by decide) h
theorem wC {Q:Value->Shared->Prop} (hu:A.units+1 < cLine) (I:Inv X pins σ H s) (g:iO H a y (some v)) (ry:RelV y u) (h: ∀ w' s',Inv X pins σ H s'->RelV v w'->Q w' s') :
  wpAny (model X.prog X.w) A (getItem (.ref a) u) Q E s:=by
 rcases g with ⟨kvs,k,e,ey,l⟩ | ⟨kvs,k,b,e,ey,eb,l⟩
 · subst ey
   obtain ⟨z,hd,vs,rel,dd⟩:=kR I.bz e
   obtain ⟨w',hw,rw'⟩:=jA.some_of (v:=v) (o:=valueAt vs k) (by rw [l];exact rel.val k)
   exact wpAny_getItem_of (jX ry) dd.mapOf hw (h w' _ (I.tok _) rw')
 · subst ey
   cases (show u=Value.ref b from ry)
   obtain ⟨z,hd,xs,rel,dd⟩:=nh I.bz e
   obtain ⟨w',hw,rw'⟩:=jA.some_of (v:=v) (o:=(atKey xs k).map (·.2)) (by rw [l];exact rel.val k)
   obtain ⟨p,hp,hp2⟩:=Option.map_eq_some_iff.mp hw
   refine wpAny_getItem_heap (tupleKind_room_in1 hu) (j3 I.bz eb) dd hp ?_
   rw [hp2]
   exact h w' _ (I.tok _) rw'
theorem M7 {Q:Value->Shared->Prop} (hu:A.units+1 < cLine) (I:Inv X pins σ H s) (g:iO H a y o) (ry:RelV y u) (h: ∀ s',Inv X pins σ H s'->Q (.bool o.isSome) s') :
  wpAny (model X.prog X.w) A (compareOp .In u (.ref a)) Q E s:=by
 rcases g with ⟨kvs,k,e,ey,l⟩ | ⟨kvs,k,b,e,ey,eb,l⟩
 · subst ey
   obtain ⟨z,hd,vs,rel,dd⟩:=kR I.bz e
   refine wpAny_in_of (jX ry) hd dd.mapOf ?_
   rw [<- (rel.val k).gf,<- l]
   exact h _ (I.tok _)
 · subst ey
   cases (show u=Value.ref b from ry)
   obtain ⟨z,hd,xs,rel,dd⟩:=nh I.bz e
   refine wpAny_in_heap (tupleKind_room_in1 hu) (j3 I.bz eb) hd dd ?_
   have q:=(rel.val k).gf
   rw [Option.isSome_map] at q
   rw [<- q,<- l]
   exact h _ (I.tok _)
theorem BO {Q:Value->Shared->Prop} (hu:A.units+1 < cLine) (I:Inv X pins σ H s) (g:iO H a y o) (ry:RelV y u) (h: ∀ s',Inv X pins σ H s'->Q (.bool (!o.isSome)) s') :
  wpAny (model X.prog X.w) A (compareOp .NotIn u (.ref a)) Q E s:=by
 rcases g with ⟨kvs,k,e,ey,l⟩ | ⟨kvs,k,b,e,ey,eb,l⟩
 · subst ey
   obtain ⟨z,hd,vs,rel,dd⟩:=kR I.bz e
   refine wpAny_notIn_of (jX ry) hd dd.mapOf ?_
   rw [<- (rel.val k).gf,<- l]
   exact h _ (I.tok _)
 · subst ey
   cases (show u=Value.ref b from ry)
   obtain ⟨z,hd,xs,rel,dd⟩:=nh I.bz e
   refine wpAny_notIn_heap (tupleKind_room_in1 hu) (j3 I.bz eb) hd dd ?_
   have q:=(rel.val k).gf
   rw [Option.isSome_map] at q
   rw [<- q,<- l]
   exact h _ (I.tok _)
theorem lY {h':Heap} {t':Nat} {ob:HO} (I:Inv X pins σ H s) (mu:L9 (H a)) (hs:Heap.SameBut a s.heap h') (he: ∃ q,h'.get? a=some q) (new:a9 X.prog X.w (upd H a ob) h' a ob) :
  Inv X pins σ (upd H a ob) { s with heap:=h',toks:=t' } :=
 I.write (x:=a) (e:=a) mu (.inl rfl) (fun b q hb z=>(hs.2 b hb).trans z) he new
theorem mQ {P:Program} {w:World} {H':Hp} {h':Heap} {kvs:List (Key × V)} {vs:List (Key × Value)} (z:kvs.length<=sizeLine) (hd:(a == sysModules)=false) (rel:KV kvs vs) (dd:h'.DictOf (aI P w) a vs) :
  a9 P w H' h' a (.dK kvs):=⟨z,hd,vs,rel,dd⟩
theorem xk {H':Hp} {Q:Unit->Shared->Prop} (hu:A.units+1 < cLine) (I:Inv X pins σ H s) (g:uc H a y v H') (ry:RelV y u) (rv:RelV v r) (h: ∀ s',Inv X pins σ H' s'->Q () s') :
  wpAny (model X.prog X.w) A (setItem (.ref a) u r) Q E s:=by
 rcases g with ⟨kvs,k,e,ey,l,eH⟩ | ⟨kvs,k,b,e,ey,eb,l,eH⟩
 · subst ey eH
   obtain ⟨z,hd,vs,rel,dd⟩:=mD I.bz e
   have hz:vs.length<=sizeLine:=by rw [<- rel.length];exact z
   have hl:(putK kvs k v).length<=sizeLine:=by have:=gZ kvs k v;omega
   refine wpAny_setItem_pairs (hsz:=hz) (jX ry) dd fun h' dd' hs=>h _ ?_
   have he: ∃ q,h'.get? a=some q:=let ⟨q,_,_,hq,_⟩:=dd';⟨q,hq⟩
   exact lY I (by rw [e];exact True.intro) hs he (mQ hl hd (rel.put k rv) dd')
 · subst ey eH
   cases (show u=Value.ref b from ry)
   obtain ⟨z,hd,xs,rel,dd⟩:=L8 I.bz e
   have hz:xs.length<=sizeLine:=by rw [<- Paired.length rel];exact z
   have hl:(putK kvs k v).length<=sizeLine:=by have:=gZ kvs k v;omega
   refine wpAny_setItem_heap (hsz:=hz) (tupleKind_room_in1 hu) (j3 I.bz eb) dd fun h' dd' hs=>h _ ?_
   obtain ⟨q,es,ep,hq,h2,h3,h4,_,h5⟩:=dd'
   refine lY I (by rw [e];exact True.intro) hs ⟨q,hq⟩ ⟨hl,hd,_,(rel.put k eb rv).keeps fun c ys ec=>?_,q,es,ep,hq,h2,h3,h4,h5⟩
   rw [aE (oP ec e (fun z=>nomatch z))]
   exact ec
end
section
variable {X:Cx} {pins:List (Addr × Obj)} {σ :St} {H:Hp} {s:Shared} {a:Addr} {kvs:List (Key × V)} {k:Key} {u:Value} {A:Around} {E:Value->Shared->Prop}
theorem LX {Q:Value->Shared->Prop} (I:Inv X pins σ H s) (e:Rd H a (.dK kvs)) (h: ∀ t s',Inv X pins σ H s'->Q (.int kvs.length t) s'):wpAny (model X.prog X.w) A (call (.builtin "len") [.ref a]) Q E s:=by
 obtain ⟨z,hd,vs,rel,dd⟩:=kR I.bz e
 refine call_len_dict hd dd (by rw [<- rel.length];rw [sizeLine_eq] at z;omega) ?_
 rw [<- rel.length]
 exact h _ _ (I.tok _)
end
noncomputable def CG (i:Expr):Prop:= ∀ ov iv,subscripted i false ov iv=operate [ov,iv] (getItem ov iv)
theorem Cs {prog : Program} {w : World} {A : Around} {E : Value -> Shared -> Prop} {s : Shared} {env : Env} {value slice : Expr} {pos : Pos} {T id : String} {Q : Value -> Shared -> Prop}
    (hl : typeLookup (.type T) "__getitem__" = pure (some (.builtin id))) (hs : CG slice)
    (h : wpAny (model prog w) A (eval value env) (fun o s₁ => wpAny (model prog w) A (eval slice env) (fun i s₂ => s₂.TypeIs o T /\ wpAny (model prog w) A (getItem o i) Q E s₂) E s₁) E s) :
    wpAny (model prog w) A (eval (.Subscript value slice pos) env) Q E s := by
  refine Subscript_ (wpAny_mono h (fun o s₁ h₁ => wpAny_mono h₁ (fun i s₂ h₂ => ?_) fun _ _ x => x) fun _ _ x => x)
  obtain ⟨hT, h₂⟩ := h₂
  unfold subscriptTail
  refine wpAny_bind ?_
  rw [getitemInPython_of_ne hT.not_modules]
  refine wpAny_bind (wpAny_specialOf hT hl ?_)
  have fin : wpAny (model prog w) A (subscripted slice false o i) (fun r s₃ => wpAny (model prog w) A (letTemporaryGo value o r >>= fun _ => pure r) Q E s₃) E s₂ := by
    rw [hs o i]
    exact wpAny_operating (wpAny_mono h₂ (fun r s₃ h₃ => wpAny_bind (wpAny_letTemporaryGo (wpAny_pure h₃))) fun _ _ x => x)
  first
    | exact wpAny_pure (wpAny_bind fin)
    | exact wpAny_bind (wpAny_pure (wpAny_bind fin))
    | exact wpAny_bind fin
theorem rJ {X:Cx} {pins:List (Addr × Obj)} {σ :St} {H:Hp} {s:Shared} {a:Addr} {y:V} {o:Option V} (I:Inv X pins σ H s) (g:iO H a y o):s.TypeIs (.ref a) "dict" :=by
 rcases g with ⟨kvs,k,e,_,_⟩ | ⟨kvs,k,b,e,_,_,_⟩
 · obtain ⟨_,_,vs,_,dd⟩:=kR I.bz e
   exact dd.typeIs
 · obtain ⟨_,_,xs,_,dd⟩:=nh I.bz e
   exact dd.typeIs
section
variable {X:Cx} {o i e value:Expr} {pos pos' tpos:Pos} {td ty tv:TE}
end
theorem tq {P:Program} {w:World} {H:Hp} (h:Heap) (hb:sysModules < h.objs.size):a9 P w H (h.push { cls:= .type "dict",data:= .dict #[] }) h.objs.size (.dK []) :=
 ⟨Nat.zero_le _,beq_eq_false_iff_ne.mpr (Ne.symm (Nat.ne_of_lt hb)),[],.nil,Heap.DictOf.new h⟩
noncomputable def yU:TE:=fun _ H Q=> ∀ p,H p=none->Q (.ref p) (upd H p (.dK []))
section
variable {X:Cx} {pos:Pos}
theorem AH:PE X (.Dict [] [] pos) yU:=fun pins s σ H Q I h =>
 wpAny_Dict_empty ⟨.ref s.heap.objs.size,_,I.laid (a:=s.heap.objs.size) (o:= .dK []) (t':=s.toks) (fun _ _ q=>Heap.get?_push_of_some _ q) (Nat.le_refl _) (tq s.heap I.big),rfl,h _ (I.bz.fresh (Nat.le_refl _))⟩
end
noncomputable def kK:List (TE × TE)->St->Hp->(List (V × V)->Hp->Prop)->Prop
 | [],_,H,Q=>Q [] H
 | (tk,tv)::r, σ,H,Q=>tk σ H fun x H1=>tv σ H1 fun y H2=>kK r σ H2 fun ps H3=>Q ((x,y)::ps) H3
abbrev VV:List (V × V)->List (Value × Value)->Prop:=Paired fun p q=>RelV p.1 q.1∧RelV p.2 q.2
noncomputable def Ko (X:Cx) (pos:Pos) (keys:List (Option Expr)) (values:List Expr) (trs:List (TE × TE)):Prop :=
 ∀ (pins:List (Addr × Obj)) (s:Shared) (σ :St) (H:Hp) (Q:List (V × V)->Hp->Prop),Inv X pins σ H s->kK trs σ H Q ->
  wpAny (model X.prog X.w) X.A (evalPairs (pairTrees keys values X.env pos)) (fun vs s'=> ∃ ps H',Inv X pins σ H' s'∧VV ps vs∧Q ps H') X.xe s
theorem BM {X:Cx} {pos:Pos}:Ko X pos [] [] []:=fun pins s σ H Q I h=>pairTrees_nil_walk ⟨[],H,I,.nil,h⟩
theorem zr {X:Cx} {pos:Pos} {k v:Expr} {ks:List (Option Expr)} {vs:List Expr} {tk tv:TE} {trs:List (TE × TE)} (hk:PE X k tk) (hv:PE X v tv) (hr:Ko X pos ks vs trs) :
  Ko X pos (some k::ks) (v::vs) ((tk,tv)::trs):=fun pins s σ H Q I h =>
 pairTrees_cons_walk (cL (hk pins s σ H _ I h) fun u s1 ⟨x,H1,I1,rx,q1⟩=>cL (hv pins s1 σ H1 _ I1 q1) fun w2 s2 ⟨y,H2,I2,ry,q2⟩ =>
  cL (hr pins s2 σ H2 _ I2 q2) fun ws s3 ⟨ps,H3,I3,rel,q3⟩=>⟨(x,y)::ps,H3,I3,.cons ⟨rx,ry⟩ rel,q3⟩)
noncomputable def cA (kvs more:List (Key × V)):List (Key × V):=more.foldl (fun acc kv=>putK acc kv.1 kv.2) kvs
theorem KV.merge: ∀ {more:List (Key × V)} {rs:List (Key × Value)} {kvs:List (Key × V)} {vs:List (Key × Value)},KV more rs->KV kvs vs->KV (cA kvs more) (merged vs rs):=by
 intro more rs kvs vs r
 unfold KV at r
 induction r generalizing kvs vs with
 | nil=>intro q;exact q
 | @cons p q ps qs h t ih =>
  intro r0
  have e:KV (putK kvs p.1 p.2) (stored vs q.1 q.2):=by
   have:=r0.put p.1 h.2
   rw [<- h.1];exact this
  exact ih e
theorem cX: ∀ (more kvs:List (Key × V)),(cA kvs more).length<=kvs.length+more.length
 | [],kvs=>by show kvs.length<=kvs.length+0;omega
 | p::r,kvs=>by
  have h1:=cX r (putK kvs p.1 p.2)
  have h2:=gZ kvs p.1 p.2
  show (cA (putK kvs p.1 p.2) r).length<=_
  rw [List.length_cons];omega
theorem nL {P:Program} {w:World}: ∀ {kvs:List (Key × V)} {ws:List (Value × Value)},VV (kvs.map fun kv=>(kV kv.1,kv.2)) ws-> ∃ rs,Carries (aI P w) ws rs∧KV kvs rs
 | [],_,r=>by rw [List.map_nil] at r;cases r;exact ⟨[],True.intro,.nil⟩
 | p::kvs,_,r=>by
  rw [List.map_cons] at r
  cases r with
  | @cons a b as bs h t =>
   obtain ⟨rs,c,q⟩:=nL (P:=P) (w:=w) t
   obtain ⟨b1,b2⟩:=b
   exact ⟨(p.1,b2)::rs,⟨jX h.1,rfl,c⟩,.cons ⟨rfl,h.2⟩ q⟩
noncomputable def EC (trs:List (TE × TE)):TE:=fun σ H Q=> ∀ p,H p=none->kK trs σ (upd H p (.dK [])) fun ps H2=>H2 p=some (.dK [])∧ ∃ kvs:List (Key × V),ps=kvs.map (fun kv=>(kV kv.1,kv.2))∧kvs.length<=15∧Q (.ref p) (upd H2 p (.dK (cA [] kvs)))
theorem B8 {X:Cx} {pos:Pos} {keys:List (Option Expr)} {values:List Expr} {trs:List (TE × TE)} (h:Ko X pos keys values trs) (hall:keys.all (·.isSome)=true) (hl:keys.length=values.length) (h0:keys≠[])
  (h15:keys.length<=15):PE X (.Dict keys values pos) (EC trs):=by
 intro pins s σ H Q I q
 have hn:=I.bz.fresh (Nat.le_refl s.heap.objs.size)
 have I1:=I.laid (a:=s.heap.objs.size) (o:= .dK []) (h':=s.heap.push { cls:= .type "dict",data:= .dict #[] }) (t':=s.toks) (fun _ _ q=>Heap.get?_push_of_some _ q) (Nat.le_refl _) (tq s.heap I.big)
 refine wpAny_Dict_walk (knd:=aI X.prog X.w) hall hl h0 h15 (cL (h pins _ σ _ _ I1 (q _ hn)) fun ws s2 ⟨ps,H2,I2,rel,e,kvs,ep,lk,q2⟩=>?_)
 subst ep
 obtain ⟨rs,c,rk⟩:=nL (P:=X.prog) (w:=X.w) rel
 obtain ⟨z,hd,vs0,r0,dd⟩:=mD I2.bz e
 cases r0
 refine ⟨rs,c,dd,fun h' dd' hs=>⟨.ref s.heap.objs.size,_,?_,rfl,q2⟩⟩
 have hz:(cA [] kvs).length<=sizeLine:=by
  have h1:=cX kvs []
  rw [List.length_nil] at h1
  rw [sizeLine_eq];omega
 have he: ∃ q,h'.get? s.heap.objs.size=some q:=let ⟨q,_,_,hq,_⟩:=dd';⟨q,hq⟩
 exact lY I2 (by rw [e];exact True.intro) hs he (mQ hz hd (rk.merge .nil) dd')
structure M1 (X:Cx) (o:Expr) (m:Str) (apos:Pos) (e:Expr) (cpos:Pos):Prop where
 base:attributeBase o m X.env (eval o X.env)=eval o X.env
 j2:((backTo cpos (starEach [e] X.env)).all (fun x=> !x.1)&&(backToKw cpos (keywordEach [] X.env)).all (fun x=>x.1.isSome)
  && decide (([e]:List Expr).length+([]:List Keyword).length+(if ([]:List Keyword).isEmpty then 0 else 1) < 30))=true
 line:(apos.endLine == cpos.line)=true
 trees:backTo cpos (starEach [e] X.env)=[(false,eval e X.env)]
structure M2 (X:Cx) (o:Expr) (m:Str) (apos:Pos) (e f:Expr) (cpos:Pos):Prop where
 base:attributeBase o m X.env (eval o X.env)=eval o X.env
 j2:((backTo cpos (starEach [e,f] X.env)).all (fun x=> !x.1)&&(backToKw cpos (keywordEach [] X.env)).all (fun x=>x.1.isSome)
  && decide (([e,f]:List Expr).length+([]:List Keyword).length+(if ([]:List Keyword).isEmpty then 0 else 1) < 30))=true
 line:(apos.endLine == cpos.line)=true
 trees:backTo cpos (starEach [e,f] X.env)=[(false,eval e X.env),(false,eval f X.env)]
noncomputable def NK (H:Hp) (a:Addr):Prop:=(∃ kvs,Rd H a (.dK kvs))∨ ∃ kvs,Rd H a (.dT kvs)
theorem Gv {X:Cx} {pins:List (Addr × Obj)} {σ :St} {H:Hp} {s:Shared} {a:Addr} (I:Inv X pins σ H s) (d:NK H a) :
  s.TypeIs (.ref a) "dict" ∧(∀ b,Value.ref a= .ref b-> ∃ ob,s.heap.get? b=some ob∧ob.dict=none)∧(a == sysModules)=false:=by
 rcases d with ⟨kvs,e⟩ | ⟨kvs,e⟩
 · obtain ⟨_,hd,vs,_,dd⟩:=kR I.bz e
   refine ⟨dd.typeIs,fun b q=>?_,hd⟩
   cases q
   obtain ⟨ob,_,_,h1,h2,_⟩:=dd
   exact ⟨ob,h1,h2.2.1⟩
 · obtain ⟨_,hd,xs,_,dd⟩:=nh I.bz e
   refine ⟨dd.typeIs,fun b q=>?_,hd⟩
   cases q
   obtain ⟨ob,_,_,h1,h2,_⟩:=dd
   exact ⟨ob,h1,h2.2.1⟩
section
variable {X:Cx} {pins:List (Addr × Obj)} {σ :St} {H:Hp} {s:Shared} {a:Addr} {y d:V} {u r:Value} {o:Option V} {A:Around} {E:Value->Shared->Prop}
theorem HM {Q:Value->Shared->Prop} (hu:A.units+1 < cLine) (I:Inv X pins σ H s) (g:iO H a y o) (ry:RelV y u) (rd:RelV d r) (h: ∀ w' s',Inv X pins σ H s'->RelV (o.getD d) w'->Q w' s') :
  wpAny (model X.prog X.w) A (call (.builtin "dict.get") [.ref a,u,r]) Q E s:=by
 rcases g with ⟨kvs,k,e,ey,l⟩ | ⟨kvs,k,b,e,ey,eb,l⟩
 · subst ey
   obtain ⟨z,hd,vs,rel,dd⟩:=kR I.bz e
   refine call_meetsIn PySem.F.slot_dict_get dd.typeIs PySem.F.entry_dict_get (PySem.F.args_dict_get_3 _ _ _) (meets_dict_get_default (aI X.prog X.w) a (jX ry) hd r) ⟨_,dd.mapOf,h _ _ (I.tok _) ?_⟩
   rw [l]
   exact (rel.val k).getD rd
 · subst ey
   cases (show u=Value.ref b from ry)
   obtain ⟨z,hd,xs,rel,dd⟩:=nh I.bz e
   refine call_meetsIn PySem.F.slot_dict_get dd.typeIs PySem.F.entry_dict_get (PySem.F.args_dict_get_3 _ _ _) (meetsH_dict_get_default (tupleKind (aI X.prog X.w)) a b hd r) ⟨tupleKind_room_in1 hu,k,xs,j3 I.bz eb,dd,h _ _ (I.tok _) ?_⟩
   rw [l]
   exact (rel.val k).getD rd
end
noncomputable def y9 (td ty tx:TE):TE:=fun σ H Q=>td σ H fun x H1=> ∃ a,x= .ref a∧NK H1 a∧ty σ H1 fun y H2=>tx σ H2 fun z H3=> ∃ o,iO H3 a y o∧Q (o.getD z) H3
section
variable {X:Cx} {o e f:Expr} {apos cpos:Pos} {td ty tx:TE}
theorem xU (hu:X.A.units+1 < cLine) (ho:PE X o td) (he:PE X e ty) (hf:PE X f tx) (m:M2 X o "get" apos e f cpos):PE X (.Call (.Attribute o "get" apos) [e,f] [] cpos) (y9 td ty tx):=by
 intro pins s σ H Q I h
 refine wpAny_Call_method m.base m.j2 m.line PySem.F.plainAttrs_dict PySem.F.slot_dict_get PySem.F.type_dict_get (cL (ho pins s σ H _ I h) fun u s1 ⟨x,H1,I1,rx,a,ex,d,q1⟩=>?_)
 subst ex
 obtain rfl:u=Value.ref a:=rx
 obtain ⟨t1,t2,_⟩:=Gv I1 d
 refine ⟨t1,t2,?_⟩
 rw [m.trees]
 refine Calls.callWith_builtin rfl (Calls.evalArgs_plain (Calls.spliced_cons (cL (he pins s1 σ H1 _ I1 q1) fun iv s2 ⟨y,H2,I2,ry,q2⟩ =>
  Calls.spliced_cons (cL (hf pins s2 σ H2 _ I2 q2) fun fv s3 ⟨z,H3,I3,rz,ov,g,q3⟩=>Calls.spliced_nil ?_))))
 exact HM hu I3 g ry rz fun w' s4 I4 rw'=>⟨_,H3,I4,rw',q3⟩
end
section
variable {X:Cx} {pins:List (Addr × Obj)} {σ :St} {H:Hp} {s:Shared} {a:Addr} {kvs:List (Key × V)} {A:Around} {E:Value->Shared->Prop}
end
section
variable {X:Cx} {pins:List (Addr × Obj)} {σ :St} {H:Hp} {s:Shared} {a:Addr} {y:V} {u:Value} {A:Around} {E:Value->Shared->Prop}
end
open PySem PySem.Spec PyProof.Rows
section
variable {X:Cx}
theorem xl:aW X (.builtin "len") (fun xs H Q=> ∃ a kvs,xs=[V.ref a]∧H a=some (.dK kvs)∧Q (.int kvs.length) H):=by
 intro pins s σ H xs us Q I r h
 obtain ⟨a,kvs,rfl,ha,q⟩:=h
 obtain ⟨u,rfl,ru⟩:=vals1 r
 cases ru
 exact LX I (.inl ha) fun t s' I'=>⟨.int kvs.length,H,I',⟨t,rfl⟩,q⟩
end
open PySem PySem.Spec PyProof.Rows
section
variable {κ :Type} [DecidableEq κ]
end
end L2
end
section
open PySem PySem.W PyProof.Rows
namespace L2
open PySem PySem.Spec PyProof.Rows
noncomputable def mask (n:Str):Str:=⟨n.cps.push 0⟩
noncomputable def gO (sc fn:List (Str × NameKind)) (N vars:List Str):Bool :=
 sc.all (fun p=>p.2 != .cell&&(p.2 != .free||(fn.lookup p.1 == some .cell||fn.lookup p.1 == some .free))&&(p.2 != .local||sc.lookup p.1 == some .local)) &&
 N.all (fun n=>vars.contains n||sc.lookup n !=some .local)&&vars.all (fun v=>sc.lookup (mask v) == none)
noncomputable def oa (N vars:List Str):List Str:=N.map (fun n=>if vars.contains n then mask n else n)++vars
noncomputable def eG (X:Cx) (vars:List Str) (scope:Scope) (cl:List (Str × Addr)) (C:Addr) (s₀ :Shared) (H₀ :Hp) (ex:List Addr) (pn:List (Addr × Obj)):Cx :=
 { X with N:=oa X.N vars,env:=compEnvC scope cl C X.env,s₀ :=s₀,H₀ :=H₀,outer:=X.stack,ex:=ex,fn:=fun _=>false,pn:=pn }
theorem iX (f : Str -> NameKind -> NameKind) (x : Str) : ∀ names : List (Str × NameKind), (names.map fun p => (p.1, f p.1 p.2)).lookup x = (names.lookup x).map (f x)
  | [] => rfl
  | p :: r => by
    have ih := iX f x r
    rw [List.map_cons, List.lookup_cons, List.lookup_cons, ih]
    cases q : x == p.1 with
    | true => obtain rfl : x = p.1 := by simpa using q
              rfl
    | false => rfl
theorem hI {env:Env} {names:List (Str × NameKind)} {x:Str} :
  (names.map fun (n,k)=>if (k == NameKind.free&&env.scope.kind == .function&&env.kindOf n == some .cell) then (n,NameKind.cell) else (n,k)).lookup x =
   (names.lookup x).map fun k=>if (k == NameKind.free&&env.scope.kind == .function&&env.kindOf x == some .cell) then NameKind.cell else k:=by
 rw [<- iX (fun n k=>if (k == NameKind.free&&env.scope.kind == .function&&env.kindOf n == some .cell) then NameKind.cell else k) x names]
 congr 2
 funext p
 obtain ⟨n,k⟩:=p
 show (if _ then _ else _)=_
 split<;>rename_i z<;>simp [z]
theorem lookup_mem {β :Type} {x:Str} {c: β}: ∀ {l:List (Str × β)},l.lookup x=some c->(x,c)∈l
 | [],h=>by simp at h
 | p::r,h=>by
  rw [List.lookup_cons] at h
  cases q:x == p.1 with
  | true =>
   rw [q] at h
   obtain rfl:x=p.1:=by simpa using q
   obtain rfl:p.2=c:=by simpa using h
   exact List.mem_cons_self
  | false=>rw [q] at h;exact List.mem_cons_of_mem _ (lookup_mem h)
theorem fj {β :Type} {x:Str} {c: β}: ∀ {l:List (Str × β)},(x,c)∈l-> ∃ d,l.lookup x=some d
 | [],h=>nomatch h
 | (n,k)::r,h=>by
  cases hx:x == n with
  | true=>exact ⟨k,by simp only [List.lookup_cons,hx]⟩
  | false =>
   have h':(x,c)∈r:=by
    rcases List.mem_cons.mp h with e | e
    · cases e;simp at hx
    · exact e
   obtain ⟨d,q⟩:=fj h'
   exact ⟨d,by simp only [List.lookup_cons,hx];exact q⟩
theorem jc {env:Env}: ∀ (names:List (Str × NameKind)) (acc:List (Str × Addr)),(∀ p∈names,p.2= .free-> ∃ c,env.cells.lookup p.1=some c) ->
  ∃ cl,(forIn names acc fun (x:Str × NameKind) (r:List (Str × Addr))=>(match x with | (name,kind)=>if (kind == NameKind.free)=true then do let a <- cellOf env name;pure (ForInStep.yield ((name,a)::r)) else pure (ForInStep.yield r):Sem (ForInStep (List (Str × Addr)))))=pure cl ∧
   (∀ p∈cl,p∈acc∨env.cells.lookup p.1=some p.2)∧(∀ p∈acc,p∈cl)∧ ∀ p∈names,p.2= .free-> ∃ c,(p.1,c)∈cl
 | [],acc,_=>⟨acc,rfl,fun p h=> .inl h,fun p h=>h,fun p h=>nomatch h⟩
 | (n,k)::r,acc,h=>by
  by_cases hk:(k == NameKind.free)=true
  · obtain ⟨c,hc⟩:=h (n,k) List.mem_cons_self (by simpa using hk)
    obtain ⟨cl,e,h1,h2,h3⟩:=jc r ((n,c)::acc) fun p hp=>h p (List.mem_cons_of_mem _ hp)
    refine ⟨cl,?_,fun p hp=>?_,fun p hp=>h2 p (List.mem_cons_of_mem _ hp),fun p hp hf=>?_⟩
    · rw [List.forIn_cons]
      have z:cellOf env n=pure c:=by unfold cellOf;have hc':env.cells.lookup n=some c:=hc;rw [hc']
      simp only [hk,if_true,z]
      exact e
    · rcases h1 p hp with q | q
      · rcases List.mem_cons.mp q with q | q
        · exact .inr (by rw [q];exact hc)
        · exact .inl q
      · exact .inr q
    · rcases List.mem_cons.mp hp with q | q
      · exact ⟨c,by rw [q];exact h2 _ List.mem_cons_self⟩
      · exact h3 p q hf
  · obtain ⟨cl,e,h1,h2,h3⟩:=jc r acc fun p hp=>h p (List.mem_cons_of_mem _ hp)
    refine ⟨cl,?_,h1,h2,fun p hp hf=>?_⟩
    · rw [List.forIn_cons]
      simp only [if_neg hk]
      exact e
    · rcases List.mem_cons.mp hp with q | q
      · rw [q] at hf
        exact absurd (by simpa using hf) hk
      · exact h3 p q hf
theorem nH {env:Env} {scope:Scope} (h: ∀ p∈scope.names,p.2= .free-> ∃ c,env.cells.lookup p.1=some c) :
  ∃ cl,closureFor scope env=pure cl∧(∀ x c,cl.lookup x=some c->env.cells.lookup x=some c)∧ ∀ x,scope.names.lookup x=some .free-> ∃ c,cl.lookup x=some c:=by
 obtain ⟨cl,e,h1,_,h3⟩:=jc scope.names [] h
 refine ⟨cl,?_,fun x c q=>?_,fun x q=>?_⟩
 · unfold closureFor
   show (forIn scope.names ([]:List (Str × Addr)) _ >>= fun r=>pure r)=_
   erw [e]
   rfl
 · rcases h1 _ (lookup_mem q) with z | z
   · cases z
   · exact z
 · obtain ⟨c,q'⟩:=h3 _ (lookup_mem q) rfl
   exact fj q'
end L2
end
section
open PySem PySem.W PyProof.Rows
namespace L2
open PySem PySem.Spec PyProof.Rows
noncomputable def Dx (cs:List Expr) (v:Env):Sem Bool :=
 forIn cs true fun c r=>if r=true then (isTrue c v (eval c v) >>= fun ok=>pure (ForInStep.yield ok)) else pure (ForInStep.yield r)
noncomputable def uD (M:Model) (A:Around) (v:Env) (e:Expr) (acc:Value) (X:Value->Shared->Prop) (D:Shared->Prop):Bool->Shared->Prop:=fun ok u=>if ok=true then
  wpAny M A (eval e v) (fun x u1=>wpAny M A (call (.builtin "list.append") [acc,x]) (fun _ u2=>D u2) X u1) X u
 else D u
noncomputable def IA (M:Model) (A:Around) (v:Env) (tg e:Expr) (cs:List Expr) (it acc:Value) (X:Value->Shared->Prop) (D:Shared->Prop) (i:Value) (u:Shared):Prop :=
 wpAny M A (letOwnedTupleGo tg it i) (fun _ u1=>wpAny M A (assign tg v i) (fun _ u2=>wpAny M A (Dx cs v) (uD M A v e acc X D) X u2) X u1) X u
theorem mJ {prog:Program} {w:World} {A:Around} {R:Result->Shared->Prop} {s:Shared} {elt target iter:Expr} {ifs:List Expr} {scope:Scope} {pos:Pos} {it acc:Value} {env:Env} (I:Nat->Shared->Prop)
  (turn: ∀ k u,I k u->wpAny (model prog w) A (pyNext it) (fun r u1=>match r with
   | none=>R (.ok .next) u1
   | some i=>IA (model prog w) A env target elt ifs it acc (notedBy (model prog w) A env fun e s'=>R (.error e) s') (fun u2=> ∃ m,m < k∧I m u2) i u1) (notedBy (model prog w) A env fun e s'=>R (.error e) s') u)
  (n:Nat) (h:I n s):codeAny (model prog w) A (.compLoop (.ListComp elt [⟨target,iter,ifs,0⟩] scope pos) 0 it acc env) R s:=by
 refine codeAny_loop rfl I (fun k u hu=>wpAny_noted (m:=compTurn (.ListComp elt [⟨target,iter,ifs,0⟩] scope pos) 0 it acc env) ?_) n h
 rw [compTurn_list]
 refine wpAny_bind (wpAny_standAt (wpAny_bind (wpAny_mono (turn k u hu) (fun r u1 g=>?_) fun _ _ z=>z)))
 match r,g with
 | none,g=>exact wpAny_pure g
 | some i,g =>
  refine wpAny_bind (wpAny_mono g (fun _ _ g=>wpAny_bind (wpAny_mono g (fun _ _ g=>wpAny_bind (wpAny_mono g (fun ok u4 g=>?_) fun _ _ z=>z)) fun _ _ z=>z)) fun _ _ z=>z)
  match ok,g with
  | false,g=>exact wpAny_pure (And.intro rfl g)
  | true,g=>exact wpAny_bind (wpAny_bind (wpAny_mono g (fun _ _ g=>wpAny_bind (wpAny_mono g (fun _ _ g=>wpAny_pure (wpAny_pure (And.intro rfl g))) fun _ _ z=>z)) fun _ _ z=>z))
noncomputable def PF (X:Cx) (ifs:List Expr) (t:TT):Prop :=
 ∀ (pins:List (Addr × Obj)) (s:Shared) (σ :St) (H:Hp) (Q:Bool->Hp->Prop),Inv X pins σ H s->t σ H Q ->
  wpAny (model X.prog X.w) X.A (forIn ifs true fun c r=>if r=true then do let ok <- isTrue c X.env (eval c X.env);pure (ForInStep.yield ok) else pure (ForInStep.yield r)) (TP X pins σ Q) X.xe s
noncomputable def Ey:TT:=fun _ H Q=>Q true H
theorem EU {X:Cx}:PF X [] Ey:=fun _ _ σ H Q I h=>wpAny_tests_nil ⟨H,I,h⟩
theorem Ff {X:Cx} {c:Expr} {t:TT} (h:PT X c t):PF X [c] t:=fun pins s σ H Q I q=>wpAny_tests_one (h pins s σ H Q I q)
noncomputable def Mq (k:Nat) (wi:TI) (g:TG) (tt:TT) (te:TE):TE:=fun σ H Q=>wi σ H fun J H1=> ∃ W:Nat->Nat->List V->Hp->Prop,(∃ m,W 0 m [] H1)∧ ∀ i m ys H,W i m ys H ->
 (J.stop i H∧ ∀ p,H p=none->Q (.ref p) (upd H p (.lst ys))) ∨
 (J.go i H∧ys.length < sizeLine∧ ∀ x H',J.Jv i H x H'->g x (σ ++List.replicate k none) H' fun σ2 H2=>tt σ2 H2 fun b H3 =>
  if b=true then te σ2 H3 fun y H4=> ∃ m',m' < m∧W (i+1) m' (ys++[y]) H4 else ∃ m',m' < m∧W (i+1) m' ys H3)
section
variable {X:Cx} {pins:List (Addr × Obj)} {σ :St} {H:Hp} {s:Shared} {scope:Scope} {vars:List Str} {cl:List (Str × Addr)}
theorem gA (h:gO scope.names X.env.scope.names X.N vars=true): ∀ p∈scope.names,p.2≠ .cell∧(p.2= .free->X.env.kindOf p.1=some .cell∨X.env.kindOf p.1=some .free)∧(p.2= .local->scope.names.lookup p.1=some .local):=by
 intro p hp
 unfold gO at h
 simp only [Bool.and_eq_true,List.all_eq_true] at h
 obtain ⟨⟨h1,_⟩,_⟩:=h
 have q:=h1 p hp
 simp only [Bool.or_eq_true,bne_iff_ne,ne_eq,beq_iff_eq] at q
 obtain ⟨⟨q1,q2⟩,q3⟩:=q
 refine ⟨q1,fun e=>?_,fun e=>?_⟩
 · rcases q2 with z | z
   · exact absurd e z
   · exact z
 · rcases q3 with z | z
   · exact absurd e z
   · exact z
theorem Hq (h:gO scope.names X.env.scope.names X.N vars=true): ∀ n∈X.N,¬ n∈vars->scope.names.lookup n≠some .local:=by
 intro n hn hv
 unfold gO at h
 simp only [Bool.and_eq_true,List.all_eq_true] at h
 obtain ⟨⟨_,h2⟩,_⟩:=h
 have q:=h2 n hn
 simp only [Bool.or_eq_true,bne_iff_ne,ne_eq,List.contains_iff_mem] at q
 exact q.resolve_left hv
theorem wb (h:gO scope.names X.env.scope.names X.N vars=true): ∀ n∈vars,scope.names.lookup (mask n)=none:=by
 intro n hn
 unfold gO at h
 simp only [Bool.and_eq_true,List.all_eq_true] at h
 simpa using h.2 n hn
theorem Inv.eG {C:Addr} {h':Heap} {t':Nat} {m':Str->Option Value} {fp:List Addr} (I:Inv X pins σ H s) (hkind:scope.kind= .function) (hlc:gO scope.names X.env.scope.names X.N vars=true)
  (hc1: ∀ x c,cl.lookup x=some c->X.env.cells.lookup x=some c) (hc2: ∀ x,scope.names.lookup x=some .free-> ∃ c,cl.lookup x=some c)
  (hfp: ∀ b∈fp,lx X pins H b) (hfo: ∀ b∈fp,∃ o,s.heap.get? b=some o) (hC:s.heap.objs.size<=C) (hn:h'.Ns C m') (k: ∀ b o,s.heap.get? b=some o->h'.get? b=some o) :
  Inv (eG X vars scope cl C s H fp (X.pn++pins)) [] (σ ++List.replicate vars.length none) H { s with heap:=h',toks:=t' }:=by
 have hHC:H C=none:=I.bz.fresh hC
 have cellOf: ∀ x c,cl.lookup x=some c->c < s.heap.objs.size:=fun x c e=>by
  obtain ⟨v,q⟩:=I.cell x c (hc1 x c e)
  exact q.lt
 refine ⟨?ok,rfl,I.bare,Un.kept k,⟨m',hn,?loc⟩,fun x c e=>?cell,hHC,fun x c e=>I.ie x c (hc1 x c e),?pin,I.bz.kept k,?len⟩
 case ok =>
  refine { mod:=I.ok.mod,kind:=?_,glob:=I.ok.glob,blt:=I.ok.blt,above:=hC,inj:=?_,has:=?_,Ju:=(fun _ _ e=>by cases e),hd:=I.ok.hd,frames:=I.ok.frames,Jw:= .inl rfl,M4:=?_,bs:=I.bs,Bc:=Nat.le_trans I.ok.Bc I.sz,wj:=?_,AM:=?_,j9:=I.stack,EO:=I.vJ }
  · exact hkind
  · exact fun x y c e1 e2=>I.ok.inj x y c (hc1 x c e1) (hc1 y c e2)
  · intro x hx
    have hx':(compEnvC scope cl C X.env).kindOf x=some .cell∨(compEnvC scope cl C X.env).kindOf x=some .free:=hx
    have e:(compEnvC scope cl C X.env).kindOf x=(scope.names.lookup x).map fun k=>if (k == NameKind.free&&X.env.scope.kind == .function&&X.env.kindOf x == some .cell) then NameKind.cell else k:=hI
    rw [e] at hx'
    cases q:scope.names.lookup x with
    | none=>rw [q] at hx';simp at hx'
    | some kd =>
     have hm:=gA (X:=X) hlc _ (lookup_mem q)
     by_cases hf:kd= .free
     · subst hf;exact hc2 x q
     · rw [q] at hx'
       have hf':(kd == NameKind.free)=false:=by simpa using hf
       simp only [Option.map_some,hf',Bool.false_and,Bool.false_eq_true,if_false,Option.some.injEq] at hx'
       rcases hx' with z | z
       · exact absurd z hm.1
       · exact absurd z hf
  · intro b hb
    have f:=hfp b hb
    obtain ⟨o,e⟩:=hfo b hb
    exact ⟨Nat.ne_of_lt (Nat.lt_of_lt_of_le (Heap.lt_size e) hC),fun x c e=>f.2.2.2.2.1 x c (hc1 x c e)⟩
  · intro b o e hb
    have f:=hfp b hb
    rcases f.2.2.2.1 with z | z
    · exact I.ok.wj b o e z
    · exact absurd (Nat.lt_of_lt_of_le (Heap.lt_size (I.ok.bs b o e).1) z) (Nat.lt_irrefl _)
  · intro b hb z
    have f:=hfp b hb
    rcases List.mem_cons.mp (I.ke b z) with q | q
    · exact f.2.1 q
    · exact f.2.2.1 q
 case loc =>
  intro i x v e1 e2 e3
  have e1':(oa X.N vars)[i]?=some x:=e1
  have e:(compEnvC scope cl C X.env).scope.names.lookup x=(scope.names.lookup x).map fun k=>if (k == NameKind.free&&X.env.scope.kind == .function&&X.env.kindOf x == some .cell) then NameKind.cell else k:=hI
  by_cases hi:i < σ.length
  · rw [List.getElem?_append_left hi] at e2
    unfold oa at e1'
    rw [List.getElem?_append_left (by rw [List.length_map,<- I.len];exact hi),List.getElem?_map] at e1'
    cases q:X.N[i]? with
    | none=>rw [q] at e1';cases e1'
    | some n =>
     rw [q] at e1'
     have e1'':(if vars.contains n=true then mask n else n)=x:=Option.some.inj e1'
     have vis:(scope.names.lookup x).isSome=true:=by
      unfold HH at e3
      have e3':(compEnvC scope cl C X.env).scope.names.lookup x=some .local∨(compEnvC scope cl C X.env).scope.names.lookup x=some .cell∨(compEnvC scope cl C X.env).scope.names.lookup x=some .free:=e3
      rw [e] at e3'
      cases z:scope.names.lookup x with
      | none=>rw [z] at e3';simp at e3'
      | some _=>rfl
     by_cases hv:n∈vars
     · rw [if_pos (by simpa using hv)] at e1''
       have:=wb (X:=X) hlc n hv
       rw [e1''] at this
       rw [this] at vis;cases vis
     · rw [if_neg (by simpa using hv)] at e1''
       subst e1''
       have nl:=Hq (X:=X) hlc n (List.mem_of_getElem? q) hv
       cases z:scope.names.lookup n with
       | none=>rw [z] at vis;cases vis
       | some kd =>
        have hm:=gA (X:=X) hlc _ (lookup_mem z)
        have hkd:kd= .free:=by
         unfold HH at e3
         have e3':(compEnvC scope cl C X.env).scope.names.lookup n=some .local∨(compEnvC scope cl C X.env).scope.names.lookup n=some .cell∨(compEnvC scope cl C X.env).scope.names.lookup n=some .free:=e3
         rw [e,z] at e3'
         by_cases hf:kd= .free
         · exact hf
         · have hf':(kd == NameKind.free)=false:=by simpa using hf
           simp only [Option.map_some,hf',Bool.false_and,Bool.false_eq_true,if_false,Option.some.injEq] at e3'
           rcases e3' with y | y | y
           · rw [y] at z;exact absurd z nl
           · exact absurd y hm.1
           · exact y
        subst hkd
        have kk:=hm.2.1 rfl
        obtain ⟨m,_,hl⟩:=I.loc
        obtain ⟨u,r,look⟩:=hl i n v q e2 (.inr kk)
        obtain ⟨c,hcl⟩:=hc2 n z
        have look': ∃ c,X.env.cells.lookup n=some c∧s.heap.IsCell c (some u):=by
         rcases look with ⟨y,_⟩ | ⟨_,y⟩
         · rcases kk with w | w<;>(rw [w] at y;cases y)
         · exact y
        obtain ⟨c',hc',⟨o,ho,hd⟩⟩:=look'
        have ec:c=c':=Option.some.inj ((hc1 n c hcl).symm.trans hc')
        subst ec
        refine ⟨u,r,.inr ⟨?_,c,hcl,o,k c o ho,hd⟩⟩
        show (compEnvC scope cl C X.env).scope.names.lookup n=some .cell∨(compEnvC scope cl C X.env).scope.names.lookup n=some .free
        rw [e,z]
        simp only [Option.map_some]
        split
        · exact .inl rfl
        · exact .inr rfl
  · rw [List.getElem?_append_right (Nat.not_lt.mp hi),List.getElem?_replicate] at e2
    split at e2<;>cases e2
 case cell =>
  obtain ⟨v,o,ho,hd⟩:=I.cell x c (hc1 x c e)
  exact ⟨v,o,k c o ho,hd⟩
 case pin =>
  intro p hp
  have hp':p∈X.pn++pins:=by simpa [L2.eG] using hp
  obtain ⟨e,n,ne,nf,d⟩:=I.pin p hp'
  refine ⟨k _ _ e,n,Nat.ne_of_lt (Nat.lt_of_lt_of_le (Heap.lt_size e) hC),fun z=>?_,d⟩
  rcases List.mem_cons.mp (I.ke p.1 z) with q | q
  · exact ne q
  · exact nf q
 case len =>
  show (σ ++List.replicate vars.length none).length=(oa X.N vars).length
  unfold oa
  rw [List.length_append,List.length_append,List.length_map,List.length_replicate,I.len]
end
end L2
end
section
open PySem PySem.W PyProof.Rows
namespace L2
open PySem PySem.Spec PyProof.Rows
noncomputable def GK (n:Nat) (g:TG):Prop:= ∀ x σ H Q,g x σ H Q->g x σ H fun σ2 H2=>Q σ2 H2∧ ∀ j,j < n-> σ2[j]?= σ[j]?
noncomputable def Lx (n:Nat) (g:oV):Prop:= ∀ xs σ H Q,g xs σ H Q->g xs σ H fun σ2 H2=>Q σ2 H2∧ ∀ j,j < n-> σ2[j]?= σ[j]?
noncomputable def ue (g:TG):Prop:= ∀ x σ H Q Q',(∀ σ2 H2,Q σ2 H2->Q' σ2 H2)->g x σ H Q->g x σ H Q'
theorem Cv {n i:Nat} (h:n<=i):GK n (fq i):=fun x σ H Q q=>⟨q,fun j hj=>List.getElem?_set_ne (by omega)⟩
theorem tT {i:Nat}:ue (fq i):=fun x σ H Q Q' f q=>f _ _ q
theorem Gm {n:Nat}:Lx n wA:=fun xs σ H Q q=>⟨q.1,q.2,fun _ _=>rfl⟩
theorem Ed {n:Nat} {g:TG} {gs:oV} (h:GK n g) (hm:ue g) (hs:Lx n gs):Lx n (kP g gs):=fun xs σ H Q q=>by
 obtain ⟨v,r,e,z⟩:=q
 refine ⟨v,r,e,hm _ _ _ _ _ (fun σ2 H2 y=>?_) (h _ _ _ _ z)⟩
 have y':=hs _ _ _ _ y.1
 have:(fun σ3 H3=>(Q σ3 H3∧ ∀ j,j < n-> σ3[j]?= σ2[j]?))=fun σ3 H3=>(Q σ3 H3∧ ∀ j,j < n-> σ3[j]?= σ[j]?):=by
  funext σ3 H3
  exact propext ⟨fun w=>⟨w.1,fun j hj=>(w.2 j hj).trans (y.2 j hj)⟩,fun w=>⟨w.1,fun j hj=>(w.2 j hj).trans (y.2 j hj).symm⟩⟩
 rw [this] at y'
 exact y'
theorem FJ {K:PySem.W.Frag} {n m:Nat} {gs:oV} (hs:Lx n gs):GK n (sZ K m gs):=fun x σ H Q q=>by
 obtain ⟨a,xs,e,h1,h2,h3⟩:=q
 exact ⟨a,xs,e,h1,h2,hs _ _ _ _ h3⟩
section
variable {X:Cx} {scope:Scope} {vars:List Str} {elt tg iter:Expr} {ifs:List Expr} {pos:Pos} {wi:TI} {g:TG} {tt:TT} {te:TE}
theorem mG {pins:List (Addr × Obj)} {σ :St} {H2:Hp} {s2:Shared} {cl:List (Str × Addr)} {it:Addr} {fp:List Addr} {tn:Nat->Heap->Prop} {J:It} {RR:Value->Addr->Result->Shared->Prop} {Q:VK} {E:Value->Shared->Prop}
  (hc:X.calm=true) (hx: ∀ v s,¬ X.xe v s) (hkind:scope.kind= .function) (hlc:gO scope.names X.env.scope.names X.N vars=true)
  (hb: ∀ cl C s₀ H₀ ex pn,PG (eG X vars scope cl C s₀ H₀ ex pn) tg g∧PF (eG X vars scope cl C s₀ H₀ ex pn) ifs tt∧PE (eG X vars scope cl C s₀ H₀ ex pn) elt te) (hgk:GK X.N.length g)
  (hc1: ∀ x c,cl.lookup x=some c->X.env.cells.lookup x=some c) (hc2: ∀ x,scope.names.lookup x=some .free-> ∃ c,cl.lookup x=some c)
  (I2:Inv X pins σ H2 s2) (T:Turn X.prog X.w X.K tg J fp it tn) (st2:tn 0 s2.heap) (f2: ∀ b∈fp,lx X pins H2 b)
  {W:Nat->Nat->List V->Hp->Prop} {m0:Nat} (w0:W 0 m0 [] H2)
  (turn: ∀ i m ys H,W i m ys H->(J.stop i H∧ ∀ p,H p=none->Q (.ref p) (upd H p (.lst ys))) ∨
   (J.go i H∧ys.length < sizeLine∧ ∀ x H',J.Jv i H x H'->g x (σ ++List.replicate vars.length none) H' fun σ2 H2=>tt σ2 H2 fun b H3 =>
    if b=true then te σ2 H3 fun y H4=> ∃ m',m' < m∧W (i+1) m' (ys++[y]) H4 else ∃ m',m' < m∧W (i+1) m' ys H3))
  (hRR: ∀ D C s4 H4 ys m,Inv X pins σ (upd H4 D (.lst ys)) s4->s4.heap.Ns C m->H4 D=none->(upd H4 D (.lst ys)) C=none->C≠X.env.locals->X.s₀.heap.objs.size<=C->(∀ x c,X.env.cells.lookup x=some c->c≠C)->(∀ p∈X.pn++pins,p.1≠C) ->
   Q (.ref D) (upd H4 D (.lst ys))->RR (.ref D) C (.ok .next) s4) :
  wpAny (model X.prog X.w) X.A (newList []) (fun acc s₃ =>wpAny (model X.prog X.w) X.A (newFunctionEnv scope X.env.globals cl [] X.env.qual none .none (some X.env)) (fun cenv s₄ =>
   codeAny (model X.prog X.w) X.A (.compStart (.ListComp elt [⟨tg,iter,ifs,0⟩] scope pos) 0 (.ref it) acc { cenv with scope:=relabel scope X.env }) (RR acc cenv.locals) s₄) E s₃) E s2:=by
 have hcell: ∀ y∈scope.names,y.2≠ .cell:=fun y hy=>(gA (X:=X) hlc y hy).1
 refine wpAny_newObj_type (wpAny_newFunctionEnv hcell (fun y hy=>absurd hy (by simp)) (fun h₁ hns₁ hsb₁ =>?_) hkind)
 dsimp only at hns₁ hsb₁ ⊢
 generalize hH2:s2.heap.push { cls:= .type "list",dict:=none,data:= .seq ([]:List Value).toArray }=P2 at hns₁ hsb₁ ⊢
 have hC:P2.objs.size=s2.heap.objs.size+1:=by rw [<- hH2,Heap.size_push]
 have hDC:s2.heap.objs.size≠P2.objs.size:=by rw [hC];exact Nat.ne_of_lt (Nat.lt_succ_self _)
 have hCle:s2.heap.objs.size<=P2.objs.size:=by rw [hC];exact Nat.le_succ _
 have below: ∀ b,b < s2.heap.objs.size->b≠P2.objs.size∧b≠s2.heap.objs.size:=fun b hb=>⟨by rw [hC];exact Nat.ne_of_lt (Nat.lt_succ_of_lt hb),Nat.ne_of_lt hb⟩
 have old: ∀ b o,s2.heap.get? b=some o->h₁.get? b=some o:=fun b o e=>hsb₁.extBut b o (below b (Heap.lt_size e)).1 (Heap.get?_push_of_some _ (hH2 ▸ Heap.get?_push_of_some _ e))
 have hacc:h₁.get? s2.heap.objs.size=some { cls:= .type "list",data:= .seq ([]:List Value).toArray 0 }:=hsb₁.extBut _ _ hDC (Heap.get?_push_of_some _ (hH2 ▸ Heap.get?_push_size _ rfl))
 generalize hDe:s2.heap.objs.size=D at *
 generalize hCe:P2.objs.size=C at *
 have fo: ∀ b∈fp,∃ o,s2.heap.get? b=some o:=fun b hb=>let ⟨o,e,_⟩:=T.obj _ _ st2 b hb;⟨o,e⟩
 have fpD: ∀ b∈fp,b < D:=fun b hb=>by obtain ⟨o,e⟩:=fo b hb;rw [<- hDe];exact Heap.lt_size e
 have pnlt: ∀ p∈X.pn++pins,p.1 < D:=fun p hp=>by rw [<- hDe];exact Heap.lt_size (I2.pin p hp).1
 have cllt: ∀ x c,X.env.cells.lookup x=some c->c < D:=fun x c e=>by obtain ⟨v,q⟩:=I2.cell x c e;rw [<- hDe];exact q.lt
 have hLD:X.env.locals < D:=by rw [<- hDe];exact I2.lt
 have hD0:X.s₀.heap.objs.size<=D:=by rw [<- hDe];exact I2.sz
 have IY0:Inv (eG X vars scope cl C s2 H2 fp (X.pn++pins)) [] (σ ++List.replicate vars.length none) H2 { s2 with heap:=h₁,toks:=s2.toks+([]:List (Str × Value)).length } :=
  I2.eG hkind hlc hc1 hc2 f2 fo (by rw [hDe];exact hCle) hns₁ old
 have st1:tn 0 h₁ :=T.keep _ _ _ st2 fun b _ o e=>old b o e
 obtain ⟨hg,hf,he⟩:=hb cl C s2 H2 fp (X.pn++pins)
 generalize hY:eG X vars scope cl C s2 H2 fp (X.pn++pins)=Y at *
 have Yprog:Y.prog=X.prog:=by rw [<- hY];rfl
 have Yw:Y.w=X.w:=by rw [<- hY];rfl
 have YK:Y.K=X.K:=by rw [<- hY];rfl
 have YA:Y.A=X.A:=by rw [<- hY];rfl
 have Ycalm:Y.calm=true:=by rw [<- hY];exact hc
 have Yenv:Y.env=compEnvC scope cl C X.env:=by rw [<- hY];rfl
 have Yloc:Y.env.locals=C:=by rw [Yenv];rfl
 have Yex:Y.ex=fp:=by rw [<- hY];rfl
 have Yfs:Y.fs=xH X.stack:=by rw [<- hY];rfl
 have Ys0:Y.s₀ =s2:=by rw [<- hY];rfl
 have YH0:Y.H₀ =H2:=by rw [<- hY];rfl
 have Ypn:Y.pn=X.pn++pins:=by rw [<- hY];rfl
 have YN:Y.N=oa X.N vars:=by rw [<- hY];rfl
 have Yxe: ∀ v s,¬ Y.xe v s:=by rw [<- hY];exact hx
 have noE: ∀ {E':Value->Shared->Prop} {v:Value} {s:Shared},Y.xe v s->E' v s:=fun h=>absurd h (Yxe _ _)
 have Ycell: ∀ x c,Y.env.cells.lookup x=some c->c < D:=fun x c e=>by rw [Yenv] at e;exact cllt x c (hc1 x c e)
 have fpY: ∀ {H':Hp} {pl:List (Addr × Obj)},(∀ b∈fp,H' b=none)->(∀ p∈pl,D<=p.1)-> ∀ b∈fp,lx Y pl H' b:=fun {H' pl} hn hp b hb=>by
  refine ⟨hn b hb,?_,?_,.inl (by rw [Yex];exact hb),?_,?_⟩
  · rw [Yloc];exact Nat.ne_of_lt (Nat.lt_of_lt_of_le (fpD b hb) hCle)
  · rw [Yfs];intro z
    rcases List.mem_cons.mp (I2.ke b z) with q | q
    · exact (f2 b hb).2.1 q
    · exact (f2 b hb).2.2.1 q
  · intro x c e z
    rw [Yenv] at e
    exact (f2 b hb).2.2.2.2.1 x c (hc1 x c e) z
  · intro p hp'
    rcases List.mem_append.mp hp' with q | q
    · rw [Ypn] at q;exact (f2 b hb).2.2.2.2.2 p q
    · intro z
      have:=hp p q
      rw [z] at this
      exact absurd (Nat.lt_of_lt_of_le (fpD b hb) this) (Nat.lt_irrefl _)
 have Dfs:D ∉ Y.fs:=by
  rw [Yfs];intro z
  rcases List.mem_cons.mp (I2.ke D z) with q | q
  · exact absurd hLD (by rw [q];exact Nat.lt_irrefl _)
  · exact I2.LR (by rw [hDe];exact Nat.le_refl _) q
 have loop:codeAny (model X.prog X.w) X.A (.compLoop (.ListComp elt [⟨tg,iter,ifs,0⟩] scope pos) 0 (.ref it) (.ref D) (compEnvC scope cl C X.env)) (RR (.ref D) C) { s2 with heap:=h₁,toks:=s2.toks+([]:List (Str × Value)).length }:=by
  refine mJ (fun n s'=> ∃ i ys H' aw k,Inv Y [(D,{ cls:= .type "list",data:= .seq aw k })] (σ ++List.replicate vars.length none) H' s'∧tn i s'.heap∧(∀ b∈fp,H' b=none)∧W i n ys H'∧Vals ys aw.toList∧ys.length<=sizeLine) ?_ m0
   ⟨0,[],H2,_,0,IY0.iy (fun p hp=>?_),st1,fun b hb=>(f2 b hb).1,w0,.nil,Nat.zero_le _⟩
  · rintro n s3 ⟨i,ys,H3,aw,k,I3,st3,fr3,w3,hv,hlen⟩
    rcases turn i n ys H3 w3 with ⟨stop,q⟩ | ⟨go,hlt,step⟩
    · have d:=T.done Y Yprog Yw YK Ycalm i _ s3 _ H3 (notedBy (model X.prog X.w) X.A (compEnvC scope cl C X.env) fun e s'=>RR (.ref D) C (.error e) s') I3 (fpY fr3 (by intro p hp;rw [List.mem_singleton.mp hp];exact Nat.le_refl _)) st3 stop
      rw [YA] at d
      refine wpAny_mono d (fun r s4 hr=>?_) fun _ _ z=>z
      obtain ⟨rfl,I4⟩:=hr
      obtain ⟨eD,nD,_,_,_⟩:=I4.pin (D,_) (List.mem_append_right _ List.mem_cons_self)
      dsimp only at eD nD
      obtain ⟨m,hnC,_⟩:=I4.loc
      rw [Yloc] at hnC
      have hb4:=I4.base
      rw [Yfs,Yex,YH0,Ys0] at hb4
      have hok4:=I4.bz
      rw [Yprog,Yw] at hok4
      have hCf:=I4.free
      rw [Yloc] at hCf
      have neD: ∀ b o,s2.heap.get? b=some o->b≠D:=fun b o e=>by rw [<- hDe];exact Nat.ne_of_lt (Heap.lt_size e)
      have IX:Inv X pins σ (upd H3 D (.lst ys)) s4:=by
       refine I2.JU (ch:=fp) (I4.os.trans (by rw [Ys0])) ⟨hb4.keep,hb4.slot,fun b o e n hx'=>?_,hb4.there,fun b xs e=>?_,fun b o u e=>?_,fun b ps e=>?_⟩ (fun b u e=>?_) I4.bare (fun b hb'=>?_)
       · rw [aE (neD b o e)];exact hb4.free b o e n hx'
       · rw [aE (aF (hb4.kg b xs e) nD)];exact hb4.kg b xs e
       · rw [aE (aF (hb4.jS b o u e) nD)];exact hb4.jS b o u e
       · obtain ⟨more,e'⟩:=hb4.ll b ps e
         exact ⟨more,by rw [aE (aF e' nD)];exact e'⟩
       · by_cases hbD:b=D
         · subst hbD
           rw [aY] at e;cases e
           exact ⟨hlen,aw.toList,k,hv,by simpa using eD⟩
         · rw [aE hbD] at e
           exact (hok4 b u e).pV (fun c v _ z=>z) (fun c z=>by rw [aE (aF z nD)];exact z) fun c xs z=>by rw [aE (aF z nD)];exact z
       · have f:=f2 b hb'
         exact ⟨f.2.2.2.1,f.2.1,f.2.2.2.2.1,f.2.2.2.2.2⟩
      refine hRR D C s4 H3 ys m IX hnC nD (by rw [aE (Ne.symm hDC)];exact hCf) (Nat.ne_of_gt (Nat.lt_of_lt_of_le hLD hCle)) (Nat.le_trans hD0 hCle) (fun x c e=>Nat.ne_of_lt (Nat.lt_of_lt_of_le (cllt x c e) hCle)) (fun p hp=>Nat.ne_of_lt (Nat.lt_of_lt_of_le (pnlt p hp) hCle)) (q D nD)
    · have d:=T.item Y Yprog Yw YK Ycalm i _ s3 _ H3 (notedBy (model X.prog X.w) X.A (compEnvC scope cl C X.env) fun e s'=>RR (.ref D) C (.error e) s') I3 (fpY fr3 (by intro p hp;rw [List.mem_singleton.mp hp];exact Nat.le_refl _)) st3 go
      rw [YA] at d
      refine wpAny_mono d (fun r s4 hr=>?_) fun _ _ z=>z
      obtain ⟨u,rfl,h4⟩:=hr
      refine wpAny_mono h4 (fun _ s5 h5=>?_) fun _ _ z=>z
      obtain ⟨x,H5,I5,r5,y5,st5,fr5⟩:=h5
      have I5':=I5.pinned (fpY fr5 (by intro p hp;rw [List.mem_singleton.mp hp];exact Nat.le_refl _)) (T.obj _ _ st5)
      have a1:=hg _ s5 _ H5 x u _ I5' r5 (hgk _ _ _ _ (step x H5 y5))
      rw [Yprog,Yw,YA,Yenv] at a1
      refine wpAny_mono a1 (fun _ s6 h6=>?_) fun _ _ z=>noE z
      obtain ⟨σ6,H6,I6,q6,k6⟩:=h6
      have a2:=hf _ s6 σ6 H6 _ I6 q6
      rw [Yprog,Yw,YA,Yenv] at a2
      have back: ∀ {pl:List (Addr × Obj)} {H':Hp} {s':Shared},Inv Y pl σ6 H' s'->Inv Y pl (σ ++List.replicate vars.length none) H' s':=fun {pl H' s'} I'=>by
       refine I'.weak ?_ fun j v e=>?_
       · rw [I'.len,<- I3.len]
       · by_cases hj:j < σ.length
         · rw [k6 j (by rw [<- I2.len];exact hj)];exact e
         · rw [List.getElem?_append_right (Nat.not_lt.mp hj),List.getElem?_replicate] at e
           split at e<;>cases e
      refine wpAny_mono a2 (fun ok s7 h7=>?_) fun _ _ z=>noE z
      obtain ⟨H7,I7,q7⟩:=h7
      cases ok with
      | false =>
       rw [if_neg Bool.false_ne_true] at q7
       unfold uD
       rw [if_neg (show ¬ false=true from Bool.false_ne_true)]
       obtain ⟨m',hm',w7⟩:=q7
       refine ⟨m',hm',i+1,ys,H7,aw,k,(back I7).iy (fun p hp=>I7.pin p (List.mem_append_right _ (List.mem_append_left _ hp))),T.keep _ _ _ st5 fun b hb' o e=>(I7.pin (b,o) (List.mem_append_right _ (List.mem_append_right _ (dQ hb' e)))).1,fun b hb'=>?_,w7,hv,hlen⟩
       obtain ⟨o,e,_⟩:=T.obj _ _ st5 b hb'
       exact (I7.pin (b,o) (List.mem_append_right _ (List.mem_append_right _ (dQ hb' e)))).2.1
      | true =>
       rw [if_pos rfl] at q7
       unfold uD
       rw [if_pos (show true=true from rfl)]
       have a3:=he _ s7 σ6 H7 _ I7 q7
       rw [Yprog,Yw,YA,Yenv] at a3
       refine wpAny_mono a3 (fun y s8 h8=>?_) fun _ _ z=>noE z
       obtain ⟨v,H8,I8,r8,m',hm',w8⟩:=h8
       obtain ⟨eD,nD,neL,nfD,dD⟩:=I8.pin (D,_) (List.mem_append_right _ (List.mem_append_left _ List.mem_cons_self))
       dsimp only at eD nD neL nfD dD
       refine append_at (hsz:=by have:=hv.length;simp at this;omega) eD fun h9 hs9 e9=>?_
       have st8:tn (i+1) s8.heap:=T.keep _ _ _ st5 fun b hb' o e=>(I8.pin (b,o) (List.mem_append_right _ (List.mem_append_right _ (dQ hb' e)))).1
       have fr8: ∀ b∈fp,H8 b=none:=fun b hb'=>by
        obtain ⟨o,e,_⟩:=T.obj _ _ st5 b hb'
        exact (I8.pin (b,o) (List.mem_append_right _ (List.mem_append_right _ (dQ hb' e)))).2.1
       have I8':Inv Y [] (σ ++List.replicate vars.length none) H8 s8:=(back I8).iy fun p hp=>nomatch hp
       have I9:=I8'.turned (it:=D) (h':=h9) (t':=s8.toks) (fun b o hb' e=>hs9.extBut b o hb' e) nD neL (.inr (by rw [Ys0,hDe];exact Nat.le_refl _)) (fun x c e=>Nat.ne_of_lt (Ycell x c e)) (fun p hp=>by
        rw [List.append_nil,Ypn] at hp
        exact Nat.ne_of_lt (pnlt p hp))
       refine ⟨m',hm',i+1,ys++[v],H8,aw.push y,k+1,I9.iy (fun p hp=>?_),T.keep _ _ _ st8 fun b hb' o e=>hs9.extBut b o (Nat.ne_of_lt (fpD b hb')) e,fr8,w8,?_,?_⟩
       · obtain rfl:=List.mem_singleton.mp hp
         exact ⟨e9,nD,neL,nfD,fun v=>by simp⟩
       · rw [Array.toList_push]
         exact Vals.append hv (.cons r8 .nil)
       · rw [List.length_append,List.length_singleton];exact hlt
  · obtain rfl:=List.mem_singleton.mp hp
    refine ⟨hacc,I2.bz.fresh (by rw [hDe];exact Nat.le_refl _),?_,Dfs,fun v=>by simp⟩
    rw [Yloc];exact hDC
 exact codeAny_compStart_list loop (T.self _ 0 _ _ _ st1 loop)
end
end L2
end
section
open PySem PySem.W PyProof.Rows
namespace L2
open PySem PySem.Spec PyProof.Rows
section
variable {X:Cx} {scope:Scope} {vars:List Str} {elt tg iter:Expr} {ifs:List Expr} {pos spos py:Pos} {wi:TI} {g:TG} {tt:TT} {te:TE} {i:Nat} {y:Str}
theorem yI (vars:List Str) (hc:X.calm=true) (hx: ∀ v s,¬ X.xe v s) (hkind:scope.kind= .function) (hlc:gO scope.names X.env.scope.names X.N vars=true) (hi:PI X tg iter wi)
  (hb: ∀ cl C s₀ H₀ ex pn,PG (eG X vars scope cl C s₀ H₀ ex pn) tg g∧PF (eG X vars scope cl C s₀ H₀ ex pn) ifs tt∧PE (eG X vars scope cl C s₀ H₀ ex pn) elt te) (hgk:GK X.N.length g)
  (hs: ∀ x,foldedSetIterable iter X.env x=pure x:=by intro _;rfl):PE X (.ListComp elt [⟨tg,iter,ifs,0⟩] scope pos) (Mq vars.length wi g tt te):=by
 intro pins s σ H Q I h
 obtain ⟨cl,hcl,hc1,hc2⟩:=nH (env:=X.env) (scope:=scope) fun p hp hf=>I.ok.has p.1 ((gA (X:=X) hlc p hp).2.1 hf)
 rw [eval_ListComp]
 refine wpAny_comprehension_free (use:=none) rfl hs hcl hkind (fun p hp=>(gA (X:=X) hlc p hp).2.2) ?_
 refine wpAny_mono (hi pins s σ H _ I h) (fun v s1 h1=>wpAny_mono h1 (fun itv s2 h2=>?_) fun _ _ z=>z) fun _ _ z=>z
 obtain ⟨it,fp,tn,J,H2,rfl,I2,T,st2,f2,W,⟨m0,w0⟩,turn⟩:=h2
 refine mG (Q:=Q) (RR:=fun acc C=>compPost (model X.prog X.w) X.A X.xe none (EP X pins σ Q) acc C) hc hx hkind hlc hb hgk hc1 hc2 I2 T st2 f2 w0 turn ?_
 intro D C s4 H4 ys m I4 hn nD nC neL hsz hcell hpin q
 refine ⟨m,hn,fun h' hs'=>⟨.ref D,_,I4.turned (it:=C) (t':=s4.toks) (fun b o hb e=>hs'.extBut b o hb e) nC neL (.inr hsz) hcell hpin,rfl,q⟩⟩
noncomputable def zA (k i:Nat) (wi:TI) (g:TG) (tt:TT) (te:TE):TS:=fun D σ H=>Mq k wi g tt te σ H fun v H1=>D.nx (σ.set i (some v)) H1
theorem Au (vars:List Str) (i:Nat) (hc:X.calm=true) (hx: ∀ v s,¬ X.xe v s) (hkind:scope.kind= .function) (hlc:gO scope.names X.env.scope.names X.N vars=true) (hN:X.N.Nodup) (hiy:X.N[i]?=some y) (hy:Loc X.env.scope y)
  (hi:PI X tg iter wi)
  (hb: ∀ cl C s₀ H₀ ex pn,PG (eG X vars scope cl C s₀ H₀ ex pn) tg g∧PF (eG X vars scope cl C s₀ H₀ ex pn) ifs tt∧PE (eG X vars scope cl C s₀ H₀ ex pn) elt te) (hgk:GK X.N.length g)
  (hsw:swapsWith (.ListComp elt [⟨tg,iter,ifs,0⟩] scope pos) (some (.Name y py)) spos.line X.env=pure true:=by rfl)
  (hs: ∀ x,foldedSetIterable iter X.env x=pure x:=by intro _;rfl)
  (hf:X.fn y=true∨X.env.scope.names.lookup y=some .local:=by first | exact .inl rfl | exact .inr rfl | assumption) :
  PS X (.Assign [.Name y py] (.ListComp elt [⟨tg,iter,ifs,0⟩] scope pos) spos) (zA vars.length i wi g tt te):=by
 intro pins s σ H Dn I h
 obtain ⟨cl,hcl,hc1,hc2⟩:=nH (env:=X.env) (scope:=scope) fun p hp hf=>I.ok.has p.1 ((gA (X:=X) hlc p hp).2.1 hf)
 rw [exec_Assign_Name_used _ _ _ _ hsw];refine wpAny_bind (wpAny_standAt (wpAny_bind ?_))
 show wpAny _ X.A (do let _ <- comprehension (.ListComp elt [⟨tg,iter,ifs,0⟩] scope pos) scope X.env _ (newList []) false (eval iter X.env) (some (assign (.Name y py) X.env))) _ _ s
 refine wpAny_bind (wpAny_mono (wpAny_comprehension_free (use:=some (assign (.Name y py) X.env)) (Q:=fun _ s'=>SP X pins Dn .next s') rfl hs hcl hkind (fun p hp=>(gA (X:=X) hlc p hp).2.2) ?_) (fun _ s' hq=>wpAny_pure (wpAny_pure hq)) fun _ _ e=>e)
 refine wpAny_mono (hi pins s σ H _ I h) (fun v s1 h1=>wpAny_mono h1 (fun itv s2 h2=>?_) fun _ _ z=>z) fun _ _ z=>z
 obtain ⟨it,fp,tn,J,H2,rfl,I2,T,st2,f2,W,⟨m0,w0⟩,turn⟩:=h2
 refine mG (Q:=fun v H1=>Dn.nx (σ.set i (some v)) H1) (RR:=fun acc C=>compPost (model X.prog X.w) X.A X.xe (some (assign (.Name y py) X.env)) (fun _ s'=>SP X pins Dn .next s') acc C) hc hx hkind hlc hb hgk hc1 hc2 I2 T st2 f2 w0 turn ?_
 intro D C s4 H4 ys m I4 hn nD nC neL hsz hcell hpin q
 show wpAny _ X.A (assign (.Name y py) X.env (.ref D)) _ _ s4
 refine wpAny_assign_Name (pD I4 hN hiy hy (v:= .ref D) rfl (fun s5 I5 ⟨a,hsb,ha⟩=>?_) hf)
 have hCa:C≠a:=by
  rcases ha with z | z
  · rw [z];exact neL
  · exact Ne.symm (hcell _ _ z)
 refine ⟨m,hn.sameBut hsb hCa,fun h' hs'=>?_⟩
 exact ⟨_,_,I5.turned (it:=C) (t':=s5.toks) (fun b o hb e=>hs'.extBut b o hb e) nC neL (.inr hsz) hcell hpin,q⟩
end
end L2
end
section
open PySem PySem.W PyProof.Rows
namespace L2
open PySem PySem.Spec PyProof.Rows
theorem rR {X:Cx}:aW X (.builtin "isinstance") (fun xs H Q=> ∃ x T t b,xs=[x,.ty T]∧iR X.K H x t∧PySem.W.kitOne X.K t (.type T)=some b∧Q (.bl b) H):=by
 intro pins s σ H xs us Q I r h
 obtain ⟨x,T,t,b,rfl,ty,k,q⟩:=h
 obtain ⟨u,c,rfl,ru,rc⟩:=vals2 r
 cases (show c=Value.type T from rc)
 exact wV I ru ty k fun tk=>⟨.bl b,H,I.tok tk,rfl,q⟩
theorem a9.get {P:Program} {w:World} {H:Hp} {h:Heap} {a:Addr} {o:HO} (x:a9 P w H h a o): ∃ ob,h.get? a=some ob:=by
 induction o with
 | lst xs=>obtain ⟨_,aw,n,_,e⟩:=x;exact ⟨_,e⟩
 | tup xs=>obtain ⟨_,aw,_,ob,e,_⟩:=x;exact ⟨_,e⟩
 | dK kvs=>obtain ⟨_,_,vs,_,ob,es,ep,e,_⟩:=x;exact ⟨_,e⟩
 | dT kvs=>obtain ⟨_,_,xs,_,ob,es,ep,e,_⟩:=x;exact ⟨_,e⟩
 | set S n=>obtain ⟨ob,es,ep,t,e,_⟩:=x;exact ⟨_,e⟩
 | ins C dx fs=>obtain ⟨_,_,_,e,_⟩:=x;exact ⟨_,e⟩
 | own y=>exact x
 | xd fs=>obtain ⟨mA,⟨od,es,ep,e,_⟩,_⟩:=x;exact ⟨_,e⟩
 | yC lo hi=>obtain ⟨t,u,v,e⟩:=x;exact ⟨_,e⟩
 | jg ob u ih=>obtain ⟨e,_⟩:=x;exact ⟨_,e⟩
 | tbl ps=>exact ⟨_,x⟩
 | met f y=>exact ⟨_,x⟩
 | ext φ =>obtain ⟨_,e,_⟩:=x;exact e
theorem Inv.kD {X:Cx} {pins:List (Addr × Obj)} {σ :St} {H:Hp} {s:Shared} {h':Heap} {a:Addr} {o:HO} {t':Nat} (I:Inv X pins σ H s) (k: ∀ b u,s.heap.get? b=some u->h'.get? b=some u) (hp:s.heap.get? a=none) (new:a9 X.prog X.w (upd H a o) h' a o) :
  H a=none∧Inv X pins σ (upd H a o) { s with heap:=h',toks:=t' }:=by
 have hn:H a=none:=by
  cases q:H a with
  | none=>rfl
  | some u =>
   obtain ⟨ob,e⟩:=(I.bz a u q).get
   rw [hp] at e;cases e
 have ne: ∀ b u,s.heap.get? b=some u->b≠a:=fun b u e z=>by rw [z,hp] at e;cases e
 refine ⟨hn,I.un ⟨fun b u q _ _ _=>k b u q,fun b u q _ _ _=>⟨u.slots,k b u q⟩,fun b u q n _=>?_,fun b u q _=>⟨u,k b u q⟩,fun b xs q=>?_,fun b u xs q=>?_,fun b ps q=>?_⟩ fun b u e=>?_⟩
 · rw [aE (ne b u q)];exact n
 · rw [aE (aF q hn)];exact q
 · rw [aE (aF q hn)];exact q
 · exact ⟨#[],by rw [aE (aF q hn),q];simp⟩
 · by_cases hb:b=a
   · subst hb;rw [aY] at e;cases e;exact new
   · rw [aE hb] at e
     exact (I.bz b u e).pV (fun c v _ q=>k c v q) (fun c q=>by rw [aE (aF q hn)];exact q) fun c xs q=>by rw [aE (aF q hn)];exact q
theorem ki {h h':Heap} (k: ∀ b o,h.get? b=some o->h'.get? b=some o):h.get? h'.objs.size=none:=by
 cases q:h.get? h'.objs.size with
 | none=>rfl
 | some o=>exact absurd (Heap.lt_size (k _ _ q)) (Nat.lt_irrefl _)
section
variable {prog:Program} {w:World} {A:Around} {E:Value->Shared->Prop} {s:Shared}
theorem jK {a:Addr} {vs:List Value} {ss:List Str} {n:Nat} {Q:Value->Shared->Prop} (ho:s.heap.get? a=some (seqObj "list" vs.toArray n)) (hS:StrsAre vs ss) (h64:vs.length < 64)
  (h: ∀ (out:Array Value) (ss':List Str),StrsAre out.toList ss'->ss'.Perm ss->sortedS ss'=true->Q .none { s with heap:=sortedHeap s.heap a vs out }) :
  wpAny (model prog w) A (call (.builtin "list.sort") [.ref a]) Q E s:=by
 refine wpAny_call_entry PyProof.Rows.slot_list_sort ⟨_,ho,rfl⟩ PyProof.Rows.entry_list_sort (list_sort_treeK strKind_oneLt ho hS.keysOf (fun v₁ v₂ rest e=>keyKind_strs (by rw [<- e];exact hS)) h64 fun st' hp hs=>⟨_,rfl,?_⟩) (PyProof.Rows.args_list_sort _)
 have z:=sorted_out_str hS hp hs
 exact h _ z.choose z.choose_spec.1 z.choose_spec.2.1 z.choose_spec.2.2
theorem tM {T:String} {r d:Addr} {n:Nat} {P:Nat->Value->Prop} {OK:Heap->Prop} {Q:Value->Shared->Prop} (K:PySem.W.KdlSrc prog w T r d n P OK) (hh:A.handled=none) (bz:OK s.heap) (hn:n<=sizeLine)
  (h: ∀ (D:Addr) (h':Heap) (tk:Nat) (vs:List Value),(∀ b o,s.heap.get? b=some o->h'.get? b=some o)->h'.get? D=some (seqObj "list" vs.toArray 0)->s.heap.get? D=none->vs.length=n->(∀ (j:Nat) (v:Value),vs[j]?=some v->P j v) ->
   wpAny (model prog w) A.in1 (call (.builtin "list.sort") [.ref D]) (fun _ z=>Q (.ref D) z) E { s with heap:=h',toks:=tk }):wpAny (model prog w) A (call (.builtin "sorted") [.ref r]) Q E s:=by
 refine Calls.call_function_entry kind_sorted plain_sorted entry_sorted (args_sorted1 (.ref r)) ?_
 unfold Builtin.«sorted»
 refine wpAny_bind (m:=checkCount "sorted" 1 1 [Value.ref r].length) (wpAny_pure (wpAny_bind (PySem.W.kdu_collect (A:=A.in1) K hh bz hn fun h' tk acc hk hacc=>?_)))
 have many:acc.toList.length=n:=Array.length_toList.trans hacc.1
 refine wpAny_bind (wpAny_newList (wpAny_bind (wpAny_holding (wpAny_mono (h h'.objs.size (h'.push { cls:= .type "list",data:= .seq acc.toList.toArray }) tk acc.toList (fun b o e=>Heap.get?_push_of_some _ (hk b o e)) (Heap.get?_push_size _ rfl) (ki hk) many
  fun j v e=>hacc.2 j v (Array.getElem?_toList ▸ e)) (fun _ z q=>wpAny_pure (Exists.intro _ (And.intro rfl q))) fun _ _ e=>e))) (many ▸ hn))
end
theorem jr {ss:List Str}: ∀ {us:List Value},Vals (ss.map V.str) us->StrsAre us ss:=by
 induction ss with
 | nil=>intro us h;cases h;exact .nil
 | cons x r ih =>
  intro us h
  cases h with
  | cons hx ht =>
   obtain ⟨t,rfl⟩:=hx
   exact .cons x t (ih ht)
theorem iB: ∀ {us:List Value} {ss:List Str},StrsAre us ss->Vals (ss.map V.str) us
 | _,_,.nil=> .nil
 | _,_,.cons x t h=> .cons ⟨t,rfl⟩ (iB h)
theorem vP {P:Nat->Value->Prop}: ∀ {ss:List Str} {vs:List Value},vs.length=ss.length->(∀ (j:Nat) (v:Value) (x:Str),vs[j]?=some v->ss[j]?=some x-> ∃ t,v=Value.str x t)->StrsAre vs ss
 | [],[],_,_=> .nil
 | x::r,v::vs,hl,h=>by
  obtain ⟨t,rfl⟩:=h 0 v x rfl rfl
  exact .cons x t (vP (P:=P) (by simpa using hl) fun j v y e1 e2=>h (j+1) v y (by simpa using e1) (by simpa using e2))
section
variable {X:Cx}
theorem kG:aW X (.builtin "sorted") (fun xs H Q=> ∃ p ss,xs=[.ref p]∧gm X.K H p (ss.map V.str)∧ss.length < 64∧ ∀ l ss',H l=none->ss'.Perm ss->sortedS ss'=true->Q (.ref l) (upd H l (.lst (ss'.map V.str)))):=by
 intro pins s σ H xs us Q I r h
 obtain ⟨p,ss,rfl,hS,h64,q⟩:=h
 obtain ⟨u,rfl,ru⟩:=vals1 r
 cases (show u=Value.ref p from ru)
 obtain ⟨aw,hv,hl,hz⟩:=I.list hS
 have sa:=jr hv
 refine sorted_strs hl.isList sa (by rw [sa.length];exact h64) fun out ss' a1 a2 a3=>?_
 obtain ⟨e,he⟩:=sortedAll_at s.heap aw out
 have hlen:(ss'.map V.str).length<=sizeLine:=by rw [List.length_map,a2.length_eq];exact Nat.le_of_lt (Nat.lt_of_lt_of_le h64 (by decide))
 obtain ⟨hn,I'⟩:=I.kD (a:=s.heap.objs.size+1) (o:= .lst (ss'.map V.str)) (t':=s.toks) (fun b o e=>sortedAll_old e) (Heap.get?_none_of_le (Nat.le_succ _)) ⟨hlen,out.toList,e,iB a1,by simpa [seqObj] using he⟩
 exact ⟨.ref _,_,I',rfl,q _ ss' hn a2 a3⟩
theorem kE (hc:X.calm=true):aW X (.builtin "sorted") (fun xs H Q=> ∃ d kvs ss,xs=[.ref d]∧H d=some (.dK kvs)∧kvs.map (·.1)=ss.map Sum.inr∧ss.length < 64∧ ∀ l ss',H l=none->ss'.Perm ss->sortedS ss'=true->Q (.ref l) (upd H l (.lst (ss'.map V.str)))):=by
 intro pins s σ H xs us Q I r h
 obtain ⟨d,kvs,ss,rfl,hd,hk,h64,q⟩:=h
 obtain ⟨u,rfl,ru⟩:=vals1 r
 cases (show u=Value.ref d from ru)
 obtain ⟨z,lo,vs,rel,dd⟩:=mD I.bz hd
 obtain ⟨ep,da⟩:=dd.dictAt
 have hlen:vs.length=ss.length:=by
  have e1:=rel.length
  have e2:(kvs.map (·.1)).length=(ss.map (Sum.inr (α :=Int))).length:=by rw [hk]
  rw [List.length_map,List.length_map] at e2
  omega
 refine tM (PySem.W.kdl_dict (knd:=aI X.prog X.w) (kvs:=vs) (ep:=ep) lo) (I.ok.hd hc) da (by rw [hlen];exact Nat.le_of_lt (Nat.lt_of_lt_of_le h64 (by decide))) fun D h' tk ws keep hD hDn hl hP=>?_
 have sa:StrsAre ws ss:=by
  refine vP (P:=fun _ _=>True) (by rw [hl,hlen]) fun j v x e1 e2=>?_
  obtain ⟨k,y,e3,hk'⟩:=hP j v e1
  have e4:(kvs.map (·.1))[j]?=some k:=by
   have e5:=rel.keys
   rw [e5,List.getElem?_map,e3];rfl
  rw [hk,List.getElem?_map,e2] at e4
  have e6:(Sum.inr x:Key)=k:=Option.some.inj e4
  subst e6
  rcases bL (show nc (Sum.inr x) v=true from hk') with ⟨i,t,z,_⟩ | ⟨x',t,z,e⟩
  · cases z
  · cases z;exact ⟨t,e⟩
 refine jK (n:=0) hD sa (by rw [hl,hlen];exact h64) fun out ss' a1 a2 a3=>?_
 obtain ⟨e,he⟩:=sortedHeap_at (out:=out) hD
 have hle:(ss'.map V.str).length<=sizeLine:=by rw [List.length_map,a2.length_eq];exact Nat.le_of_lt (Nat.lt_of_lt_of_le h64 (by decide))
 have keep': ∀ b o,s.heap.get? b=some o->(sortedHeap h' D ws out).get? b=some o:=fun b o e=>by
  rw [sortedHeap_old (fun z=>by rw [z,hDn] at e;cases e) (Heap.lt_size (keep b o e))];exact keep b o e
 obtain ⟨hn,I'⟩:=I.kD (a:=D) (o:= .lst (ss'.map V.str)) (t':=tk) keep' hDn ⟨hle,out.toList,e,iB a1,by simpa [seqObj] using he⟩
 exact ⟨.ref _,_,I',rfl,q _ ss' hn a2 a3⟩
end
end L2
end
section
open PySem PySem.W PyProof.Rows
namespace L2
open PySem PySem.Spec PyProof.Rows
section
variable {prog:Program} {w:World} {A:Around} {E:Value->Shared->Prop} {s:Shared}
theorem og:typeLookup (.type "tuple") "keys" =pure none:=am_miss_of_fast (by decide +kernel)
set_option maxHeartbeats 4500000 in
set_option maxRecDepth 9000 in
theorem om {a:Addr} {o:Obj} {xs:Array Value} {k:Nat} {Q:Option Value->Shared->Prop}
  (hx:s.heap.get? a=some o) (hc:o.cls= .type "tuple") (hdat:o.data= .seq xs k) (hd:o.dict=none) (hA:A.handled=none)
  (h: ∀ h' tk,(∀ b o,s.heap.get? b=some o->h'.get? b=some o)->Q none { s with heap:=h',toks:=tk }):wpAny (model prog w) A (getAttr? (.ref a) "keys") Q E s:=by
 obtain ⟨c,dct,dat,sl⟩:=o
 simp only at hc hdat hd
 subst hc hdat hd
 obtain ⟨h0,gs,dr,t0,o0⟩:=s
 have hT: ∀ k,(Shared.mk h0 gs dr k o0).TypeIs (.ref a) "tuple" :=fun _=>Exists.intro _ (And.intro hx rfl)
 have f1:=sub_AttributeError;have f3:=F.slot_tuple_getattribute.lookup;have f4:=F.slot_tuple_getattribute.bind (.ref a);have f5:=am_tuple_getattr_none
 unfold getAttr?;unfold getAttrBy?;unfold getAttrBy
 repeat (any_goals (first | assumption | exact hT _ | ((with_reducible show wpAny _ _ (call (Value.builtin "tuple.__getattribute__") _ _) _ _ _);refine call_meets F.slot_tuple_getattribute (hT _) am_entry_tuple_getattribute (F.args_tuple_getattribute_2 _ _) (meets_getattribute_miss_tuple a xs k sl "keys" _ og (by decide +kernel)) ⟨hx,hA,fun h' tk' e hx'=>?_⟩) | wp_step))
 obtain ⟨_,_,he⟩:=hx'.there
 with_reducible_and_instances unfold getattributeRaised
 repeat (any_goals (first | exact he | assumption | wp_step))
 exact h _ _ fun b o e=>hx'.keeps b o e
end
end L2
end
section
open PySem PySem.W PyProof.Rows
namespace L2
open PySem PySem.Spec PyProof.Rows
section
variable {prog:Program} {w:World} {A:Around} {E:Value->Shared->Prop} {s:Shared}
theorem fL:entryFor table "dict.update.loop" =some Builtin.«dict.update.loop» :=entryFor_of_tree (by kernel_rfl)
theorem cD:plainId "dict.update.loop" =true:=by decide +kernel
theorem Mh {c:Prop} [Decidable c] {m m':Sem α} {M:Model} {Q: α ->Shared->Prop} (hc:c) (h:wpAny M A m Q E s):wpAny M A (if c then m else m') Q E s:=by rw [if_pos hc];exact h
noncomputable def kA (prog:Program) (w:World) (h:Heap) (v:Value) (kv:Key × Value):Prop:= ∃ b o kx n,v= .ref b∧h.get? b=some o∧o.cls= .type "tuple" ∧o.data= .seq #[kx,kv.2] n∧(aI prog w).is kv.1 kx=true
theorem kA.keeps {h h':Heap} {v:Value} {kv:Key × Value} (x:kA prog w h v kv) (k: ∀ b o,h.get? b=some o->o.cls= .type "tuple" ->h'.get? b=some o):kA prog w h' v kv :=
 let ⟨b,o,kx,n,e,g,c,d,r⟩:=x;⟨b,o,kx,n,e,k b o g c,c,d,r⟩
theorem sC {R:Result->Shared->Prop} {it tp d:Addr} {items:Array Value} {kvs:List (Key × Value)} {res:Value} (hh:A.handled=none) (hne:tp≠it) (hdi:d≠it) (hdt:d≠tp) (hl:kvs.length=items.size) (hz:items.size < sizeLine) :
  ∀ (k i:Nat) (ii:Int) (s:Shared) (acc:List (Key × Value)),items.size - i=k->i<=items.size->acc.length<=i->s.heap.IsTupleIter it tp i->s.heap.IsTuple tp items->s.heap.DictOf (aI prog w) d acc->(∃ od,s.heap.get? d=some od∧od.cls= .type "dict")->(∃ oi,s.heap.get? it=some oi∧oi.cls= .type "tuple_iterator") ->
   (∀ (j:Nat) (v:Value) (kv:Key × Value),items[j]?=some v->kvs[j]?=some kv->kA prog w s.heap v kv) ->
   (∀ s' ,s'.heap.DictOf (aI prog w) d (merged acc (kvs.drop i))->(∃ h' tk,s'={ s with heap:=h',toks:=tk })->(∀ b o,b≠d->b≠it->s.heap.get? b=some o->s'.heap.get? b=some o)->R (.ok (.ret res)) s') ->
   codeAny (model prog w) A (.builtin "dict.update.loop" ⟨[.ref d,.ref it,.int ii 0,res],[]⟩) R s:=by
 have W:=Walks.tuple (prog:=prog) (w:=w) (A:=A.in1) hh it tp hne items
 intro k
 induction k with
 | zero =>
  intro i ii s acc hk hi hac hit htp hd hdc hic hP hR
  obtain rfl:i=items.size:=Nat.le_antisymm hi (by omega)
  refine codeAny_builtin fL ?_
  rw [Around.under_plainId cD _]
  show wpAny _ A.in1 (pyNext (.ref it) >>= _) _ _ s
  refine wpAny_bind (W.done s _ _ ⟨hit,htp⟩ fun h' tk keep=>?_)
  refine wpAny_bind (m:=Builtin.Dict.addKeywords d []) (wpAny_pure ?_)
  refine wpAny_pure (hR _ ?_ ⟨h',tk,rfl⟩ fun b o _ hb e=>keep b o (by simpa using hb) e)
  rw [List.drop_eq_nil_of_le (by omega)]
  exact hd.at fun o e=>keep d o (by simpa using hdi) e
 | succ k ih =>
  intro i ii s acc hk hi hac hit htp hd hdc hic hP hR
  have hlt:i < items.size:=Nat.lt_of_le_of_ne hi (by omega)
  refine codeAny_builtin fL ?_
  rw [Around.under_plainId cD _]
  show wpAny _ A.in1 (pyNext (.ref it) >>= _) _ _ s
  refine wpAny_bind (W.item i s _ _ hlt ⟨hit,htp⟩ fun v h' tk hv hst keep=>?_)
  have hkv:i < kvs.length:=by omega
  obtain ⟨b,o,kx,n,rfl,hb,hc,hdat,his⟩:=hP i v kvs[i] hv (by simp [hkv])
  have hbi:b≠it:=fun z=>by
   obtain ⟨oi,e1,e2⟩:=hic
   rw [z,e1] at hb;cases hb;rw [e2] at hc;exact absurd hc (by decide)
  have hb':h'.get? b=some o:=keep b o (by simpa using hbi) hb
  have hT:(({ s with heap:=h',toks:=tk }:Shared)).TypeIs (.ref b) "tuple" :=⟨o,hb',hc⟩
  have hd':h'.DictOf (aI prog w) d acc:=hd.at fun o e=>keep d o (by simpa using hdi) e
  dsimp only
  refine wpAny_bind (wpAny_holding (wpAny_bind (wpAny_tryCatch ?_)))
  unfold Builtin.Dict.pairItems
  refine wpAny_bind (wpAny_typeOf hT (Mh (by decide) (wpAny_bind (wpAny_seqItems hb' hdat (wpAny_pure ?_)))))
  show wpAny _ _ (holding [kx,kvs[i].2] (dictSet d kx kvs[i].2)) _ _ _
  refine wpAny_holding (wpAny_dictSet_pairs (hsz:=by omega) his hd' fun h'' dd hs=>?_)
  obtain ⟨od,hod,hodc⟩:=hdc
  have hbd:b≠d:=fun z=>by rw [z,hod] at hb;cases hb;rw [hodc] at hc;exact absurd hc (by decide)
  have keep2: ∀ b o,b≠d->b≠it->s.heap.get? b=some o->h''.get? b=some o:=fun b o h1 h2 e=>(hs.2 b h1).trans (keep b o (by simpa using h2) e)
  refine wpAny_pure ⟨plainId_quiet cD _,?_⟩
  refine ih (i+1) (ii+1) _ (stored acc kvs[i].1 kvs[i].2) (by omega) hlt (Nat.le_trans (stored_length_le _ _ _) (by omega)) (hst.1.at fun o e=>(hs.2 it (Ne.symm hdi)).trans e) (htp.at fun o e=>keep2 tp o (Ne.symm hdt) hne e) dd ?_ ?_ ?_ ?_
  · obtain ⟨q,es,ep,e1,e2,_⟩:=dd
    exact ⟨q,e1,e2.1⟩
  · obtain ⟨oi,e1,e2,_⟩:=hst.1
    exact ⟨oi,(hs.2 it (Ne.symm hdi)).trans e1,e2⟩
  · intro j v kv e1 e2
    refine (hP j v kv e1 e2).keeps fun b' o' e3 e4=>keep2 b' o' (fun z=>?_) (fun z=>?_) e3
    · rw [z,hod] at e3;cases e3;rw [hodc] at e4;exact absurd e4 (by decide)
    · obtain ⟨oi,f1,f2⟩:=hic
      rw [z,f1] at e3;cases e3;rw [f2] at e4;exact absurd e4 (by decide)
  · rintro s' dd' ⟨h3,tk3,rfl⟩ keep3
    refine hR _ ?_ ⟨h3,tk3,rfl⟩ fun b o h1 h2 e=>keep3 b o h1 h2 (keep2 b o h1 h2 e)
    have e:kvs.drop i=kvs[i]::kvs.drop (i+1):=List.drop_eq_getElem_cons hkv
    rw [e]
    exact dd'
theorem oq {p:Addr} {o:Obj} {items:Array Value} {n:Nat} {kvs:List (Key × Value)} {Q:Value->Shared->Prop} (hh:A.handled=none) (hb:sysModules < s.heap.objs.size) (hp:s.heap.get? p=some o) (hc:o.cls= .type "tuple") (hdt:o.data= .seq items n) (hdn:o.dict=none)
  (hl:kvs.length=items.size) (hz:items.size < sizeLine) (hP: ∀ (j:Nat) (v:Value) (kv:Key × Value),items[j]?=some v->kvs[j]?=some kv->kA prog w s.heap v kv)
  (h: ∀ h' tk,h'.DictOf (aI prog w) s.heap.objs.size (merged [] kvs)->(∀ b o,s.heap.get? b=some o->h'.get? b=some o)->Q (.ref s.heap.objs.size) { s with heap:=h',toks:=tk }) :
  wpAny (model prog w) A (call (.type "dict") [.ref p]) Q E s:=by
 refine callType_codes (Q₁ :=fun z u=>z= .ref s.heap.objs.size∧u={ s with heap:=s.heap.push { cls:= .type "dict",data:= .dict #[] } }) F.kt_called_dict (F.kt_typeCall_dict_1 _) F.entry_dict_init (kt_code_dict_new _ ⟨rfl,rfl⟩) ?_
 rintro obj s₁ ⟨rfl,rfl⟩
 have up: ∀ b o,s.heap.get? b=some o->(s.heap.push { cls:= .type "dict",data:= .dict #[] }).get? b=some o:=fun b o e=>Heap.get?_push_of_some _ e
 have hnew:(s.heap.push { cls:= .type "dict",data:= .dict #[] }).DictOf (aI prog w) s.heap.objs.size []:=Heap.DictOf.new s.heap
 have hp1:=up _ _ hp
 refine ⟨hnew.typeIs,F.args_dict_init_2 (.ref s.heap.objs.size) (.ref p),?_⟩
 with_unfolding_all refine wpAny_bind (m:=Builtin.Dict.selfAndRest _ _) (wpAny_bind (wpAny_notOrdered_dict hnew.typeIs (wpAny_pure ?_)))
 show wpAny _ _ (Builtin.Dict.updateFrom "dict.__init__" s.heap.objs.size (.ref p) [] .none) _ _ _
 unfold Builtin.Dict.updateFrom;refine wpAny_bind (wpAny_typeOf (T:= "tuple") ⟨o,hp1,hc⟩ ?_)
 rw [if_pos (by decide)]
 refine wpAny_bind (om hp1 hc hdt hdn hh fun h1 tk1 k1=>?_)
 simp only [Option.isNone_none,if_true]
 refine wpAny_bind (wpAny_rule ?_)
 have htp1:h1.IsTuple p items:=⟨o,k1 _ _ hp1,hc,n,hdt⟩
 refine wpAny_bind (wpAny_pyIter_tuple htp1 ?_)
 have up2: ∀ b o,h1.get? b=some o->(h1.push { cls:= .type "tuple_iterator",data:= .fields #[.ref p,.int 0 0] }).get? b=some o:=fun b o e=>Heap.get?_push_of_some _ e
 have hd1:h1.get? s.heap.objs.size=some { cls:= .type "dict",data:= .dict #[] }:=k1 _ _ (Heap.get?_push_size _ rfl)
 have hpl:p < h1.objs.size:=Heap.lt_size (k1 _ _ hp1)
 have hdl:s.heap.objs.size < h1.objs.size:=Heap.lt_size hd1
 have hps:p < s.heap.objs.size:=Heap.lt_size hp
 refine wpAny_pure ⟨plainId_quiet cD _,?_⟩
 refine sC (A:=A.in1) (it:=h1.objs.size) (tp:=p) (kvs:=kvs) hh (Nat.ne_of_lt hpl) (Nat.ne_of_lt hdl) (Nat.ne_of_gt hps) hl hz items.size 0 0 _ [] rfl (Nat.zero_le _) (Nat.le_refl _) ⟨_,Heap.get?_push_size _ rfl,rfl,rfl⟩ (htp1.push _) ?_ ⟨_,up2 _ _ hd1,rfl⟩ ⟨_,Heap.get?_push_size _ rfl,rfl⟩ ?_ ?_
 · exact (hnew.at fun o e=>up2 _ o (k1 _ o e))
 · exact fun j v kv e1 e2=>(hP j v kv e1 e2).keeps fun b o e _=>up2 b o (k1 b o (up b o e))
 · rintro s' dd ⟨h3,tk3,rfl⟩ keep3
   refine ⟨rfl,h h3 tk3 (by simpa using dd) fun b o e=>keep3 b o (Nat.ne_of_lt (Heap.lt_size e)) (Nat.ne_of_lt (Heap.lt_size (k1 _ _ (up _ _ e)))) (up2 _ _ (k1 _ _ (up _ _ e)))⟩
end
section
variable {X:Cx}
noncomputable def pJ (H:Hp) (y:V) (kv:Key × V):Prop:= ∃ b,y= .ref b∧H b=some (.tup [kV kv.1,kv.2])
theorem pe {P:Program} {w:World} {H:Hp} {h:Heap} (ok:iY P w H h): ∀ {ys:List V} {kvs:List (Key × V)} {aw:List Value},Paired (pJ H) ys kvs->Vals ys aw-> ∃ vs:List (Key × Value),KV kvs vs∧vs.length=aw.length ∧
  ∀ (j:Nat) (v:Value) (kv:Key × Value),aw[j]?=some v->vs[j]?=some kv->kA P w h v kv
 | _,_,_,.nil,.nil=>⟨[],.nil,rfl,fun j v kv e=>by simp at e⟩
 | _,_,_,.cons (b:=kv0) hp hr,.cons hv hrv=>by
  obtain ⟨vs,h1,h2,h3⟩:=pe ok hr hrv
  obtain ⟨b,rfl,hb⟩:=hp
  obtain ⟨_,its0,r0,o,e1,e2,n,e3,_⟩:=(show a9 P w H h b (.tup [kV kv0.1,kv0.2]) from ok b _ hb)
  obtain ⟨u1,u2,rfl,r1,r2⟩:=vals2 r0
  cases (show _=Value.ref b from hv)
  refine ⟨(kv0.1,u2)::vs,.cons ⟨rfl,r2⟩ h1,by simp [h2],fun j v kv f1 f2=>?_⟩
  cases j with
  | zero =>
   simp only [List.getElem?_cons_zero,Option.some.injEq] at f1 f2
   subst f1 f2
   exact ⟨b,o,u1,n,rfl,e1,e2,e3,jX r1⟩
  | succ j=>exact h3 j v kv (by simpa using f1) (by simpa using f2)
theorem KV.sL {kvs:List (Key × V)} {vs:List (Key × Value)} (r:KV kvs vs):KV (cA [] kvs) (merged [] vs):=KV.merge r .nil
theorem ly (hc:X.calm=true):aW X (.type "dict") (fun xs H Q=> ∃ p ys kvs,xs=[.ref p]∧H p=some (.tup ys)∧Paired (pJ H) ys kvs∧ys.length < sizeLine∧ ∀ d,H d=none->Q (.ref d) (upd H d (.dK (cA [] kvs)))):=by
 intro pins s σ H xs us Q I r h
 obtain ⟨p,ys,kvs,rfl,hp,hP,hz,q⟩:=h
 obtain ⟨u,rfl,ru⟩:=vals1 r
 cases (show u=Value.ref p from ru)
 obtain ⟨_,aw,r0,o,e1,e2,n,e3,e4⟩:=(show a9 X.prog X.w H s.heap p (.tup ys) from I.bz p _ hp)
 obtain ⟨vs,h1,h2,h3⟩:=pe I.bz hP r0
 have hlen:=r0.length
 have hk:=Paired.length hP
 refine oq (kvs:=vs) (I.ok.hd hc) I.big e1 e2 e3 e4 (by simpa using h2) (by simp;omega) (fun j v kv f1 f2=>h3 j v kv (by simpa using f1) f2) fun h' tk dd keep=>?_
 have hle:(cA [] kvs).length<=sizeLine:=by have:=cX kvs [];simp at this;omega
 obtain ⟨hn,I'⟩:=I.kD (a:=s.heap.objs.size) (o:= .dK (cA [] kvs)) (t':=tk) keep (Heap.get?_none_of_le (Nat.le_refl _)) (mQ hle (beq_eq_false_iff_ne.mpr (Ne.symm (Nat.ne_of_lt I.big))) (KV.sL h1) dd)
 exact ⟨.ref _,_,I',rfl,q _ hn⟩
end
end L2
end
section
open PySem PySem.W PyProof.Rows
namespace L2
open PySem PySem.Spec PyProof.Rows
noncomputable def k7 (P:Program) (w:World) (K:PySem.W.Frag) (mg:Str->Option Value) (base:Heap) (x:Str) (k:Nat) (ps:List Str) (sp:Sp):Prop :=
 ∃ (f:Addr) (fd:FuncData),jC P w K mg base q8 k f fd ps sp∧mg x=some (.ref f)∧PySem.W.keepIn K (.ref f)=true∧Binds K fd ps []∧ ∀ us:List Value,us.length=ps.length->bindArgs fd ⟨us,[]⟩=pure (ps.zip us)
theorem xE.args {K:PySem.W.Frag} {x qual:Str} {st:Stmt} {f:Addr} {fd:FuncData} {ps:List Str} (F:xE K x qual st f fd)
  (h: ∀ (kV doc pm:Value) (an:Option Addr) (cdv ct:Value) (us:List Value),us.length=ps.length->bindArgs (PySem.W.fnOf x qual (cJ st) (bw st) (ai st) .none kV doc pm an cdv ct) ⟨us,[]⟩=pure (ps.zip us)): ∀ us:List Value,us.length=ps.length->bindArgs fd ⟨us,[]⟩=pure (ps.zip us):=by
 obtain ⟨oc,od,kV,doc,pm,an,cdv,ct,osl,rfl,lk,hcd⟩:=F.ex
 exact h kV doc pm an cdv ct
noncomputable def At (K:PySem.W.Frag) (mg:Str->Option Value) (x:Str) (st:Stmt):Prop:= ∃ (f:Addr) (fd:FuncData),xE K x x st f fd∧mg x=some (.ref f)
section
variable {P:Program} {w:World} {K:PySem.W.Frag} {mg:Str->Option Value} {base:Heap}
theorem At.ok {x:Str} {st:Stmt} {N ps:List Str} {k:Nat} {sp:Sp} (a:At K mg x st) (S:aC N ps (ai st))
  (hb: ∀ (kV doc pm:Value) (an:Option Addr) (cdv ct:Value) (us:List Value),us.length=ps.length->bindArgs (PySem.W.fnOf x x (cJ st) (bw st) (ai st) .none kV doc pm an cdv ct) ⟨us,[]⟩=pure (ps.zip us))
  (len: ∀ vs H Q E,sp vs H Q E->vs.length=ps.length)
  (hbody: ∀ (f:Addr) (cdv:Value) (A:Around) (outer:List Env) (s:Shared) (H:Hp) (vs:List V) (Q:VK) (E:XK),dq k (A.deeper (envOfC x (ai st) s.heap.objs.size f cdv))->sp vs H Q E ->
   ∃ t,uk (jd q8 P w K mg base N x (ai st) f cdv A outer s H E).nZ (bw st) t∧t { nx:=fun _ H'=>Q .non H',rt:=Q } (start N vs) H):k7 P w K mg base x (k+1) ps sp:=by
 obtain ⟨f,fd,F,hm⟩:=a
 exact ⟨f,fd,F.ok S len fun cdv A outer s H vs Q E=>hbody f cdv A outer s H vs Q E,hm,F.kp,F.binds hb,F.args hb⟩
theorem At.xn {x:Str} {st:Stmt} {ps:List Str} {sp:Sp} (a:At K mg x st) (hb: ∀ (kV doc pm:Value) (an:Option Addr) (cdv ct:Value) (us:List Value),us.length=ps.length->bindArgs (PySem.W.fnOf x x (cJ st) (bw st) (ai st) .none kV doc pm an cdv ct) ⟨us,[]⟩=pure (ps.zip us))
  (no: ∀ vs H Q E,¬ sp vs H Q E):k7 P w K mg base x 0 ps sp:=by
 obtain ⟨f,fd,F,hm⟩:=a
 exact ⟨f,fd,⟨fun vs H Q E h=>absurd h (no vs H Q E),fun A outer s H args us vs Q E _ _ _ _ h=>absurd h (no vs H Q E)⟩,hm,F.kp,F.binds hb,F.args hb⟩
end
section
variable {X:Cx} {x:Str} {k j:Nat} {ps:List Str} {sp:Sp} {e:Expr} {es:List Expr} {t:TA} {p pos:Pos}
theorem Ny (D:k7 X.prog X.w X.K X.mg X.base x j ps sp) (hr:dq k X.A) (hg:Gl X x) (hj:j<=k) (ha:PA X (e::es) t) (hdb:(x == ("__debug__" :Str))=false:=by decide)
  (he:starEach (e::es) X.env=(false,eval e X.env)::starEach es X.env:=by rfl) (hpl:(backTo pos (starEach es X.env)).any (·.1)=false:=by rfl):PE X (.Call (.Name x p) (e::es) [] pos) (vw sp [] E0 t):=by
 obtain ⟨f,fd,F,hm,kp,bd,_⟩:=D
 exact C4 F (hr.mono hj) hg hm kp bd .nil Jy ha hdb he hpl
end
theorem bP {K:PySem.W.Frag} {mg:Str->Option Value} {h:Heap} {x:Str} {st:Stmt} {f:Addr} {oc:Value} {od an:Option Addr} {osl:Array (Option Value)} {kV doc pm cdv ct:Value} (X:K.In h) (G:h.Ns mainGlobals mg)
  (a:PySem.W.nsIn K mainGlobals x=some (some (.ref f))) (l:K.lookup f=some ⟨oc,od,.func (PySem.W.fnOf x x (cJ st) (bw st) (ai st) .none kV doc pm an cdv ct),osl⟩) (c:PySem.W.codeIn K cdv x=true) (k:PySem.W.keepIn K (.ref f)=true):At K mg x st :=
 ⟨f,_,Jb l c k,PySem.W.mg_of X G a⟩
structure Bl (mg:Str->Option Value):Prop where
 len:mg "len" =none
 range:mg "range" =none
 isinstance:mg "isinstance" =none
 int:mg "int" =none
 bool:mg "bool" =none
 tuple:mg "tuple" =none
 dict:mg "dict" =none
 sorted:mg "sorted" =none
 min:mg "min" =none
 max:mg "max" =none
 abs:mg "abs" =none
noncomputable def Kp (a:Addr) (H H':Hp):Prop:= ∀ b o,b≠a->H b=some o->H' b=some o
theorem Kp.trans {a:Addr} {H H1 H2:Hp} (x:Kp a H H1) (y:Kp a H1 H2):Kp a H H2:=fun b o n h=>y b o n (x b o n h)
theorem lr.kp {a:Addr} {H H':Hp} (x:lr H H'):Kp a H H':=fun b o _ h=>x b o h
theorem Kp.st {a:Addr} {H:Hp} {o:HO}:Kp a H (upd H a o):=fun b u n q=>by rw [aE n];exact q
theorem Kp.lst {a b:Addr} {H H':Hp} {K:PySem.W.Frag} {xs:List V} {kvs:List (Key × V)} (x:Kp a H H') (ha:H a=some (.dK kvs)) (h:gm K H b xs):gm K H' b xs:=by
 rcases h with (h | ⟨o,h⟩) | h
 · exact .inl (.inl (x _ _ (oP h ha (by intro z;cases z)) h))
 · exact .inl (.inr ⟨o,x _ _ (oP h ha (by intro z;cases z)) h⟩)
 · exact .inr h
theorem Kp.tup {a b:Addr} {H H':Hp} {xs:List V} {kvs:List (Key × V)} (x:Kp a H H') (ha:H a=some (.dK kvs)) (h:H b=some (.tup xs)):H' b=some (.tup xs):=x _ _ (oP h ha (by intro z;cases z)) h
end L2
end
section
open PySem PySem.W PyProof.Rows
namespace L2
open PySem PySem.Spec PyProof.Rows
class EM (t:TE):Prop where
 m: ∀ σ H Q Q',(∀ x H1,Q x H1->Q' x H1)->t σ H Q->t σ H Q'
class ED (t:TT):Prop where
 m: ∀ σ H Q Q',(∀ x H1,Q x H1->Q' x H1)->t σ H Q->t σ H Q'
class NO (t:TA):Prop where
 m: ∀ σ H Q Q',(∀ x H1,Q x H1->Q' x H1)->t σ H Q->t σ H Q'
class N0 (t:TO):Prop where
 m: ∀ σ H Q Q',(∀ x H1,Q x H1->Q' x H1)->t σ H Q->t σ H Q'
class NP (t:TI):Prop where
 m: ∀ σ H Q Q',(∀ x H1,Q x H1->Q' x H1)->t σ H Q->t σ H Q'
class NL (r:R2):Prop where
 m: ∀ x y H Q Q',(∀ x H1,Q x H1->Q' x H1)->r x y H Q->r x y H Q'
class NQ (r:V->Hp->VK->Prop):Prop where
 m: ∀ x H Q Q',(∀ x H1,Q x H1->Q' x H1)->r x H Q->r x H Q'
class N5 (r:List V->Hp->VK->Prop):Prop where
 m: ∀ x H Q Q',(∀ x H1,Q x H1->Q' x H1)->r x H Q->r x H Q'
class N1 (r:V->List V->Hp->VK->Prop):Prop where
 m: ∀ x xs H Q Q',(∀ x H1,Q x H1->Q' x H1)->r x xs H Q->r x xs H Q'
class NY (r:V->Option Int->Option Int->Hp->VK->Prop):Prop where
 m: ∀ x l u H Q Q',(∀ x H1,Q x H1->Q' x H1)->r x l u H Q->r x l u H Q'
class M6 (sp:Sp):Prop where
 m: ∀ vs H Q Q' E,(∀ x H1,Q x H1->Q' x H1)->sp vs H Q E->sp vs H Q' E
section
variable {X:Cx}
noncomputable def KA (K:PySem.W.Frag):List V->Hp->VK->Prop:=fun xs H Q=> ∃ p ys,xs=[.ref p]∧(gm K H p ys∨fJ K H p ys)∧Q (.int ys.length) H
noncomputable def JN:List V->Hp->VK->Prop:=fun xs H Q=> ∃ z,xs=[.str z]∧z.length<=sizeLine∧Q (.int z.length) H
theorem De:aW X (.builtin "len") (fun xs H Q=>KA X.K xs H Q∨JN xs H Q):=qp.or pY
noncomputable def L7 (K:PySem.W.Frag):List V->Hp->VK->Prop:=fun xs H Q=> ∃ x T t b,xs=[x,.ty T]∧iR K H x t∧PySem.W.kitOne K t (.type T)=some b∧Q (.bl b) H
theorem CZ:aW X (.builtin "isinstance") (L7 X.K):=rR
noncomputable def yY (K:PySem.W.Frag):List V->Hp->VK->Prop:=fun xs H Q=> ∃ p ss,xs=[.ref p]∧gm K H p (ss.map V.str)∧ss.length < 64∧ ∀ l ss',H l=none->ss'.Perm ss->sortedS ss'=true->Q (.ref l) (upd H l (.lst (ss'.map V.str)))
noncomputable def AG:List V->Hp->VK->Prop:=fun xs H Q=> ∃ d kvs ss,xs=[.ref d]∧H d=some (.dK kvs)∧kvs.map (·.1)=ss.map Sum.inr∧ss.length < 64∧ ∀ l ss',H l=none->ss'.Perm ss->sortedS ss'=true->Q (.ref l) (upd H l (.lst (ss'.map V.str)))
noncomputable def HC:List V->Hp->VK->Prop:=fun xs H Q=> ∃ p ys kvs,xs=[.ref p]∧H p=some (.tup ys)∧Paired (pJ H) ys kvs∧ys.length < sizeLine∧ ∀ d,H d=none->Q (.ref d) (upd H d (.dK (cA [] kvs)))
theorem xQ (hc:X.calm=true):aW X (.type "dict") HC:=ly hc
noncomputable def L0:List V->Hp->VK->Prop:=fun xs H Q=>(∃ i,xs=[.int i]∧Q (.int i) H)∨ ∃ k,xs=[.bl k]∧Q (.int (if k then 1 else 0)) H
noncomputable def Gh (K:PySem.W.Frag):List V->Hp->VK->Prop:=fun xs H Q=> ∃ p ys,xs=[.ref p]∧((gm K H p ys∧ ∀ l,H l=none->Q (.ref l) (upd H l (.tup ys)))∨(fJ K H p ys∧Q (.ref p) H))
theorem Cy:aW X (.type "int") L0:=xg
theorem Dm:aW X (.type "tuple") (Gh X.K):=nU
end
end L2
end
section
open PySem PySem.W PyProof.Rows
namespace L2
open PySem PySem.Spec PyProof.Rows
structure Jh (D D':Ends):Prop where
 nx: ∀ σ H,D.nx σ H->D'.nx σ H
 rt: ∀ v H,D.rt v H->D'.rt v H
 bk: ∀ σ H,D.bk σ H->D'.bk σ H
 ct: ∀ σ H,D.ct σ H->D'.ct σ H
class NT (t:TS):Prop where
 m: ∀ D D' σ H,Jh D D'->t D σ H->t D' σ H
class EJ (g:TG):Prop where
 m: ∀ x σ H Q Q',(∀ σ2 H2,Q σ2 H2->Q' σ2 H2)->g x σ H Q->g x σ H Q'
class Nx (g:oV):Prop where
 m: ∀ x σ H Q Q',(∀ σ2 H2,Q σ2 H2->Q' σ2 H2)->g x σ H Q->g x σ H Q'
open PySem PySem.Spec PyProof.Rows
end L2
end
section
open PySem PySem.W PyProof.Rows
namespace L2
open PySem PySem.Spec PyProof.Rows
noncomputable def stK (a:Addr) (k:Int) (l:Option Int):List (Key × V):=match l with
 | none=>[(.inr "script",.ref a),(.inr "k",.int k)]
 | some l=>[(.inr "script",.ref a),(.inr "k",.int k),(.inr "left",.int l)]
noncomputable def vE (K:PySem.W.Frag) (H:Hp) (a:Addr) (xs:List V):Prop:=(∃ o,H a=some (.jg o (.lst xs))) ∨
 ∃ (o:Obj) (aw:Array Value) (n:Nat),K.lookup a=some o∧o.cls= .type "list" ∧o.dict=none∧o.data= .seq aw n∧aw.size<=sizeLine∧Vals xs aw.toList
theorem vE.sq {K:PySem.W.Frag} {H:Hp} {a:Addr} {xs:List V} (h:vE K H a xs):gm K H a xs:=by
 rcases h with ⟨o,h⟩ | h
 · exact .inl (.inr ⟨o,h⟩)
 · exact .inr h
theorem vE.upd {K:PySem.W.Frag} {H:Hp} {a c:Addr} {xs:List V} {u o':HO} (h:vE K H a xs) (hc:H c=some u) (hu: ∀ o w,u≠ .jg o w):vE K (upd H c o') a xs:=by
 rcases h with ⟨o,h⟩ | h
 · exact .inl ⟨o,by rw [aE (oP h hc fun z=>hu _ _ z.symm)];exact h⟩
 · exact .inr h
theorem Kp.jg {st a:Addr} {H H':Hp} {K:PySem.W.Frag} {xs:List V} {kvs:List (Key × V)} (x:Kp st H H') (ha:H st=some (.dK kvs)) (h:vE K H a xs):vE K H' a xs:=by
 rcases h with ⟨o,h⟩ | h
 · exact .inl ⟨o,x _ _ (oP h ha (by intro z;cases z)) h⟩
 · exact .inr h
theorem lr.jg {a:Addr} {H H':Hp} {K:PySem.W.Frag} {xs:List V} (x:lr H H') (h:vE K H a xs):vE K H' a xs:=by
 rcases h with ⟨o,h⟩ | h
 · exact .inl ⟨o,x _ _ h⟩
 · exact .inr h
noncomputable def jU (K:PySem.W.Frag) (H:Hp) (st:Addr) (k:Int) (l:Option Int):Prop:= ∃ (a:Addr) (ns:List Int),H st=some (.dK (stK a k l))∧vE K H a (ns.map V.int)∧ns.length<=63∧0<=k
theorem jU.keep {K:PySem.W.Frag} {H H':Hp} {st:Addr} {k:Int} {l:Option Int} (x:jU K H st k l) (y:Kp st H H') (e:H' st=H st):jU K H' st k l :=
 let ⟨a,ns,h1,h2,h3,h4⟩:=x;⟨a,ns,e.trans h1,y.jg h1 h2,h3,h4⟩
theorem jU.same {K:PySem.W.Frag} {H H':Hp} {st:Addr} {k:Int} {l:Option Int} (x:jU K H st k l) (y:lr H H'):jU K H' st k l :=
 let ⟨a,ns,h1,h2,h3,h4⟩:=x;jU.keep ⟨a,ns,h1,h2,h3,h4⟩ y.kp ((y _ _ h1).trans h1.symm)
theorem jU.upd {K:PySem.W.Frag} {H:Hp} {st c:Addr} {k:Int} {l:Option Int} {u o:HO} (x:jU K H st k l) (hc:H c=some u) (hu: ∀ o w,u≠ .jg o w) (hn:c≠st):jU K (upd H c o) st k l :=
 let ⟨a,ns,h1,h2,h3,h4⟩:=x;⟨a,ns,by rw [aE (Ne.symm hn)];exact h1,h2.upd hc hu,h3,h4⟩
theorem jU.at {K:PySem.W.Frag} {H:Hp} {st:Addr} {k:Int} {l:Option Int} (x:jU K H st k l): ∃ kvs,H st=some (.dK kvs):=let ⟨a,ns,h1,_⟩:=x;⟨_,h1⟩
theorem jU.pos {K:PySem.W.Frag} {H:Hp} {st:Addr} {k:Int} {l:Option Int} (x:jU K H st k l):0<=k:=let ⟨a,ns,h1,_,_,h⟩:=x;h
end L2
end
section
open PySem PySem.W PyProof.Rows
namespace L2
open PySem PySem.Spec PyProof.Rows
noncomputable def noStar:Expr->Bool
 | .Starred _ _=>false
 | _=>true
theorem cz {e:Expr} {es:List Expr} {env:Env} (h:noStar e=true):starEach (e::es) env=(false,eval e env)::starEach es env:=by
 cases e<;>first | rfl | cases h
theorem jG {pos:Pos} {env:Env}: ∀ {es:List Expr},es.all noStar=true->(backTo pos (starEach es env)).any (·.1)=false
 | [],_=>rfl
 | e::es,h=>by
  have h:=Bool.and_eq_true_iff.mp (List.all_cons ▸ h)
  rw [cz h.1]
  have:=jG (pos:=pos) (env:=env) h.2
  unfold backTo at this ⊢
  simp only [List.map_cons,List.any_cons,Bool.false_or]
  exact this
section
variable {X:Cx} {e:Expr} {es:List Expr} {te:TE} {t:TA}
theorem pk (ha:PE X e te) (hr:PA X es t) (hs:noStar e=true:=by rfl):PA X (e::es) (AS te t):=Be ha hr (cz hs)
variable {x:Str} {k j:Nat} {ps:List Str} {sp:Sp} {p pos:Pos} {id T:String} {r:List V->Hp->VK->Prop}
theorem kd (D:k7 X.prog X.w X.K X.mg X.base x j ps sp) (hr:dq k X.A) (hg:Gl X x) (hj:j<=k) (ha:PA X (e::es) t) (hdb:(x == ("__debug__" :Str))=false:=by decide) (he:noStar e=true:=by rfl) (hpl:es.all noStar=true:=by rfl) :
  PE X (.Call (.Name x p) (e::es) [] pos) (vw sp [] E0 t):=Ny D hr hg hj ha hdb (cz he) (jG hpl)
theorem kB (hc:aW X (.builtin id) r) (hg:Gl X x) (hm:X.mg x=none) (hv:bootBuiltins x=some (.builtin id)) (ha:PA X (e::es) t) (hn:x≠ "__name__" :=by decide) (hdb:(x == ("__debug__" :Str))=false:=by decide) (he:noStar e=true:=by rfl) (hpl:es.all noStar=true:=by rfl) :
  PE X (.Call (.Name x p) (e::es) [] pos) (Iy r t):=AU hc hg hm hv ha hn hdb (cz he) (jG hpl)
theorem kT (hc:aW X (.type T) r) (hg:Gl X x) (hm:X.mg x=none) (hv:bootBuiltins x=some (.type T)) (ha:PA X (e::es) t) (hn:x≠ "__name__" :=by decide) (hdb:(x == ("__debug__" :Str))=false:=by decide) (he:noStar e=true:=by rfl) (hpl:es.all noStar=true:=by rfl) :
  PE X (.Call (.Name x p) (e::es) [] pos) (Iy r t):=xf hc hg hm hv ha hn hdb (cz he) (jG hpl)
end
open PySem PySem.Spec PyProof.Rows
end L2
end
section
open PySem PySem.W PyProof.Rows
namespace L2
open PySem PySem.Spec PyProof.Rows
structure QE (X:Cx) (e:Expr) (t:TE):Prop where h:PE X e t
structure QT (X:Cx) (e:Expr) (t:TT):Prop where h:PT X e t
structure QW (X:Cx) (e:Expr) (t:TT):Prop where h:PW X e t
structure QA (X:Cx) (es:List Expr) (t:TA):Prop where h:PA X es t
structure QO (X:Cx) (e:Option Expr) (t:TO):Prop where h:PO X e t
structure QS (X:Cx) (s:Stmt) (t:TS):Prop where h:PS X s t
structure zC (X:Cx) (s:List Stmt) (t:TS):Prop where h:uk X s t
structure QG (X:Cx) (e:Expr) (t:TG):Prop where h:PG X e t
structure Er (X:Cx) (e:List Expr) (t:oV):Prop where h:KS X e t
structure QI (X:Cx) (tg e:Expr) (t:TI):Prop where h:PI X tg e t
structure QF (X:Cx) (es:List Expr) (t:TT):Prop where h:PF X es t
structure QP (X:Cx) (pos:Pos) (ks:List (Option Expr)) (vs:List Expr) (t:List (TE × TE)):Prop where h:Ko X pos ks vs t
section
variable {X:Cx} {a b c e o i:Expr} {es:List Expr} {ta tb tc te td ty tx tv to ti:TE} {t t':TT} {tr:TA} {pos p p2 pos' apos cpos:Pos} {x y:Str}
theorem qv (i:Nat) {x:Str} {pos:Pos} (hN:X.N[i]?=some x:=by rfl) (hv:HH X.env.scope x:=by first | exact Or.inl rfl | exact Or.inr (Or.inl rfl) | exact Or.inr (Or.inr rfl)) (hd:(x == ("__debug__" :Str))=false:=by decide)
  (hcd:(x == ("__classdict__" :Str))=false:=by decide):QE X (.Name x pos) (LW i):=⟨E2 hN hv hd hcd⟩
theorem FR {n:Int} {j:Nat}:QE X (.Constant (.int n) j pos) (tC (.int n)):=⟨F5⟩
theorem KR {n:Bool} {j:Nat}:QE X (.Constant (.bool n) j pos) (tC (.bl n)):=⟨Kk⟩
theorem GD {j:Nat}:QE X (.Constant .none j pos) (tC .non):=⟨FX⟩
theorem GB {n:Str} {j:Nat}:QE X (.Constant (.str n) j pos) (tC (.str n)):=⟨EX⟩
theorem Ee {v:V} {u:Value} (hg:Gl X x) (hm:X.mg x=some u) (r:RelV v u) (hd:(x == ("__debug__" :Str))=false:=by decide):QE X (.Name x pos) (tC v):=⟨uS hg hm r hd⟩
theorem BL {v:V} {u:Value} (hg:Gl X x) (hm:X.mg x=none) (hv:bootBuiltins x=some u) (r:RelV v u) (hn:x≠ "__name__" :=by decide) (hd:(x == ("__debug__" :Str))=false:=by decide):QE X (.Name x pos) (tC v):=⟨Cz hg hm hv r hn hd⟩
theorem J1 {op:Operator} {r:R2} (ho:dI X (binaryOp op) r) (ha:QE X a ta) (hb:QE X b tb):QE X (.BinOp a op b pos) (D0 r ta tb):=⟨K2 ho ha.h hb.h⟩
theorem Il (ha:QE X a ta):QE X (.UnaryOp .Not a pos) (EE ta):=⟨Hg ha.h⟩
theorem IS {op:BoolOp} (h:QE X a ta):QE X (.BoolOp op [a] pos) ta:=⟨Gy h.h⟩
theorem FW {rest:List Expr} (ha:QE X a ta) (hb:QE X (.BoolOp .And (b::rest) pos) tb):QE X (.BoolOp .And (a::b::rest) pos) (Em ta tb):=⟨Jd ha.h hb.h⟩
theorem Kt {rest:List Expr} (ha:QE X a ta) (hb:QE X (.BoolOp .Or (b::rest) pos) tb):QE X (.BoolOp .Or (a::b::rest) pos) (Kn ta tb):=⟨Ln ha.h hb.h⟩
theorem yK (hc:QT X c t) (ha:QE X a ta) (hb:QE X b tb):QE X (.IfExp c a b pos) (Ob t ta tb):=⟨yB hc.h ha.h hb.h⟩
theorem IU {x1} (h:QA X es tr):QE X (.Tuple es x1 pos) (Ka tr):=⟨FF h.h⟩
theorem IB (h:QA X es tr):QE X (.List es pos) (K3 tr):=⟨Hj h.h⟩
theorem Aa:QE X (.Dict [] [] pos) yU:=⟨AH⟩
theorem BP:QP X pos [] [] []:=⟨BM⟩
theorem yb {k v:Expr} {ks:List (Option Expr)} {vs:List Expr} {tk:TE} {trs:List (TE × TE)} (hk:QE X k tk) (hv:QE X v tv) (hr:QP X pos ks vs trs):QP X pos (some k::ks) (v::vs) ((tk,tv)::trs):=⟨zr hk.h hv.h hr.h⟩
theorem Dy {ks:List (Option Expr)} {vs:List Expr} {trs:List (TE × TE)} (h:QP X pos ks vs trs) (hall:ks.all (·.isSome)=true) (hl:ks.length=vs.length) (h0:ks≠[]) (h15:ks.length<=15):QE X (.Dict ks vs pos) (EC trs):=⟨B8 h.h hall hl h0 h15⟩
theorem Cu:QO X none ve:=⟨Ds⟩
theorem DC (h:QE X e te):QO X (some e) (Ei te):=⟨CN h.h⟩
theorem Ac {r:V->Option Int->Option Int->Hp->VK->Prop} {lo hi:Option Expr} {tl th:TO} (hr:Bb X r) (he:QE X e te) (hl:QO X lo tl) (hu:QO X hi th):QE X (.Subscript e (.Slice lo hi none p2) pos) (NX r te tl th):=⟨Ae hr he.h hl.h hu.h⟩
theorem K1 {r:R2} (hr:xc X r) (ha:QE X a ta) (hb:QE X b tb) (hs:ql b):QE X (.Subscript a b pos) (D0 r ta tb):=⟨L4 hr ha.h hb.h hs⟩
theorem xS {f:Expr} (hu:X.A.units+1 < cLine) (ho:QE X o td) (he:QE X e ty) (hf:QE X f tx) (m:M2 X o "get" apos e f cpos):QE X (.Call (.Attribute o "get" apos) [e,f] [] cpos) (y9 td ty tx):=⟨xU hu ho.h he.h hf.h m⟩
theorem xZ:QA X [] KU:=⟨ID⟩
theorem qk (ha:QE X e te) (hr:QA X es tr) (hs:noStar e=true:=by rfl):QA X (e::es) (AS te tr):=⟨pk ha.h hr.h hs⟩
variable {k j:Nat} {ps:List Str} {sp:Sp} {id T:String} {r:List V->Hp->VK->Prop}
theorem qd (D:k7 X.prog X.w X.K X.mg X.base x j ps sp) (hr:dq k X.A) (hg:Gl X x) (hj:j<=k) (ha:QA X (e::es) tr) (hdb:(x == ("__debug__" :Str))=false:=by decide) (he:noStar e=true:=by rfl) (hpl:es.all noStar=true:=by rfl) :
  QE X (.Call (.Name x p) (e::es) [] pos) (vw sp [] E0 tr):=⟨kd D hr hg hj ha.h hdb he hpl⟩
theorem qB (hc:aW X (.builtin id) r) (hg:Gl X x) (hm:X.mg x=none) (hv:bootBuiltins x=some (.builtin id)) (ha:QA X (e::es) tr) (hn:x≠ "__name__" :=by decide) (hdb:(x == ("__debug__" :Str))=false:=by decide) (he:noStar e=true:=by rfl) (hpl:es.all noStar=true:=by rfl) :
  QE X (.Call (.Name x p) (e::es) [] pos) (Iy r tr):=⟨kB hc hg hm hv ha.h hn hdb he hpl⟩
theorem qT (hc:aW X (.type T) r) (hg:Gl X x) (hm:X.mg x=none) (hv:bootBuiltins x=some (.type T)) (ha:QA X (e::es) tr) (hn:x≠ "__name__" :=by decide) (hdb:(x == ("__debug__" :Str))=false:=by decide) (he:noStar e=true:=by rfl) (hpl:es.all noStar=true:=by rfl) :
  QE X (.Call (.Name x p) (e::es) [] pos) (Iy r tr):=⟨kT hc hg hm hv ha.h hn hdb he hpl⟩
theorem J9 {name:Str} {rm:V->List V->Hp->VK->Prop} (pa:PlainAttrs T) (slot:Slot T name id) (hty:typeOf (.builtin id)=pure (.type "method_descriptor")) (hm:DI X id rm) (ho:QE X o to) (ha:QA X [e] tr)
  (hbase:attributeBase o name X.env (eval o X.env)=eval o X.env:=by rfl) (hline:(apos.endLine == cpos.line)=true:=by rfl) (hs:noStar e=true:=by rfl) :
  QE X (.Call (.Attribute o name apos) [e] [] cpos) (NM X.K T rm to tr):=⟨JK pa slot hty hm ho.h ha.h hbase (by rw [cz hs];rfl) hline (cz hs) rfl⟩
theorem DY {op:CmpOp} {r:R2} (ho:dI X (compareOp op) r) (ha:QE X a ta) (hb:QE X b tb) (hm:behindInMarks op b=false):QE X (.Compare a [op] [b] pos) (D0 r ta tb):=⟨Bt ho ha.h hb.h hm⟩
theorem Co {op:CmpOp} {r:R2} (ho:dI X (compareOp op) r) (ha:QE X a ta) (hb:QE X b tb) (hm:behindInMarks op b=false):QT X (.Compare a [op] [b] pos) (zZ (D0 r ta tb)):=⟨Bm ho ha.h hb.h hm⟩
theorem FY {j:Nat} (ha:QE X a ta):QE X (.Compare a [.Is] [.Constant .none j pos'] pos) (II ta):=⟨Ie (yg ha.h)⟩
theorem HB {j:Nat} (ha:QE X a ta):QT X (.Compare a [.Is] [.Constant .none j pos'] pos) (tB (II ta)):=⟨zY (yg ha.h)⟩
theorem B4 {j:Nat} (ha:QE X a ta):QT X (.Compare a [.IsNot] [.Constant .none j pos'] pos) (tB (Ej ta)):=⟨zY (By ha.h)⟩
theorem Ec (ha:QT X a t):QW X (.BoolOp .And [a] pos) t:=⟨pw_and1 ha.h⟩
theorem GP (ha:QT X a t):QW X (.BoolOp .Or [a] pos) t:=⟨pw_or1 ha.h⟩
theorem Gx {rest:List Expr} (ha:QT X a t) (hb:QW X (.BoolOp .And (b::rest) pos) t'):QW X (.BoolOp .And (a::b::rest) pos) (Li t t'):=⟨pw_and ha.h hb.h⟩
theorem K8 {rest:List Expr} (ha:QT X a t) (hb:QW X (.BoolOp .Or (b::rest) pos) t'):QW X (.BoolOp .Or (a::b::rest) pos) (NS t t'):=⟨pw_or ha.h hb.h⟩
theorem QW.pt (h:QW X e t):QT X e t:=⟨h.h.pt⟩
theorem HN (ha:QT X a t):QT X (.UnaryOp .Not a pos) (LC t):=⟨Hc ha.h⟩
theorem Fo (h:QE X e te) (he: ∀ whole,isTrue e X.env whole=(do let v <- whole;standAt e.pos;holding [v] (truthy v)):=by intro _;rfl):QT X e (tB te):=⟨Ge h.h he⟩
theorem vk {i:Nat} (hN:X.N.Nodup) (hi:X.N[i]?=some x) (hx:Loc X.env.scope x) (hf:X.fn x=true∨X.env.scope.names.lookup x=some .local:=by first | exact .inl rfl | exact .inr rfl | assumption):QG X (.Name x pos) (fq i):=⟨C7 hN hi hx hf⟩
theorem vx:Er X [] wA:=⟨B2⟩
theorem sj {t:TG} {u:oV} (h1:QG X e t) (h2:Er X es u) (hs:(assignEach (e::es) X.env).map (·.2)=assign e X.env::(assignEach es X.env).map (·.2):=by rfl):Er X (e::es) (kP t u):=⟨zu h1.h h2.h hs⟩
theorem uO {k:Nat} {t:oV} {n:Nat} (hc:X.calm=true) (h:Er X es t) (hn:(assignEach es X.env).length=n:=by rfl) (hst:(assignEach es X.env).findIdx? (·.1)=none:=by rfl):QG X (.Tuple es k pos) (sZ X.K n t):=⟨Gu hc h.h hn hst⟩
variable {tg iter l:Expr} {wi:TI} {g:TG} {ta':TA}
theorem FT:QF X [] Ey:=⟨EU⟩
theorem FP (h:QT X c t):QF X [c] t:=⟨Ff h.h⟩
variable {scope:Scope} {ifs:List Expr} {body rest:List Stmt} {spos py:Pos} {tb' ts us:TS} {st:Stmt}
theorem yQ (vars:List Str) (hc:X.calm=true) (hx: ∀ v s,¬ X.xe v s) (hkind:scope.kind= .function) (hlc:gO scope.names X.env.scope.names X.N vars=true) (hi:QI X tg iter wi)
  (hb: ∀ cl C s₀ H₀ ex pn,QG (eG X vars scope cl C s₀ H₀ ex pn) tg g∧QF (eG X vars scope cl C s₀ H₀ ex pn) ifs t∧QE (eG X vars scope cl C s₀ H₀ ex pn) e te) (hgk:GK X.N.length g)
  (hs: ∀ x,foldedSetIterable iter X.env x=pure x:=by intro _;rfl):QE X (.ListComp e [⟨tg,iter,ifs,0⟩] scope pos) (Mq vars.length wi g t te) :=
 ⟨yI vars hc hx hkind hlc hi.h (fun cl C s₀ H₀ ex pn=>let ⟨h1,h2,h3⟩:=hb cl C s₀ H₀ ex pn;⟨h1.h,h2.h,h3.h⟩) hgk hs⟩
theorem AL (vars:List Str) (i:Nat) (hc:X.calm=true) (hx: ∀ v s,¬ X.xe v s) (hkind:scope.kind= .function) (hlc:gO scope.names X.env.scope.names X.N vars=true) (hN:X.N.Nodup) (hiy:X.N[i]?=some y) (hy:Loc X.env.scope y) (hi:QI X tg iter wi)
  (hb: ∀ cl C s₀ H₀ ex pn,QG (eG X vars scope cl C s₀ H₀ ex pn) tg g∧QF (eG X vars scope cl C s₀ H₀ ex pn) ifs t∧QE (eG X vars scope cl C s₀ H₀ ex pn) e te) (hgk:GK X.N.length g)
  (hsw:swapsWith (.ListComp e [⟨tg,iter,ifs,0⟩] scope pos) (some (.Name y py)) spos.line X.env=pure true:=by rfl) (hs: ∀ x,foldedSetIterable iter X.env x=pure x:=by intro _;rfl)
  (hf:X.fn y=true∨X.env.scope.names.lookup y=some .local:=by first | exact .inl rfl | exact .inr rfl | assumption) :
  QS X (.Assign [.Name y py] (.ListComp e [⟨tg,iter,ifs,0⟩] scope pos) spos) (zA vars.length i wi g t te) :=
 ⟨Au vars i hc hx hkind hlc hN hiy hy hi.h (fun cl C s₀ H₀ ex pn=>let ⟨h1,h2,h3⟩:=hb cl C s₀ H₀ ex pn;⟨h1.h,h2.h,h3.h⟩) hgk hsw hs hf⟩
theorem Ip {i:Nat} (hN:X.N.Nodup) (hi:X.N[i]?=some x) (hx:Loc X.env.scope x) (he:QE X e te) (hs:swapsWith e (some (.Name x pos')) pos.line X.env=pure false:=by rfl) (hf:X.fn x=true∨X.env.scope.names.lookup x=some .local:=by first | exact .inl rfl | exact .inr rfl | assumption) :
  QS X (.Assign [.Name x pos'] e pos) (DO te (fq i)):=⟨Gi hN hi hx he.h hs hf⟩
theorem yn (he:QE X e te) (hg:QG X tg g) (hs:swapsWithSole [tg] e pos.line X.env=pure false:=by rfl) (hw:swappedStores [tg] e X.env=pure none:=by rfl) (h1:(assignEach [tg] X.env).map (·.2)=[assign tg X.env]:=by rfl):QS X (.Assign [tg] e pos) (DO te g):=⟨Hy he.h hg.h hs hw h1⟩
theorem L3 {A B:List Stmt} (hc:QT X c t) (ha:zC X A ts) (hb:zC X B us):QS X (.If c A B pos) (Mc t ts us):=⟨LO hc.h ha.h hb.h⟩
theorem IT (hp:PassesOwn (model X.prog X.w) X.A X.env X.xe) (hc:X.calm=true) (hi:QI X tg iter wi) (hg:QG X tg g) (hb:zC X body tb') (hs: ∀ x,foldedSetIterable iter X.env x=pure x:=by intro _;rfl):QS X (.For tg iter body [] pos) (LD wi g tb'):=⟨GG hp hc hi.h hg.h hb.h hs⟩
theorem x6 (hp:PassesOwn (model X.prog X.w) X.A X.env X.xe) (hc:QT X c t) (hb:zC X body tb'):QS X (.While c body [] pos) (Al t tb'):=⟨yW hp hc.h hb.h⟩
theorem Br (he:QE X e te) (hs:swapsWith e none pos.line X.env=pure false:=by rfl):QS X (.Expr e pos) (EB te):=⟨BY he.h hs⟩
theorem GS (he:QE X e te):QS X (.Return (some e) pos) (Lo te):=⟨F1 he.h⟩
theorem CT:zC X [] yT:=⟨B0⟩
theorem y8 (h1:QS X st ts) (h2:zC X rest us):zC X (st::rest) (G7 ts us):=⟨zw h1.h h2.h⟩
theorem D6 (h1:QS X st ts):zC X [st] ts:=⟨Du h1.h⟩
end
theorem At.MV {P:Program} {w:World} {K:PySem.W.Frag} {mg:Str->Option Value} {base:Heap} {x:Str} {st:Stmt} {N ps:List Str} {k:Nat} {sp:Sp} (a:At K mg x st) (S:aC N ps (ai st))
  (hb: ∀ (kV doc pm:Value) (an:Option Addr) (cdv ct:Value) (us:List Value),us.length=ps.length->bindArgs (PySem.W.fnOf x x (cJ st) (bw st) (ai st) .none kV doc pm an cdv ct) ⟨us,[]⟩=pure (ps.zip us))
  (len: ∀ vs H Q E,sp vs H Q E->vs.length=ps.length)
  (hbody: ∀ (f:Addr) (cdv:Value) (A:Around) (outer:List Env) (s:Shared) (H:Hp) (vs:List V) (Q:VK) (E:XK),dq k (A.deeper (envOfC x (ai st) s.heap.objs.size f cdv))->sp vs H Q E ->
   ∃ t,zC (jd q8 P w K mg base N x (ai st) f cdv A outer s H E).nZ (bw st) t∧t { nx:=fun _ H'=>Q .non H',rt:=Q } (start N vs) H):k7 P w K mg base x (k+1) ps sp :=
 a.ok S hb len fun f cdv A outer s H vs Q E hr h=>let ⟨t,q,z⟩:=hbody f cdv A outer s H vs Q E hr h;⟨t,q.h,z⟩
end L2
end
section
open PySem PySem.W PyProof.Rows
namespace L2
open PySem PySem.Spec PyProof.Rows
theorem eS {xs:List V} {r:Int} (h:0<=r):lu xs (some r) none=xs.drop r.toNat:=by
 have e:r=((r.toNat:Nat):Int):=by omega
 unfold lu
 rw [e,HT.lU,HT.jv]
 simp only [Int.toNat_natCast]
 rcases Nat.le_total r.toNat xs.length with z | z
 · rw [Nat.min_eq_left z];exact List.take_of_length_le (by rw [List.length_drop];omega)
 · rw [Nat.min_eq_right z,List.drop_eq_nil_of_le (Nat.le_refl _),List.drop_eq_nil_of_le z];simp
theorem jl {xs:List V} {r:Int} (h:0<=r):lu xs none (some r)=xs.take r.toNat:=by
 have e:r=((r.toNat:Nat):Int):=by omega
 unfold lu
 rw [e,HT.lU,HT.jv]
 simp only [Int.toNat_natCast,List.drop_zero,Nat.sub_zero]
 rcases Nat.le_total r.toNat xs.length with z | z
 · rw [Nat.min_eq_left z]
 · rw [Nat.min_eq_right z,List.take_of_length_le (Nat.le_refl _),List.take_of_length_le z]
theorem Of {c A B:Prop} [Decidable c] (hc: ¬ c) (h:B):if c then A else B:=by rw [if_neg hc];exact h
open PySem PySem.Spec PyProof.Rows
noncomputable def Oo (k:Nat) (g:TG) (tt:TT) (te:TE) (σ :St) (Q:VK) (J:It) (H1:Hp):Prop:= ∃ W:Nat->Nat->List V->Hp->Prop,(∃ m,W 0 m [] H1)∧ ∀ i m ys H,W i m ys H ->
 (J.stop i H∧ ∀ p,H p=none->Q (.ref p) (upd H p (.lst ys))) ∨
 (J.go i H∧ys.length < sizeLine∧ ∀ x H',J.Jv i H x H'->g x (σ ++List.replicate k none) H' fun σ2 H2=>tt σ2 H2 fun b H3 =>
  if b=true then te σ2 H3 fun y H4=> ∃ m',m' < m∧W (i+1) m' (ys++[y]) H4 else ∃ m',m' < m∧W (i+1) m' ys H3)
class Np (trs:List (TE × TE)):Prop where
 m: ∀ σ H Q Q',(∀ ps H1,Q ps H1->Q' ps H1)->kK trs σ H Q->kK trs σ H Q'
open PySem PySem.Spec PyProof.Rows
theorem xE.MV {P:Program} {w:World} {K:PySem.W.Frag} {mg:Str->Option Value} {base:Heap} {x:Str} {st:Stmt} {f:Addr} {fd:FuncData} {N ps:List Str} {k:Nat} {sp:Sp} (F:xE K x x st f fd) (S:aC N ps (ai st)) (len: ∀ vs H Q E,sp vs H Q E->vs.length=ps.length)
  (hbody: ∀ (f:Addr) (cdv:Value) (A:Around) (outer:List Env) (s:Shared) (H:Hp) (vs:List V) (Q:VK) (E:XK),dq k (A.deeper (envOfC x (ai st) s.heap.objs.size f cdv))->sp vs H Q E ->
   ∃ t,zC (jd q8 P w K mg base N x (ai st) f cdv A outer s H E).nZ (bw st) t∧t { nx:=fun _ H'=>Q .non H',rt:=Q } (start N vs) H):jC P w K mg base q8 (k+1) f fd ps sp :=
 F.ok S len fun cdv A outer s H vs Q E hr h=>let ⟨t,q,z⟩:=hbody f cdv A outer s H vs Q E hr h;⟨t,q.h,z⟩
theorem Fw {K:PySem.W.Frag} {H:Hp} {a:Addr} {xs:List V} (o:yV H) (h:gm K H a xs):vE K H a xs:=by
 rcases h with (h | ⟨u,h⟩) | h
 · rcases o a with z | ⟨u,ys,z⟩<;>(rw [h] at z;cases z)
 · exact .inl ⟨u,h⟩
 · exact .inr h
end L2
end
section
open PySem PySem.W PyProof.Rows
namespace L2
open PySem PySem.Spec PyProof.Rows
noncomputable def KD (P:Program) (w:World) (K:PySem.W.Frag) (a:Addr) (kvs:List (Key × V)):Prop:=(a == sysModules)=false ∧
 ∃ (o:Obj) (es:Array DictEntry) (ep:Nat) (vs:List (Key × Value)),K.lookup a=some o∧o.ExactDict∧o.data= .dict es ep∧PySem.KeysOf (aI P w) es∧Pairs (aI P w) es.toList vs∧(vs.map (·.1)).Nodup∧KV kvs vs
theorem Inv.kd {X:Cx} {pins:List (Addr × Obj)} {σ :St} {H:Hp} {s:Shared} {a:Addr} {kvs:List (Key × V)} (I:Inv X pins σ H s) (h:KD X.prog X.w X.K a kvs): ∃ vs,KV kvs vs∧s.heap.DictOf (aI X.prog X.w) a vs:=by
 obtain ⟨_,o,es,ep,vs,h1,h2,h3,h4,h5,h6,h7⟩:=h
 exact ⟨vs,h7,o,es,ep,I.j1 a o h1,h2,h3,h4,h5,h6⟩
noncomputable def Eh (kvs:List (Key × V)) (ty:TE):TE:=fun σ H Q=>ty σ H fun y H2=> ∃ k v,y=kV k∧fZ kvs k=some v∧Q v H2
section
variable {X:Cx} {o i:Expr} {pos:Pos} {ty:TE} {a:Addr} {kvs:List (Key × V)}
theorem DZ (hk:KD X.prog X.w X.K a kvs) (ho:PE X o (tC (.ref a))) (hi:PE X i ty) (hs:CG i):PE X (.Subscript o i pos) (Eh kvs ty):=by
 intro pins s σ H Q I h
 refine Cs PySem.F.slot_dict_getitem.lookup hs (cL (ho pins s σ H (fun x H1=>x= .ref a∧H1=H) I ⟨rfl,rfl⟩) fun u s1 ⟨x,H1,I1,rx,ex,eH⟩=>?_)
 subst ex eH
 obtain rfl:u=Value.ref a:=rx
 refine cL (hi pins s1 σ H1 _ I1 h) fun iv s2 ⟨y,H2,I2,ry,k,v,ey,l,q2⟩=>?_
 subst ey
 obtain ⟨vs,rel,dd⟩:=I2.kd hk
 obtain ⟨w',hw,rw'⟩:=jA.some_of (v:=v) (o:=valueAt vs k) (by rw [<- l];exact rel.val k)
 exact ⟨dd.typeIs,wpAny_getItem_of (jX ry) dd.mapOf hw ⟨v,H2,I2.tok _,rw',q2⟩⟩
theorem Cp (hk:KD X.prog X.w X.K a kvs) (ho:QE X o (tC (.ref a))) (hi:QE X i ty) (hs:CG i):QE X (.Subscript o i pos) (Eh kvs ty):=⟨DZ hk ho.h hi.h hs⟩
end
noncomputable def Ef (w:World) (p:Str × Tok × Value):DictEntry:={ hash:=PyData.keyHash w.params p.1,key:= .str p.1 p.2.1,val:=p.2.2 }
theorem Lr {P:Program} {w:World} {K:PySem.W.Frag} {a:Addr} {ls:List (Str × Tok × Value)} {kvs:List (Key × V)} {ep:Nat} (hl:K.lookup a=some { cls:= .type "dict",data:= .dict (ls.map (Ef w)).toArray ep }) (ha:(a == sysModules)=false)
  (hn:(ls.map fun p=>(Sum.inr p.1:Key)).Nodup) (hk:KV kvs (ls.map fun p=>((Sum.inr p.1:Key),p.2.2))):KD P w K a kvs:=by
 refine ⟨ha,_,_,ep,ls.map fun p=>((Sum.inr p.1:Key),p.2.2),hl,⟨rfl,rfl,rfl⟩,rfl,?_,?_,by rw [List.map_map];exact hn,hk⟩
 · intro e he
   have he':e∈ls.map (Ef w):=List.mem_toArray.mp he
   obtain ⟨p,_,rfl⟩:=List.mem_map.mp he'
   exact ⟨.inr p.1,kI p.1 p.2.1,rfl⟩
 · clear hl hn hk
   show Pairs (aI P w) (ls.map (Ef w)) _
   induction ls with
   | nil=>exact .nil
   | cons p r ih=>exact .cons (kI p.1 p.2.1) rfl ih
open PySem PySem.Spec PyProof.Rows
theorem rF {bs:List Bool}: ∀ {us:List Value},Vals (bs.map V.bl) us->LSm.BoolsAre us bs:=by
 induction bs with
 | nil=>intro us h;cases h;exact .nil
 | cons b r ih =>
  intro us h
  cases h with
  | cons hx ht =>
   cases (show _=Value.bool b from hx)
   exact .cons _ (ih ht)
theorem xp {s:Shared} {h':Heap} {o:Obj} (hk: ∀ b x,b ∉ [s.heap.objs.size]->(s.heap.push o).get? b=some x->h'.get? b=some x): ∀ b x,s.heap.get? b=some x->h'.get? b=some x :=
 fun b x e=>hk b x (by intro z;rw [List.mem_singleton.mp z] at e;exact absurd (Heap.lt_size e) (Nat.lt_irrefl _)) (Heap.get?_push_of_some _ e)
section
variable {X:Cx}
noncomputable def MN (K:PySem.W.Frag):List V->Hp->VK->Prop:=fun xs H Q=> ∃ (p:Addr) (bs:List Bool),xs=[.ref p]∧gm K H p (bs.map V.bl)∧Q (.bl (bs.all id)) H
theorem BJ (hc:X.calm=true):aW X (.builtin "all") (MN X.K):=by
 intro pins s σ H xs us Q I r h
 obtain ⟨p,bs,rfl,hS,q⟩:=h
 obtain ⟨u,rfl,ru⟩:=vals1 r
 cases (show u=Value.ref p from ru)
 obtain ⟨aw,hv,pl,hz⟩:=I.list hS
 have hl:=pl.isList
 have hb:=rF hv
 have hlt:p < s.heap.objs.size:=by obtain ⟨_,e,_⟩:=hl;exact Heap.lt_size e
 refine call_all_walk (wpAny_pyIter_list (items:=aw.toArray) hl ?_)
 refine ⟨s.heap.objs.size,[s.heap.objs.size,p],[s.heap.objs.size],aw.toArray.size,_,_,fun i=>(bs[i]?).getD true,rfl,Walks.list (A:=X.A.in1) (I.ok.hd hc) _ p (Nat.ne_of_lt hlt) aw.toArray,⟨⟨_,Heap.get?_push_size _ rfl,rfl,rfl⟩,hl.push _⟩,?_,?_⟩
 · intro i v s' Q' E' hP hQ
   obtain ⟨b,e,rfl⟩:=hb.get i v (by simpa using hP)
   simp only [Option.getD_some,e] at hQ
   exact wpAny_truthy_bool hQ
 · intro h' tk hk
   rw [show ((List.range aw.toArray.size).all fun i=>(bs[i]?).getD true)=bs.all id by rw [List.size_toArray,hb.length];exact LSm.range_all bs]
   exact ⟨.bl (bs.all id),H,I.kept (xp hk),rfl,q⟩
end
open PySem PySem.Spec PyProof.Rows
noncomputable def Ms (x:Str):It:=⟨fun i _=>i < x.cps.size,fun i H v H'=>H'=H∧ ∃ c,x.cps[i]?=some c∧v= .str ⟨#[c]⟩,fun i _=>i=x.cps.size⟩
theorem rU {P:Program} {w:World} {K:PySem.W.Frag} {tg:Expr} {ty:String} (x:Str) (t:Tok) (it:Addr) (hty:["enumerate", "zip", "dict_itemiterator", "dict_reverseitemiterator", "odict_iterator", "itertools.zip_longest", "itertools.pairwise"].contains ty=false)
  (W: ∀ A:Around,A.handled=none->Walks P w A it [it] [it] x.cps.size (SignAt x) (fun i h=>h.IsStrIter it ty x t i)) (S: ∀ (A:Around) (i:Nat) (s:Shared) (Q:Value->Shared->Prop) (E:Value->Shared->Prop),s.heap.IsStrIter it ty x t i->Q (.ref it) s->wpAny (model P w) A (pyIter (.ref it)) Q E s) :
  Turn P w K tg (Ms x) [it] it (fun i h=>h.IsStrIter it ty x t i) where
 mem:=by simp
 obj:=fun i h st b hb=>by
  have e:b=it:=by simpa using hb
  subst e
  obtain ⟨o,e,c,d⟩:=st
  exact ⟨o,e,fun v z=>by rw [d] at z;cases z⟩
 keep:=fun i h h' st k=>let ⟨o,e,r⟩:=st;⟨o,k it (by simp) o e,r⟩
 item:=by
  intro X hP hw hK hc i pins s σ H E I hf st hg
  subst hP hw hK
  obtain ⟨f0,f1,f2,f3,f4,f5⟩:=hf it (by simp)
  refine (W X.A (I.ok.hd hc)).item i s _ _ hg st fun v h' tk hv st' hk=>?_
  obtain ⟨c,u,hx,rfl⟩:=hv
  have I1:Inv X pins σ H { s with heap:=h',toks:=tk }:=I.turned (t':=tk) (fun b o hb e=>hk b o (by simpa using hb) e) f0 f1 f3 f4 f5
  obtain ⟨o,e,cc,d⟩:=id st'
  exact ⟨_,rfl,vc (s:={ s with heap:=h',toks:=tk }) e cc d hty ⟨.str ⟨#[c]⟩,H,I1,⟨_,rfl⟩,⟨rfl,c,hx,rfl⟩,st',fun b hb=>(hf b hb).1⟩⟩
 done:=by
  intro X hP hw hK hc i pins s σ H E I hf st hg
  subst hP hw hK
  obtain ⟨f0,f1,f2,f3,f4,f5⟩:=hf it (by simp)
  have hi:i=x.cps.size:=hg
  subst hi
  exact (W X.A (I.ok.hd hc)).done s _ _ st fun h' tk hk=>⟨rfl,I.turned (t':=tk) (fun b o hb e=>hk b o (by simpa using hb) e) f0 f1 f3 f4 f5⟩
 self:=fun A i s Q E st h=>S A i s Q E st h
theorem fY {x:Str} {k:Nat} {g:TG} {tt:TT} {te:TE} [EJ g] [ED tt] [EM te] {σ :St} {H:Hp} {Q:VK} (Pv:Nat->List V->Hp->Prop) (h0:Pv 0 [] H) (hl: ∀ i ys H,i<=x.cps.size->Pv i ys H->ys.length<=i) (hz:x.cps.size<=sizeLine)
  (hs: ∀ i c ys H,x.cps[i]?=some c->Pv i ys H->g (.str ⟨#[c]⟩) (σ ++List.replicate k none) H fun σ2 H2=>tt σ2 H2 fun b H3=>if b=true then te σ2 H3 fun y H4=>Pv (i+1) (ys++[y]) H4 else Pv (i+1) ys H3)
  (hd: ∀ ys H,Pv x.cps.size ys H-> ∀ p,H p=none->Q (.ref p) (upd H p (.lst ys))):Oo k g tt te σ Q (Ms x) H:=by
 refine ⟨fun i m ys H=>m=x.cps.size - i∧i<=x.cps.size∧Pv i ys H,⟨x.cps.size,by simp,Nat.zero_le _,h0⟩,?_⟩
 rintro i m ys H ⟨rfl,hi,p⟩
 have hy:=hl i ys H hi p
 by_cases hlt:i < x.cps.size
 · refine .inr ⟨hlt,by omega,fun v H' y=>?_⟩
   obtain ⟨e,c,hc,rfl⟩:=y
   subst e
   refine EJ.m (g:=g) _ _ _ _ _ (fun σ2 H2 z=>ED.m (t:=tt) _ _ _ _ (fun b H3 z=>?_) z) (hs i c ys _ hc p)
   cases b with
   | true =>
    rw [if_pos rfl] at z ⊢
    exact EM.m (t:=te) _ _ _ _ (fun v H4 w=>⟨x.cps.size - (i+1),by omega,rfl,hlt,w⟩) z
   | false =>
    rw [if_neg Bool.false_ne_true] at z ⊢
    exact ⟨x.cps.size - (i+1),by omega,rfl,hlt,z⟩
 · have e:i=x.cps.size:=by omega
   subst e
   exact .inl ⟨rfl,hd ys H p⟩
end L2
end
section
open PySem PySem.W PyProof.Rows
namespace L2
open PySem PySem.Spec PyProof.Rows
section
variable {X:Cx}
end
open PySem PySem.Spec PyProof.Rows
open PySem PySem.Spec PyProof.Rows
open PySem PySem.Spec PyProof.Rows
theorem Cg {X:Cx} {x:Str} {a:Addr} {pos:Pos} (hg:Gl X x) (hm:X.mg x=some (.ref a)) (hd:(x == ("__debug__" :Str))=false:=by decide):QE X (.Name x pos) (tC (.ref a)):=⟨uS hg hm rfl hd⟩
end L2
end
section
open PySem PySem.W PyProof.Rows
namespace L2
open PySem PySem.Spec PyProof.Rows
theorem nY (l:Addr) (o:Obj) (b:Str) (u:Tok) :
  Meets (Builtin.«dict.__eq__» ⟨[.ref l,.str b u],[]⟩) (fun _ R s=>s.heap.get? l=some o∧R (.ok (.ret .notImplemented)) s) :=
 .of_wp fun prog w A R s h=>by
  obtain ⟨hp,g,d,tk,os⟩:=s;obtain ⟨hl,h⟩:=h;have f1:=PySem.F.sub_str_dict;wp_walk;exact ⟨_,rfl,h⟩
theorem qS (b:Str) (u:Tok) (l:Addr) (c:Value) (es:Array DictEntry) (ep:Nat) (dd:Option Addr) (sl:Array (Option Value)) :
  Meets (Builtin.«str.__eq__» ⟨[.str b u,.ref l],[]⟩) (fun _ R s=>s.heap.get? l=some { cls:=c,dict:=dd,data:= .dict es ep,slots:=sl }∧R (.ok (.ret .notImplemented)) s) :=
 .of_wp fun prog w A R s h=>by obtain ⟨hp,g,d,tk,os⟩:=s;obtain ⟨hl,h⟩:=h;wp_walk using AutoSeq1.wpAny_loadPart' hl,wpAny_load hl;exact ⟨_,rfl,h⟩
theorem rQ {A:Around} {s:Shared} {l:Addr} {o:Obj} {es:Array DictEntry} {ep:Nat} (b:Str) (u:Tok) (hl:s.heap.get? l=some o) (hx:o.ExactDict) (hd:o.data= .dict es ep) (hu:A.units < cLine):SeqAt.RcAt A s (.ref l) (.str b u) false:=fun prog w E Q h=>by
 obtain ⟨cls,dd,data,sl⟩:=o
 have hc:cls= .type "dict" :=hx.1
 simp only at hd
 subst hc hd
 exact SeqAt.rc_eq_decline_or (k:=false) ⟨_,hl,rfl⟩ (typeIs_str s b u) (by decide) PySem.F.sub_str_dict PySem.F.slot_dict_eq PySem.F.slot_str_eq_refl
  (fun _ hq=>call_meets PySem.F.slot_dict_eq ⟨_,hl,rfl⟩ PySem.F.entry_dict_eq (PySem.F.args_dict_eq_2 _ _) (nY l _ b u) ⟨hl,hq⟩)
  (fun _ hq=>call_meets PySem.F.slot_str_eq_refl (typeIs_str s b u) PySem.F.entry_str_eq (PySem.F.args_str_eq_2 _ _) (qS b u l (.type "dict") es ep dd sl) ⟨hl,hq⟩)
  (fun _ z=>wpAny_of_eq (show isSame (.ref l) (.str b u)=pure false from rfl) z) (.inr hu) h
noncomputable def Ly (K:PySem.W.Frag):R2:=fun x y H Q=> ∃ p z,x= .ref p∧y= .str z∧((∃ xs,gm K H p xs)∨(∃ xs,fJ K H p xs)∨ ∃ kvs,H p=some (.dK kvs))∧Q (.bl false) H
noncomputable def Kq (K:PySem.W.Frag):V->Option Int->Option Int->Hp->VK->Prop:=fun x lo hi H Q=> ∃ a xs,x= .ref a∧fJ K H a xs∧(HT.c8 xs.length 0 lo=0∧HT.c8 xs.length xs.length hi=xs.length)∧Q (.ref a) H
noncomputable def EI (K:PySem.W.Frag):R2:=fun x y H Q=> ∃ a b ys,x= .ref a∧y= .ref b∧fJ K H a []∧fJ K H b ys∧Q (.ref b) H
noncomputable def Eo:R2:=fun x y H Q=> ∃ a b,x= .str a∧y= .str b∧a.length+b.length<=sizeLine∧Q (.str (a++b)) H
theorem kJ:fillsNumberSlot (.type "tuple") "mul" =pure false :=
 PySem.fillsNumberSlot_seq (id:= "tuple.__mul__") (r:=some (.builtin "tuple.__rmul__")) PySem.F.slot_tuple_mul.lookup (by decide +kernel) PySem.F.slot_tuple_rmul.lookup (by decide +kernel)
theorem pR:seqRepeat? (.type "tuple")=pure (some (.builtin "tuple.__mul__")):=by
 unfold seqRepeat?
 rw [PySem.seqSlot_of (T:= "tuple") (name:= "__mul__") (id:= "tuple.__mul__") PySem.F.slot_tuple_mul.lookup (by decide +kernel),PySem.seqSlot_of (T:= "tuple") (name:= "__rmul__") (id:= "tuple.__rmul__") PySem.F.slot_tuple_rmul.lookup (by decide +kernel)]
 rfl
theorem nz (a:Int) (t:Tok) (l:Addr) (items:Array Value) (n:Nat) (dd:Option Addr) (sl:Array (Option Value)) :
  Meets (Builtin.«int.__rmul__» ⟨[.int a t,.ref l],[]⟩) (fun _ R s=>s.heap.get? l=some { cls:= .type "tuple",dict:=dd,data:= .seq items n,slots:=sl }∧R (.ok (.ret Value.notImplemented)) s) :=
 .of_wp fun prog w A R s h=>by obtain ⟨hp,g,d,tk,os⟩:=s;obtain ⟨hl,h⟩:=h;wp_walk using AutoSeq1.wpAny_loadPart' hl,wpAny_load hl;exact ⟨_,rfl,h⟩
theorem oB {prog:Program} {w:World} {A:Around} {E:Value->Shared->Prop} {s:Shared} {t sl:Addr} {items:Array Value} {vl vu:Value} {lo hi:Option Int} {Q:Value->Shared->Prop} (ht:IsTup s.heap t items) (hs:s.heap.IsSliceOf sl vl vu .none) (pl:IsPart vl lo) (pu:IsPart vu hi)
  (hw:HT.c8 items.size 0 lo=0∧HT.c8 items.size items.size hi=items.size) (h:Q (.ref t) s):wpAny (model prog w) A (getItem (.ref t) (.ref sl)) Q E s:=by
 obtain ⟨os,hos,hcs,hds⟩:=id hs
 have hTs:s.TypeIs (.ref sl) "slice" :=⟨os,hos,hcs⟩
 unfold getItem
 try with_reducible refine wpAny_holding ?_
 first | refine wpAny_bind (wpAny_pure ?_) | skip
 refine wpAny_bind (wpAny_sequenceKey ht.typeIs (by decide) ?_)
 refine wpAny_bind (wpAny_callSpecial?_slot (name:=Str.ofString "__getitem__") ht.typeIs PyProof.Rows.slot_tuple_getitem
  (wpAny_call_entry PyProof.Rows.slot_tuple_getitem ht.typeIs entry_tuple_getitem ?_ (args_tuple_getitem _ _)))
 show wpAny _ _ (Builtin.Tuple.tupleItemsOf (.ref t) >>= _) _ _ s
 refine wpAny_bind (tupleItemsOf_ ht ?_)
 refine wpAny_bind (wpAny_typeOf hTs ?_)
 rw [if_pos (by decide)]
 refine wpAny_bind (HT.gj hs pl pu ?_)
 show wpAny _ _ (if (((HT.c8 items.size 0 lo:Nat):Int) == 0&&(1:Int) == 1&&(HT.c8 items.size items.size hi - HT.c8 items.size 0 lo) == items.size)=true then _ else _) _ _ s
 rw [if_pos (by rw [hw.1,hw.2];simp)]
 refine wpAny_bind (m:=Builtin.Tuple.tupleIsExact _) (wpAny_bind (wpAny_typeOf ht.typeIs (wpAny_pure ?_)))
 rw [if_pos (by decide)]
 exact wpAny_bind (wpAny_rule (wpAny_pure ⟨_,rfl,wpAny_pure h⟩))
section
variable {X:Cx}
theorem Ca (hu:X.A.units < cLine):dI X (compareOp .Eq) (Ly X.K):=by
 intro pins s σ H x y v u Q I rx ry h
 obtain ⟨p,z,rfl,rfl,hp,hQ⟩:=h
 cases (show v=Value.ref p from rx)
 obtain ⟨t,rfl⟩:=ry
 have fin:EP X pins σ Q (.bool false) s:=⟨.bl false,H,I,rfl,hQ⟩
 rcases hp with ⟨xs,hp⟩ | ⟨xs,hp⟩ | ⟨kvs,hp⟩
 · obtain ⟨aw,hv,pl,hz⟩:=I.list hp
   exact SeqAt.RcAt.list_str z t pl.isList hu _ _ _ _ fin
 · obtain ⟨aw,hv,pl,hz⟩:=I.tuple hp
   exact SeqAt.RcAt.tuple_str z t pl hu _ _ _ _ fin
 · obtain ⟨_,_,vs,_,o,es,ep,e,hx,hd,_⟩:=mD I.bz hp
   exact rQ z t e hx hd hu _ _ _ _ fin
theorem DA:Bb X (Kq X.K):=by
 intro pins s σ H x v vl vu lo hi sl Q I rx hs pl pu h
 obtain ⟨a,xs,rfl,hx,hw,q⟩:=h
 cases rx
 obtain ⟨aw,r,ht,hz⟩:=I.tuple hx
 have hlen:aw.toArray.size=xs.length:=by rw [List.size_toArray];exact r.length.symm
 refine ⟨"tuple",_,PyProof.Rows.slot_tuple_getitem.lookup,ht.typeIs,?_⟩
 exact oB ht hs pl pu (by rw [hlen];exact hw) ⟨.ref a,H,I,rfl,q⟩
theorem C3:dI X (binaryOp .Add) (EI X.K):=by
 intro pins s σ H x y v u Q I rx ry h
 obtain ⟨a,b,ys,rfl,rfl,ha,hb,q⟩:=h
 cases (show v=Value.ref a from rx)
 cases (show u=Value.ref b from ry)
 obtain ⟨aw,r1,p1,_⟩:=I.tuple ha
 obtain ⟨its2,r2,p2,_⟩:=I.tuple hb
 have e1:aw=[]:=by cases r1;rfl
 subst e1
 obtain ⟨⟨cls,dd,data,sl⟩,ho,hc,n,hd⟩:=id p1
 obtain ⟨⟨cls2,dd2,data2,sl2⟩,ho2,hc2,n2,hd2⟩:=id p2
 simp only at hc hd hc2 hd2
 subst hc hd hc2 hd2
 exact concat_meets ⟨_,ho,rfl⟩ ⟨_,ho2,rfl⟩ noFill_tuple_add seq_tuple_add PySem.F.slot_tuple_add PySem.F.entry_tuple_add (PySem.F.args_tuple_add_2 _ _)
  (tuple_addW0 a b _ _ n n2 dd dd2 sl sl2 rfl) ⟨ho,ho2,⟨.ref b,H,I,rfl,q⟩⟩
theorem DW:dI X (binaryOp .Add) Eo:=by
 intro pins s σ H x y v u Q I rx ry h
 obtain ⟨a,b,rfl,rfl,hz,q⟩:=h
 obtain ⟨t,rfl⟩:=rx
 obtain ⟨t',rfl⟩:=ry
 exact PyProof.Rows.add_str (fun t' tk=>⟨.str (a++b),H,I.tok _,⟨_,rfl⟩,q⟩) hz
theorem Ii:dI X (binaryOp .Add) (fun x y H Q=>(Dt fun i j=> .int (i+j)) x y H Q∨(Lv x y H Q∨(EG X.K x y H Q∨(EI X.K x y H Q∨Eo x y H Q)))):=Im.or (HQ.or (Eg.or (C3.or DW)))
theorem Oe:Bb X (fun x lo hi H Q=>LQ X.K x lo hi H Q∨(Ky X.K x lo hi H Q∨Kq X.K x lo hi H Q)):=D4.or (E3.or DA)
end
section
variable {X:Cx} {o i:Expr} {pos:Pos} {ty:TE} {a:Addr} {kvs:List (Key × V)}
end
end L2
end
section
open PySem PySem.W PyProof.Rows
namespace L2
open PySem PySem.Spec PyProof.Rows
noncomputable def vL {α :Type} (c:Nat->Nat->Bool):KasT α -> α
 | .ret a=>a
 | .ask i j k=>vL c (k (c i j))
noncomputable def xK {α :Type} (n:Nat) (c:Nat->Nat->Bool):KasT α ->Bool
 | .ret _=>true
 | .ask i j k=>decide (i < n)&&decide (j < n)&& !decide (i=j)&&xK n c (k (c i j))
theorem sf {α :Type} {cmp:Nat->Nat->(Bool->Shared->Prop)->Shared->Prop} {n:Nat} {c:Nat->Nat->Bool} {s:Shared} (hc: ∀ i j C,i < n->j < n->i≠j->C (c i j) s->cmp i j C s) {Q: α ->Shared->Prop} :
  ∀ t:KasT α,xK n c t=true->Q (vL c t) s->t.kasWp cmp Q s
 | .ret a,_,q=>q
 | .ask i j k,h,q=>by
  simp only [xK,Bool.and_eq_true,decide_eq_true_eq,Bool.not_eq_true',decide_eq_false_iff_not] at h
  exact hc i j _ h.1.1.1 h.1.1.2 h.1.2 (sf hc (k (c i j)) h.2 q)
noncomputable def fW {α :Type} (n:Nat) (c:Nat->Nat->Bool) (t:KasT α) (Q: α ->Prop):Prop:=xK n c t=true∧Q (vL c t)
theorem fW.ret {α :Type} {n:Nat} {c:Nat->Nat->Bool} {a: α} {Q: α ->Prop} (h:Q a):fW n c (.ret a) Q:=⟨rfl,h⟩
theorem fW.ask {α :Type} {n:Nat} {c:Nat->Nat->Bool} {i j:Nat} {k:Bool->KasT α} {Q: α ->Prop} (hi:i < n) (hj:j < n) (hij:i≠j) (h:fW n c (k (c i j)) Q):fW n c (.ask i j k) Q :=
 ⟨by simp only [xK,hi,hj,hij,h.1,decide_true,decide_false,Bool.not_false,Bool.and_self],h.2⟩
theorem fW.bind {α β :Type} {n:Nat} {c:Nat->Nat->Bool} {f: α ->KasT β} {Q: β ->Prop}: ∀ {t:KasT α},fW n c t (fun a=>fW n c (f a) Q)->fW n c (t.bind f) Q
 | .ret a,h=>h.2
 | .ask i j k,h=>by
  have e:=h.1
  simp only [xK,Bool.and_eq_true,decide_eq_true_eq,Bool.not_eq_true',decide_eq_false_iff_not] at e
  exact fW.ask e.1.1.1 e.1.1.2 e.1.2 (fW.bind (t:=k (c i j)) ⟨e.2,h.2⟩)
theorem fW.mono {α :Type} {n:Nat} {c:Nat->Nat->Bool} {t:KasT α} {Q Q': α ->Prop} (h:fW n c t Q) (f: ∀ a,Q a->Q' a):fW n c t Q':=⟨h.1,f _ h.2⟩
structure fu (n:Nat) (p:Array Nat):Prop where
 perm:p.toList.Perm (List.range n)
theorem fu.size {n:Nat} {p:Array Nat} (h:fu n p):p.size=n:=by simpa using h.perm.length_eq
theorem fu.lt {n:Nat} {p:Array Nat} (h:fu n p) {i:Nat} (hi:i < n):p.getD i 0 < n:=by
 have hi':i < p.size:=h.size ▸ hi
 have:p.getD i 0∈p.toList:=by
  rw [Array.getD_eq_getD_getElem?,Array.getElem?_eq_getElem hi']
  exact Array.getElem_mem_toList hi'
 exact List.mem_range.mp (h.perm.mem_iff.mp this)
theorem fu.ne {n:Nat} {p:Array Nat} (h:fu n p) {i j:Nat} (hi:i < n) (hj:j < n) (hij:i≠j):p.getD i 0≠p.getD j 0:=fun e=>by
 have hi':i < p.size:=h.size ▸ hi
 have hj':j < p.size:=h.size ▸ hj
 have nd:p.toList.Nodup:=h.perm.nodup_iff.mpr List.nodup_range
 rw [Array.getD_eq_getD_getElem?,Array.getD_eq_getD_getElem?,Array.getElem?_eq_getElem hi',Array.getElem?_eq_getElem hj'] at e
 exact hij ((List.getElem?_inj (by simpa using hi') nd).mp (by rw [Array.getElem?_toList,Array.getElem?_toList,Array.getElem?_eq_getElem hi',Array.getElem?_eq_getElem hj'];exact congrArg some e))
theorem fu.of {n:Nat} {p q:Array Nat} (h:fu n p) (pm:q.Perm p):fu n q:=⟨(Array.perm_iff_toList_perm.mp pm).trans h.perm⟩
theorem t6 (n:Nat):fu n (List.toArray (List.range n)):=⟨List.Perm.refl _⟩
section
variable {n:Nat} {r:Nat->Nat}
noncomputable def rk (r:Nat->Nat) (p:Array Nat) (i:Nat):Nat:=r (p.getD i 0)
noncomputable def oy (r:Nat->Nat) (p:Array Nat) (k:Nat):Prop:= ∀ i j,i < j->j < k->rk r p i < rk r p j
noncomputable def nr (r:Nat->Nat) (p:Array Nat) (k:Nat):Prop:= ∀ i j,i < j->j < k->rk r p j < rk r p i
noncomputable def cN (r:Nat->Nat) (i j:Nat):Bool:=decide (r i < r j)
noncomputable def qX (n:Nat) (r:Nat->Nat):Prop:= ∀ i j,i < n->j < n->r i=r j->i=j
theorem zB {p:Array Nat} (hr:qX n r) (h:fu n p) {i j:Nat} (hi:i < n) (hj:j < n) (hij:i≠j):rk r p i≠rk r p j:=fun e=>h.ne hi hj hij (hr _ _ (h.lt hi) (h.lt hj) e)
theorem C5 {p:Array Nat} {k:Nat} (h:oy r p k) (hk:1<=k) (x:rk r p (k - 1) < rk r p k):oy r p (k+1):=fun i j hij hj=>by
 rcases Nat.lt_or_ge j k with c | c
 · exact h i j hij c
 · have:j=k:=by omega
   subst this
   rcases Nat.lt_or_ge i (j - 1) with d | d
   · exact Nat.lt_trans (h i (j - 1) d (by omega)) x
   · have:i=j - 1:=by omega
     subst this;exact x
theorem pC {p:Array Nat} {k:Nat} (h:nr r p k) (hk:1<=k) (x:rk r p k < rk r p (k - 1)):nr r p (k+1):=fun i j hij hj=>by
 rcases Nat.lt_or_ge j k with c | c
 · exact h i j hij c
 · have:j=k:=by omega
   subst this
   rcases Nat.lt_or_ge i (j - 1) with d | d
   · exact Nat.lt_trans x (h i (j - 1) d (by omega))
   · have:i=j - 1:=by omega
     subst this;exact x
theorem tW {p:Array Nat} (hr:qX n r) (h:fu n p): ∀ (f m:Nat),1<=m->m+f<=n->oy r p m ->
  fW n (cN r) (kas_asc p f m) fun m'=>m<=m'∧m'<=m+f∧oy r p m'∧(m' < m+f->rk r p m' < rk r p (m' - 1))
 | 0,m,h1,hm,u=>fW.ret ⟨Nat.le_refl _,Nat.le_refl _,u,fun x=>absurd x (Nat.lt_irrefl _)⟩
 | f+1,m,h1,hm,u=>by
  refine fW.ask (h.lt (by omega)) (h.lt (by omega)) (h.ne (by omega) (by omega) (by omega)) ?_
  have ne:=zB hr h (i:=m) (j:=m - 1) (by omega) (by omega) (by omega)
  by_cases c:rk r p m < rk r p (m - 1)
  · have e:cN r (p.getD m 0) (p.getD (m - 1) 0)=true:=decide_eq_true c
    rw [e,if_pos rfl]
    exact fW.ret ⟨Nat.le_refl _,by omega,u,fun _=>c⟩
  · have e:cN r (p.getD m 0) (p.getD (m - 1) 0)=false:=decide_eq_false c
    rw [e,if_neg (by simp)]
    refine (tW hr h f (m+1) (by omega) (by omega) (C5 u h1 (by omega))).mono fun m' x=>⟨by omega,by omega,x.2.2.1,fun y=>x.2.2.2 (by omega)⟩
theorem vd {p:Array Nat} (hr:qX n r) (h:fu n p): ∀ (f m:Nat),1<=m->m+f<=n->nr r p m ->
  fW n (cN r) (kas_desc f p m 0) fun t=>t.1=p∧t.2.2=0∧m<=t.2.1∧t.2.1<=m+f∧nr r p t.2.1
 | 0,m,h1,hm,u=>fW.ret ⟨rfl,rfl,Nat.le_refl _,Nat.le_refl _,u⟩
 | f+1,m,h1,hm,u=>by
  refine fW.ask (h.lt (by omega)) (h.lt (by omega)) (h.ne (by omega) (by omega) (by omega)) ?_
  have ne:=zB hr h (i:=m) (j:=m - 1) (by omega) (by omega) (by omega)
  by_cases c:rk r p m < rk r p (m - 1)
  · have e:cN r (p.getD m 0) (p.getD (m - 1) 0)=true:=decide_eq_true c
    rw [e,if_pos rfl,if_neg (by omega)]
    refine (vd hr h f (m+1) (by omega) (by omega) (pC u h1 c)).mono fun t x=>⟨x.1,x.2.1,by omega,by omega,x.2.2.2.2⟩
  · have e:cN r (p.getD m 0) (p.getD (m - 1) 0)=false:=decide_eq_false c
    rw [e,if_neg (by simp)]
    refine fW.ask (h.lt (by omega)) (h.lt (by omega)) (h.ne (by omega) (by omega) (by omega)) ?_
    have e2:cN r (p.getD (m - 1) 0) (p.getD m 0)=true:=decide_eq_true (show rk r p (m - 1) < rk r p m by omega)
    rw [e2,if_pos rfl]
    exact fW.ret ⟨rfl,rfl,Nat.le_refl _,Nat.le_add_right _ _,u⟩
theorem Ag {p:Array Nat} {m:Nat} (hm:m<=p.size) (k:Nat):rk r (kas_rev p 0 m) k=if k < m then rk r p (m - 1 - k) else rk r p k:=by
 unfold rk kas_rev
 rw [Array.getD_eq_getD_getElem?,getElem?_mirror_all hm]
 by_cases c:k < m
 · rw [if_pos ⟨Nat.zero_le _,c⟩,if_pos c,Array.getD_eq_getD_getElem?,Nat.zero_add]
 · rw [if_neg (fun x=>c x.2),if_neg c,Array.getD_eq_getD_getElem?]
theorem zo {p:Array Nat} (hr:qX n r) (h:fu n p) {m:Nat} (h1:1<=m) (hm:m<=n) (u:nr r p m):fW n (cN r) (kas_tail3 m n p) fun t=>fu n t.2∧1<=t.1∧t.1<=n∧oy r t.2 t.1:=by
 have h':fu n (kas_rev p 0 m):=h.of (mirror_perm _ _ _ _)
 refine fW.bind ((tW hr h' (n - m) m h1 (by omega) fun i j hij hj=>?_).mono fun m' x=>fW.ret ⟨h',by omega,by omega,x.2.2.1⟩)
 rw [Ag (by rw [h.size];exact hm),Ag (by rw [h.size];exact hm),if_pos (by omega),if_pos hj]
 exact u _ _ (by omega) (by omega)
theorem Ar {p:Array Nat} (hr:qX n r) (h:fu n p) (h1:1<=n):fW n (cN r) (kas_count n p) fun t=>fu n t.2∧1<=t.1∧t.1<=n∧oy r t.2 t.1:=by
 refine fW.bind ((tW hr h (n - 1) 1 (Nat.le_refl _) (by omega) fun i j hij hj=>by omega).mono fun m x=>?_)
 obtain ⟨x1,x2,x3,x4⟩:=x
 by_cases c:m=n
 · rw [if_pos (by simpa using c)]
   exact fW.ret ⟨h,x1,by omega,x3⟩
 · rw [if_neg (by simpa using c)]
   by_cases c2:m > 1
   · rw [if_pos c2]
     refine fW.ask (h.lt (by omega)) (h.lt (by omega)) (h.ne (by omega) (by omega) (by omega)) ?_
     have e2:cN r (p.getD 0 0) (p.getD (m - 1) 0)=true:=decide_eq_true (x3 0 (m - 1) (by omega) (by omega))
     rw [e2,if_pos rfl]
     exact fW.ret ⟨h,x1,by omega,x3⟩
   · rw [if_neg c2]
     have:m=1:=by omega
     subst this
     refine fW.bind ((vd hr h (n - (1+1)) (1+1) (by omega) (by omega) (pC (fun i j hij hj=>by omega) (Nat.le_refl _) (x4 (by omega)))).mono fun t y=>?_)
     obtain ⟨y1,y2,y3,y4,y5⟩:=y
     rw [if_neg (by omega),y1]
     exact zo hr h (by omega) (by omega) y5
theorem l8 {p:Array Nat} (hr:qX n r) (h:fu n p) {k:Nat} (hk:k < n) (u:oy r p k): ∀ (f l m:Nat),l<=m->m<=k->m - l<=f->(∀ i,i < l->rk r p i < rk r p k)->(∀ i,m<=i->i < k->rk r p k < rk r p i) ->
  fW n (cN r) (kas_place p k f l m) fun t=>t<=k∧(∀ i,i < t->rk r p i < rk r p k)∧(∀ i,t<=i->i < k->rk r p k < rk r p i)
 | 0,l,m,h1,h2,h3,a,b=>fW.ret ⟨by omega,a,fun i hi hik=>b i (by omega) hik⟩
 | f+1,l,m,h1,h2,h3,a,b=>by
  unfold kas_place
  by_cases c:l ≥ m
  · rw [if_pos c];exact fW.ret ⟨by omega,a,fun i hi hik=>b i (by omega) hik⟩
  · rw [if_neg c]
    refine fW.ask (h.lt (by omega)) (h.lt (by omega)) (h.ne (by omega) (by omega) (by omega)) ?_
    have ne:=zB hr h (i:=k) (j:=(l+m) / 2) (by omega) (by omega) (by omega)
    by_cases d:rk r p k < rk r p ((l+m) / 2)
    · have e:cN r (p.getD k 0) (p.getD ((l+m) / 2) 0)=true:=decide_eq_true d
      rw [e,if_pos rfl]
      refine l8 hr h hk u f l ((l+m) / 2) (by omega) (by omega) (by omega) a fun i hi hik=>?_
      rcases Nat.lt_or_ge ((l+m) / 2) i with z | z
      · exact Nat.lt_trans d (u _ _ z hik)
      · have:i=(l+m) / 2:=by omega
        rw [this];exact d
    · have e:cN r (p.getD k 0) (p.getD ((l+m) / 2) 0)=false:=decide_eq_false d
      rw [e,if_neg (by simp)]
      refine l8 hr h hk u f ((l+m) / 2+1) m (by omega) (by omega) (by omega) (fun i hi=>?_) b
      have d':rk r p ((l+m) / 2) < rk r p k:=by omega
      rcases Nat.lt_or_ge i ((l+m) / 2) with z | z
      · exact Nat.lt_trans (u _ _ z (by omega)) d'
      · have:i=(l+m) / 2:=by omega
        rw [this];exact d'
theorem pH {p:Array Nat} {k d:Nat} (hk:k < p.size) (hd:d<=k) (i:Nat):rk r (bubble p k d) i=if i=k - d then rk r p k else if k - d < i∧i<=k then rk r p (i - 1) else rk r p i:=by
 have g: ∀ (q:Array Nat) (j:Nat),rk r q j=r (q[j]?.getD 0):=fun q j=>by unfold rk;rw [Array.getD_eq_getD_getElem?]
 rw [g,g,g,g,getElem?_bubble hk d hd]
 repeat' split
 all_goals rfl
theorem zP (hr:qX n r): ∀ (f:Nat) (p:Array Nat) (k:Nat),fu n p->k+f=n->oy r p k->fW n (cN r) (kas_bin f p k) fun q=>fu n q∧oy r q n
 | 0,p,k,h,e,u=>fW.ret ⟨h,(show k=n from e) ▸ u⟩
 | f+1,p,k,h,e,u=>by
  refine fW.bind ((l8 hr h (by omega) u k 0 k (by omega) (by omega) (by omega) (fun i hi=>by omega) (fun i h1 h2=>by omega)).mono fun l x=>?_)
  obtain ⟨x1,x2,x3⟩:=x
  refine zP hr f _ (k+1) (h.of (bubble_perm _ _ _)) (by omega) fun i j hij hj=>?_
  have hs:k < p.size:=by rw [h.size];omega
  rw [pH hs (by omega),pH hs (by omega)]
  repeat' split
  all_goals first | (exfalso;omega) | exact u _ _ (by omega) (by omega) | exact x2 _ (by omega) | exact x3 _ (by omega) (by omega)
theorem Dz (hr:qX n r) (h1:1<=n):fW n (cN r) (kas_sort n) fun q=>fu n q∧oy r q n:=by
 refine fW.bind ((Ar hr (t6 n) h1).mono fun t x=>?_)
 obtain ⟨x1,x2,x3,x4⟩:=x
 by_cases c:t.1 < n
 · rw [if_pos c]
   have:max t.1 1=t.1:=by omega
   rw [this]
   exact zP hr _ _ _ x1 (by omega) x4
 · rw [if_neg c]
   have:t.1=n:=by omega
   exact fW.ret ⟨x1,this ▸ x4⟩
end
theorem sM {α :Type} {n:Nat} {c c':Nat->Nat->Bool} (h: ∀ i j,i < n->j < n->c i j=c' i j): ∀ t:KasT α,xK n c' t=true->xK n c t=true∧vL c t=vL c' t
 | .ret a,_=>⟨rfl,rfl⟩
 | .ask i j k,e=>by
  simp only [xK,Bool.and_eq_true,decide_eq_true_eq,Bool.not_eq_true',decide_eq_false_iff_not] at e
  have hc:=h i j e.1.1.1 e.1.1.2
  have:=sM h (k (c' i j)) e.2
  simp only [xK,vL,Bool.and_eq_true,decide_eq_true_eq,Bool.not_eq_true',decide_eq_false_iff_not]
  rw [hc]
  exact ⟨⟨e.1,this.1⟩,this.2⟩
noncomputable def gQ (a b:Str):Prop:=a.cps.toList < b.cps.toList
instance (a b:Str):Decidable (gQ a b):=inferInstanceAs (Decidable (a.cps.toList < b.cps.toList))
theorem gH (a:Str): ¬ gQ a a:=List.lt_irrefl _
theorem iL {a b c:Str} (h1:gQ a b) (h2:gQ b c):gQ a c:=List.lt_trans h1 h2
theorem iH {a b:Str} (h:gQ a b): ¬ gQ b a:=fun z=>gH a (iL h z)
theorem Bv {a b:Str} (h:a.cps.toList=b.cps.toList):a=b:=by
 cases a;cases b;simp only at h;rw [Array.toList_inj.mp h]
theorem kN {a b:Str} (h:a≠b):gQ a b∨gQ b a:=by
 by_cases h1:gQ a b
 · exact .inl h1
 · by_cases h2:gQ b a
   · exact .inr h2
   · exact absurd (Bv (List.le_antisymm (List.not_lt.mp h2) (List.not_lt.mp h1))) h
noncomputable def jW (xs:List Str) (x:Str):Nat:=(xs.filter fun y=>decide (gQ y x)).length
theorem oW {xs:List Str} {x y:Str} (hx:x∈xs) (h:gQ x y):jW xs x < jW xs y:=by
 unfold jW
 have sub: ∀ l:List Str,(l.filter fun z=>decide (gQ z x)).length<=(l.filter fun z=>decide (gQ z y)).length:=fun l=>by
  induction l with
  | nil=>exact Nat.le_refl _
  | cons z r ih =>
   by_cases h1:gQ z x
   · rw [List.filter_cons_of_pos (by simpa using h1),List.filter_cons_of_pos (by simpa using iL h1 h)];simpa using ih
   · rw [List.filter_cons_of_neg (by simpa using h1)]
     by_cases h2:gQ z y
     · rw [List.filter_cons_of_pos (by simpa using h2)];exact Nat.le_succ_of_le ih
     · rw [List.filter_cons_of_neg (by simpa using h2)];exact ih
 induction xs with
 | nil=>cases hx
 | cons z r ih =>
  rcases List.mem_cons.mp hx with rfl | hr
  · rw [List.filter_cons_of_neg (by simpa using gH x),List.filter_cons_of_pos (by simpa using h)]
    exact Nat.lt_succ_of_le (sub r)
  · by_cases h1:gQ z x
    · rw [List.filter_cons_of_pos (by simpa using h1),List.filter_cons_of_pos (by simpa using iL h1 h)];simpa using ih hr
    · rw [List.filter_cons_of_neg (by simpa using h1)]
      by_cases h2:gQ z y
      · rw [List.filter_cons_of_pos (by simpa using h2)];exact Nat.lt_succ_of_lt (ih hr)
      · rw [List.filter_cons_of_neg (by simpa using h2)];exact ih hr
theorem yi {xs:List Str} {x y:Str} (hx:x∈xs) (hy:y∈xs):jW xs x < jW xs y↔gQ x y:=by
 refine ⟨fun h=>?_,oW hx⟩
 by_cases e:x=y
 · subst e;exact absurd h (Nat.lt_irrefl _)
 · rcases kN e with z | z
   · exact z
   · exact absurd (oW hy z) (Nat.lt_asymm h)
noncomputable def cS (xs:List Str) (i j:Nat):Bool:=decide (gQ (xs.getD i "") (xs.getD j ""))
theorem getD_mem {xs:List Str} {i:Nat} (h:i < xs.length):xs.getD i "" ∈xs:=by
 rw [List.getD_eq_getElem?_getD,List.getElem?_eq_getElem h];exact List.getElem_mem h
theorem rS {xs:List Str} (h1:1<=xs.length) (nd:xs.Nodup) :
  xK xs.length (cS xs) (kas_sort xs.length)=true∧(vL (cS xs) (kas_sort xs.length)).toList.Perm (List.range xs.length)∧((vL (cS xs) (kas_sort xs.length)).toList.map fun i=>xs.getD i "").Pairwise gQ:=by
 have rkI: ∀ i j,i < xs.length->j < xs.length->(jW xs (xs.getD i "") < jW xs (xs.getD j "")↔gQ (xs.getD i "") (xs.getD j "")):=fun i j hi hj=>yi (getD_mem hi) (getD_mem hj)
 have hr:qX xs.length fun i=>jW xs (xs.getD i ""):=fun i j hi hj e=>by
  have a:=rkI i j hi hj
  have b:=rkI j i hj hi
  have e':xs.getD i "" =xs.getD j "" :=Decidable.byContradiction fun ne=>by
   rcases kN ne with z | z
   · have:=a.mpr z;simp only at e;omega
   · have:=b.mpr z;simp only at e;omega
  rw [List.getD_eq_getElem?_getD,List.getD_eq_getElem?_getD,List.getElem?_eq_getElem hi,List.getElem?_eq_getElem hj] at e'
  exact (List.getElem?_inj hi nd).mp (by rw [List.getElem?_eq_getElem hi,List.getElem?_eq_getElem hj];exact congrArg some e')
 have ok:=Dz hr h1
 have al: ∀ i j,i < xs.length->j < xs.length->cS xs i j=cN (fun i=>jW xs (xs.getD i "")) i j:=fun i j hi hj=>by
  unfold cS cN
  rw [decide_eq_decide]
  exact (rkI i j hi hj).symm
 have ea:=sM al (kas_sort xs.length) ok.1
 rw [ea.2]
 have sh:=ok.2.1
 refine ⟨ea.1,sh.perm,?_⟩
 rw [List.pairwise_map,List.pairwise_iff_getElem]
 intro i j hi hj hij
 have hj':j < xs.length:=by rw [<- sh.size];simpa using hj
 have:=ok.2.2 i j hij hj'
 unfold rk at this
 have:=(rkI _ _ (sh.lt (by omega)) (sh.lt hj')).mp this
 rw [Array.getD_eq_getD_getElem?,Array.getD_eq_getD_getElem?,Array.getElem?_eq_getElem (by simpa using hi),Array.getElem?_eq_getElem (by simpa using hj)] at this
 simpa using this
open PySem PySem.Spec PyProof.Rows
section
variable {prog:Program} {w:World} {A:Around} {E:Value->Shared->Prop} {s:Shared}
noncomputable def de (h:Heap) (a:Addr) (vs:List Value):Heap:=((h.update a (Obj.mapSeq fun _=>(#[]:Array Value))).push (seqObj "tuple" vs.toArray 0)).push (seqObj "list" #[] 0)
theorem nK {h:Heap} {a b:Addr} {vs:List Value} (hb:b < h.objs.size):(de h a vs).get? b=(h.update a (Obj.mapSeq fun _=>(#[]:Array Value))).get? b :=
 (Heap.get?_push_ne _ _ _ (Nat.ne_of_lt (Nat.lt_of_lt_of_eq (Nat.lt_succ_of_lt hb) ((size_push' _ _).trans (congrArg (· +1) (Heap.size_update _ _ _))).symm))).trans
  (Heap.get?_push_ne _ _ _ (Nat.ne_of_lt (Nat.lt_of_lt_of_eq hb (Heap.size_update _ _ _).symm)))
theorem rf {h:Heap} {a b:Addr} {vs:List Value} {o:Obj} (hb:b≠a) (e:h.get? b=some o):(de h a vs).get? b=some o :=
 (nK (Heap.lt_size e)).trans ((Heap.get?_update_ne _ _ _ _ hb).trans e)
theorem j2 {vs:List Value} (h:vs.length < 64):vs.length<=sizeLine:=Nat.le_trans (Nat.le_of_lt h) (by decide)
theorem nW {a:Addr} {vs:List Value} {n:Nat} {P:PySem.Fin->Shared->Prop} {κ :SortKind} {G:Array Nat->Prop} (ho:s.heap.get? a=some (seqObj "list" vs.toArray n)) (h64:vs.length < 64)
  (hk:2<=vs.length-> ∀ Q':SortKind->Shared->Prop,Q' κ { s with heap:=de s.heap a vs }->wpAny (model prog w) A (keyKind' vs.toArray) Q' E { s with heap:=de s.heap a vs })
  (ha:2<=vs.length-> ∀ Q':Array Nat->Shared->Prop,(∀ p,G p->Q' p { s with heap:=de s.heap a vs })->(kas_sort vs.length).kasWp (kas_ask prog w A κ vs) Q' { s with heap:=de s.heap a vs })
  (h0:vs.length < 2->P (.done (.ret .none)) { s with heap:=sortedHeap s.heap a vs vs.toArray })
  (h: ∀ p:Array Nat,p.size=vs.length->G p->P (.done (.ret .none)) { s with heap:=sortedHeap s.heap a vs (p.toList.map fun i=>vs.getD i Value.none).toArray }):wpAny (model prog w) A (Builtin.«list.sort» ⟨[.ref a],[]⟩) P E s:=by
 obtain ⟨ep,g1⟩: ∃ k,(s.heap.update a (Obj.mapSeq fun _=>(#[]:Array Value))).get? a=some (seqObj "list" #[] k):=⟨_,get?_update_seq ho fun _=> #[]⟩
 have g2:(de s.heap a vs).get? a=some (seqObj "list" #[] ep):=(nK (Heap.lt_size ho)).trans g1
 have z:=List.size_toArray (as:=vs)
 rw [list_sort_plain]
 refine wpAny_bind (listItems_at ho rfl (wpAny_bind (listUpdate_at ho rfl (wpAny_bind (seqEpoch_at g1 rfl (wpAny_bind (wpAny_newTuple (wpAny_bind (wpAny_newList (wpAny_holding ?_) (Nat.zero_le _))) (j2 h64))))) (z ▸ j2 h64) (Nat.zero_le _))))
 show wpAny (model prog w) A _ P E { s with heap:=de s.heap a vs }
 dsimp only
 have last: ∀ out:Array Value,out.size<=sizeLine->P (.done (.ret .none)) { s with heap:=sortedHeap s.heap a vs out }->P (.done (.ret .none)) { s with heap:=(de s.heap a vs).update a (Obj.mapSeq fun _=>out) }:=fun _ _ q=>q
 rcases Nat.lt_or_ge vs.toArray.size 2 with c | c
 · rw [if_pos c,if_pos c]
   have e:(arrOf (SortSt.mk' general' (vs.toArray.zip vs.toArray) #[] 7 none)).map (·.2)=vs.toArray:=by
    apply Array.toList_inj.mp
    show ((vs.toArray.zip vs.toArray).map (·.2)).toList=_
    rw [Array.toList_map,Array.toList_zip]
    exact List.map_snd_zip (Nat.le_refl _)
   refine wpAny_bind (m:=pure general') (wpAny_pure ?_)
   rw [StateT.run_pure]
   refine wpAny_bind (wpAny_pure (wpAny_bind (seqEpoch_at g2 rfl (wpAny_bind (listUpdate_at g2 rfl ?_ (Nat.zero_le _) (hsz2:=by rw [e,z];exact Nat.le_succ_of_le (j2 h64)))))))
   rw [if_neg (by simp)]
   refine wpAny_pure ?_
   rw [e]
   exact last _ (by rw [z];exact j2 h64) (h0 (z ▸ c))
 · rw [if_neg (Nat.not_lt.mpr c),if_neg (Nat.not_lt.mpr c)]
   have c':2<=vs.length:=z ▸ c
   have run:=kat_run (E:=E) (ks:=vs) (vs:=vs) (Q:=fun st u=>u={ s with heap:=de s.heap a vs }∧ ∃ p:Array Nat,p.size=vs.length∧arrOf st=p.map (kas_item (vs.toArray.zip vs.toArray))∧failedOf st=none∧G p)
    (G:=fun p u=>u={ s with heap:=de s.heap a vs }∧G p) rfl c' h64 (fun p st u b1 b2 b3 b4=>⟨b4.1,p,b1,b2,b3,b4.2⟩) (ha c' _ fun p g=>⟨rfl,g⟩)
   refine wpAny_bind (hk c' _ (wpAny_bind (wpAny_mono run (fun r u x=>?_) fun _ _ x=>x)))
   obtain ⟨⟨⟩,st⟩:=r
   obtain ⟨rfl,p,hp,har,hf,g⟩:=x
   have el:(List.toArray (p.toList.map fun i=>vs.getD i Value.none)).size<=sizeLine:=by rw [List.size_toArray,List.length_map,Array.length_toList,hp];exact j2 h64
   dsimp only
   rw [kat_snds rfl har,hf]
   refine wpAny_bind (seqEpoch_at g2 rfl (wpAny_bind (listUpdate_at g2 rfl ?_ (Nat.zero_le _) (Nat.le_succ_of_le el))))
   rw [if_neg (by simp)]
   exact wpAny_pure (last _ el (h p hp g))
abbrev jR (h:Heap) (vs:List Value):Heap:=((h.push (seqObj "list" #[] 0)).update h.objs.size (Obj.mapSeq (· ++vs.toArray))).push (seqObj "list" vs.toArray 0)
theorem eL (h:Heap) (vs:List Value):((h.push (seqObj "list" #[] 0)).update h.objs.size (Obj.mapSeq (· ++vs.toArray))).objs.size=h.objs.size+1:=(Heap.size_update _ _ _).trans (size_push' _ _)
theorem il (h:Heap) (vs:List Value):(jR h vs).get? (h.objs.size+1)=some (seqObj "list" vs.toArray 0):=(eL h vs) ▸ Heap.get?_push_size _ rfl
theorem q9 {h:Heap} {vs:List Value} {b:Addr} {o:Obj} (e:h.get? b=some o):(jR h vs).get? b=some o:=by
 have l:=Heap.lt_size e
 have z:=eL h vs
 exact (Heap.get?_push_ne _ _ _ (Nat.ne_of_lt (Nat.lt_of_lt_of_eq (Nat.lt_succ_of_lt l) z.symm))).trans ((Heap.get?_update_ne _ _ _ _ (Nat.ne_of_lt l)).trans ((Heap.get?_push_ne _ _ _ (Nat.ne_of_lt l)).trans e))
theorem uq {l:Addr} {vs:List Value} {Q:Value->Shared->Prop} {κ :SortKind} {G:Array Nat->Prop} (hl:s.heap.IsList l vs.toArray) (h64:vs.length < 64)
  (hk: ∀ h':Heap,(∀ b o,s.heap.get? b=some o->h'.get? b=some o)->2<=vs.length-> ∀ Q':SortKind->Shared->Prop,Q' κ { s with heap:=h' }->wpAny (model prog w) A.in1.in1 (keyKind' vs.toArray) Q' E { s with heap:=h' })
  (ha: ∀ h':Heap,(∀ b o,s.heap.get? b=some o->h'.get? b=some o)->2<=vs.length-> ∀ Q':Array Nat->Shared->Prop,(∀ p,G p->Q' p { s with heap:=h' })->(kas_sort vs.length).kasWp (kas_ask prog w A.in1.in1 κ vs) Q' { s with heap:=h' })
  (h0:vs.length < 2->Q (.ref (s.heap.objs.size+1)) { s with heap:=sortedAll s.heap vs vs.toArray })
  (h: ∀ p:Array Nat,p.size=vs.length->G p->Q (.ref (s.heap.objs.size+1)) { s with heap:=sortedAll s.heap vs (p.toList.map fun i=>vs.getD i Value.none).toArray }):wpAny (model prog w) A (call (.builtin "sorted") [.ref l]) Q E s:=by
 have kp: ∀ b o,s.heap.get? b=some o->(de (jR s.heap vs) (s.heap.objs.size+1) vs).get? b=some o:=fun b o e=>rf (Nat.ne_of_lt (Nat.lt_succ_of_lt (Heap.lt_size e))) (q9 e)
 refine Calls.call_function_entry kind_sorted plain_sorted entry_sorted (args_sorted1 (.ref l)) ?_
 unfold Builtin.«sorted»
 refine wpAny_bind (m:=checkCount "sorted" 1 1 [Value.ref l].length) (wpAny_pure (wpAny_bind (collect_list hl (wpAny_bind (wpAny_newList ?_ (j2 h64))) (j2 h64))))
 show wpAny _ _ _ _ _ { s with heap:=jR s.heap vs }
 rw [eL]
 refine wpAny_bind (wpAny_holding (wpAny_call_entry slot_list_sort ⟨_,il s.heap vs,rfl⟩ entry_list_sort (nW (G:=G) (κ := κ) (il s.heap vs) h64 (hk _ kp) (ha _ kp) (fun c=>⟨_,rfl,?_⟩) fun p hp g=>⟨_,rfl,?_⟩) (args_list_sort (.ref (s.heap.objs.size+1)))))
 · exact wpAny_pure ⟨_,rfl,h0 c⟩
 · exact wpAny_pure ⟨_,rfl,h p hp g⟩
end
open PySem PySem.Spec PyProof.Rows
noncomputable def i5 (H:Hp) (y:V) (q:Str × Int):Prop:= ∃ b,y= .ref b∧H b=some (.tup [.str q.1,.int q.2])
theorem i5.v {H:Hp} {y:V} {q:Str × Int} (h:i5 H y q):pJ H y (.inr q.1,.int q.2):=h
theorem i5.same {H H':Hp} {y:V} {q:Str × Int} (h:i5 H y q) (s:lr H H'):i5 H' y q:=let ⟨b,e,h⟩:=h;⟨b,e,s _ _ h⟩
noncomputable def Di (h:Heap) (v:Value) (q:Str × Int):Prop:= ∃ b o k t u,v= .ref b∧h.get? b=some o∧o.cls= .type "tuple" ∧o.data= .seq #[.str q.1 t,.int q.2 u] k
theorem Di.kept {h h':Heap} {v:Value} {q:Str × Int} (k: ∀ b o,h.get? b=some o->h'.get? b=some o) (x:Di h v q):Di h' v q:=let ⟨b,o,n,t,u,e1,e2,e3,e4⟩:=x;⟨b,o,n,t,u,e1,k _ _ e2,e3,e4⟩
theorem rN {P:Program} {w:World} {H:Hp} {h:Heap} (ok:iY P w H h): ∀ {ys:List V} {ps:List (Str × Int)} {aw:List Value},Paired (i5 H) ys ps->Vals ys aw->Paired (Di h) aw ps
 | _,_,_,.nil,.nil=> .nil
 | _,_,_,.cons hp hr,.cons hv hrv=>by
  obtain ⟨b,rfl,hb⟩:=hp
  obtain ⟨_,its0,r0,o,e1,e2,n,e3,_⟩:=(show a9 P w H h b (.tup [.str _,.int _]) from ok b _ hb)
  obtain ⟨u1,u2,rfl,⟨t1,rfl⟩,⟨t2,rfl⟩⟩:=vals2 r0
  cases (show _=Value.ref b from hv)
  exact .cons ⟨b,o,n,t1,t2,rfl,e1,e2,e3⟩ (rN ok hr hrv)
theorem qq {h:Heap}: ∀ {vs:List Value} {ps:List (Str × Int)},Paired (Di h) vs ps-> ∀ {i:Nat},i < vs.length-> ∃ q,ps[i]?=some q∧Di h (vs.getD i Value.none) q
 | _,_,.nil,i,hi=>absurd hi (Nat.not_lt_zero _)
 | _,_,.cons hp hr,0,_=>⟨_,rfl,hp⟩
 | _,_,.cons hp hr,i+1,hi=>by
  obtain ⟨q,e,a⟩:=qq hr (i:=i) (by simpa using hi)
  exact ⟨q,by simpa using e,by simpa using a⟩
theorem tD {h : Heap} : ∀ {vs : List Value} {ps : List (Str × Int)}, Paired (Di h) vs ps -> ∃ fs, KatTups h vs fs /\ fs.length = vs.length /\ ∀ v ∈ fs, ∃ x t, v = Value.str x t
  | _, _, .nil => ⟨[], .nil, rfl, fun v m => nomatch m⟩
  | _, _, .cons hp hr => by
    obtain ⟨fs, k, l, st⟩ := tD hr
    obtain ⟨b, o, n, t, u, rfl, e1, e2, e3⟩ := hp
    exact ⟨_, .cons e1 e2 e3 rfl k, by simp [l], fun v m => by rcases List.mem_cons.mp m with rfl | m; · exact ⟨_, _, rfl⟩
                                                               · exact st v m⟩
section
variable {prog:Program} {w:World} {A:Around} {E:Value->Shared->Prop} {s:Shared}
theorem xy {vs:List Value} {ps:List (Str × Int)} (hp:Paired (Di s.heap) vs ps) (nd:(ps.map (·.1)).Nodup) {i j:Nat} {C:Bool->Shared->Prop} (hi:i < vs.length) (hj:j < vs.length) (hij:i≠j) (h:C (cS (ps.map (·.1)) i j) s):kas_ask prog w A (tuples' true) vs i j C s:=by
 obtain ⟨q1,f1,b1,o1,n1,t1,u1,e1,g1,c1,d1⟩:=qq hp hi
 obtain ⟨q2,f2,b2,o2,n2,t2,u2,e2,g2,c2,d2⟩:=qq hp hj
 have hne:q1.1≠q2.1:=fun z=>hij ((List.getElem?_inj (by rw [List.length_map];exact (List.getElem?_eq_some_iff.mp f1).1) nd).mp (by rw [List.getElem?_map,List.getElem?_map,f1,f2];simp [z]))
 unfold kas_ask
 rw [e1,e2]
 refine kat_lt g1 d1 g2 d2 (SeqAt.EqAt.str_str q1.1 t1 q2.1 t2 _ _ _ _ ?_)
 refine Of (by simpa using hne) ?_
 refine oneLt_str ?_
 have e:cS (ps.map (·.1)) i j=decide (q1.1.cps.toList < q2.1.cps.toList):=by
  unfold cS
  rw [List.getD_eq_getElem?_getD,List.getD_eq_getElem?_getD,List.getElem?_map,List.getElem?_map,f1,f2]
  rfl
 rw [e] at h
 exact h
theorem tO {vs:List Value} {ps:List (Str × Int)} (hp:Paired (Di s.heap) vs ps) (h2:2<=vs.length) {Q':SortKind->Shared->Prop} (q:Q' (tuples' true) s):wpAny (model prog w) A (keyKind' vs.toArray) Q' E s:=by
 obtain ⟨fs,k,l,st⟩:=tD hp
 refine kat_kind (T:= .type "str") k (by omega) (fun v m=>?_) (by decide) q
 obtain ⟨x,t,rfl⟩:=st v m
 exact Looks.now
end
theorem mS {α β :Type} {R: α -> β ->Prop}: ∀ {xs:List α} {zs:List β},Paired R xs zs-> ∀ {i:Nat} (d: α) (e: β),i < xs.length->R (xs.getD i d) (zs.getD i e)
 | _,_,.nil,i,_,_,hi=>absurd hi (Nat.not_lt_zero _)
 | _,_,.cons hp hr,0,_,_,_=>hp
 | _,_,.cons hp hr,i+1,d,e,hi=>by simpa using mS hr (i:=i) d e (by simpa using hi)
theorem la {α β :Type} {R: α -> β ->Prop} {xs:List α} {zs:List β} (hp:Paired R xs zs) (d: α) (e: β): ∀ {is:List Nat},(∀ i∈is,i < xs.length)->Paired R (is.map fun i=>xs.getD i d) (is.map fun i=>zs.getD i e)
 | [],_=> .nil
 | i::r,hi=> .cons (mS hp d e (hi i List.mem_cons_self)) (la hp d e fun j m=>hi j (List.mem_cons_of_mem _ m))
theorem rP: ∀ {xs:List V} {us:List Value},Vals xs us-> ∀ {i:Nat},i < xs.length->RelV (xs.getD i .non) (us.getD i .none)
 | _,_,.nil,i,hi=>absurd hi (Nat.not_lt_zero _)
 | _,_,.cons hp hr,0,_=>hp
 | _,_,.cons hp hr,i+1,hi=>by simpa using rP hr (i:=i) (by simpa using hi)
theorem oS {xs:List V} {us:List Value} (h:Vals xs us): ∀ {is:List Nat},(∀ i∈is,i < xs.length)->Vals (is.map fun i=>xs.getD i .non) (is.map fun i=>us.getD i .none)
 | [],_=> .nil
 | i::r,hi=> .cons (rP h (hi i List.mem_cons_self)) (oS h fun j m=>hi j (List.mem_cons_of_mem _ m))
theorem wk {α :Type} (l:List α) (d: α):(List.range l.length).map (fun i=>l.getD i d)=l:=by
 refine List.ext_getElem? fun i=>?_
 rw [List.getElem?_map]
 by_cases h:i < l.length
 · rw [List.getElem?_range h,List.getElem?_eq_getElem h];simp [h]
 · rw [List.getElem?_eq_none (by rw [List.length_range];omega),List.getElem?_eq_none (by omega)];rfl
noncomputable def ug (K:PySem.W.Frag):List V->Hp->VK->Prop:=fun xs H Q=> ∃ (p:Addr) (ys:List V) (ps:List (Str × Int)),xs=[.ref p]∧gm K H p ys∧Paired (i5 H) ys ps∧ps.length < 64∧(ps.map (·.1)).Nodup ∧
 ∀ l ys' ps',H l=none->ps'.Perm ps->(ps'.map (·.1)).Pairwise gQ->Paired (i5 H) ys' ps'->Q (.ref l) (upd H l (.lst ys'))
section
variable {X:Cx}
theorem qU:aW X (.builtin "sorted") (ug X.K):=by
 intro pins s σ H xs us Q I r h
 obtain ⟨p,ys,ps,rfl,hS,hP,h5,nd,q⟩:=h
 obtain ⟨u,rfl,ru⟩:=vals1 r
 cases (show u=Value.ref p from ru)
 obtain ⟨aw,hv,hl,hz⟩:=I.list hS
 have hat:=rN I.bz hP hv
 have hlen:=hv.length
 have hpl:=Paired.length hP
 have fs0:=rS (xs:=ps.map (·.1))
 rw [List.length_map] at fs0
 have el:aw.length=ps.length:=by omega
 have fin: ∀ (out:List Value) (ys':List V) (ps':List (Str × Int)),ys'.length=ps.length->Vals ys' out->ps'.Perm ps->(ps'.map (·.1)).Pairwise gQ->Paired (i5 H) ys' ps'->EP X pins σ Q (.ref (s.heap.objs.size+1)) { s with heap:=sortedAll s.heap aw out.toArray }:=fun out ys' ps' hl' hv' pm pw pp=>by
  obtain ⟨e,he⟩:=sortedAll_at s.heap aw out.toArray
  obtain ⟨hn,I'⟩:=I.kD (a:=s.heap.objs.size+1) (o:= .lst ys') (t':=s.toks) (fun b o e=>sortedAll_old e) (Heap.get?_none_of_le (Nat.le_succ _)) ⟨by rw [hl'];exact Nat.le_trans (Nat.le_of_lt h5) (by decide),out,e,hv',by simpa [seqObj] using he⟩
  exact ⟨.ref _,_,I',rfl,q _ ys' ps' hn pm pw pp⟩
 refine uq (κ :=tuples' true) (G:=fun p=>2<=aw.length∧p=vL (cS (ps.map (·.1))) (kas_sort ps.length)) hl.isList (by omega)
  (fun h' k h2 Q' hq=>tO (s:={ s with heap:=h' }) (Paired.wR hat fun v q x=>x.kept k) h2 hq)
  (fun h' k h2 Q' hq=>sf (n:=aw.length) (c:=cS (ps.map (·.1))) (fun i j C hi hj hij hc=>xy (s:={ s with heap:=h' }) (Paired.wR hat fun v q x=>x.kept k) nd hi hj hij hc) _ (by rw [el];exact (fs0 (by omega) nd).1) (hq _ ⟨h2,by rw [el]⟩))
  (fun h2=>?_) fun pp hpp g=>?_
 · refine fin aw ys ps (by omega) hv (List.Perm.refl _) ?_ hP
   cases ps with
   | nil=>exact .nil
   | cons x r=>cases r with
    | nil=>exact List.pairwise_singleton _ _
    | cons y r'=>simp at el;omega
 · obtain ⟨g2,g⟩:=g
   have fs:=fs0 (by omega) nd
   subst g
   have lt: ∀ i∈(vL (cS (ps.map (·.1))) (kas_sort ps.length)).toList,i < ps.length:=fun i hi=>List.mem_range.mp (fs.2.1.mem_iff.mp hi)
   refine fin _ ((vL (cS (ps.map (·.1))) (kas_sort ps.length)).toList.map fun i=>ys.getD i .non) ((vL (cS (ps.map (·.1))) (kas_sort ps.length)).toList.map fun i=>ps.getD i ("",0)) ?_ (oS hv fun i hi=>by have:=lt i hi;omega) ?_ ?_ (la hP _ _ fun i hi=>by have:=lt i hi;omega)
   · rw [List.length_map,Array.length_toList,hpp,el]
   · have:=fs.2.1.map (fun i=>ps.getD i ("",0))
     rw [wk] at this
     exact this
   · have e:(((vL (cS (ps.map (·.1))) (kas_sort ps.length)).toList.map fun i=>ps.getD i ("",0)).map (·.1))=(vL (cS (ps.map (·.1))) (kas_sort ps.length)).toList.map fun i=>(ps.map (·.1)).getD i ("" :Str):=by
      rw [List.map_map]
      refine List.map_congr_left fun i hi=>?_
      show (ps.getD i ("",0)).1=_
      rw [List.getD_eq_getElem?_getD,List.getD_eq_getElem?_getD,List.getElem?_map,List.getElem?_eq_getElem (lt i hi)];rfl
     rw [e]
     exact fs.2.2
theorem rE (hc:X.calm=true):aW X (.builtin "sorted") (fun xs H Q=>yY X.K xs H Q∨(AG xs H Q∨ug X.K xs H Q)):=kG.or ((kE hc).or qU)
end
open PySem PySem.Spec PyProof.Rows
section
variable {X:Cx} {K:PySem.W.Frag} (h:X.K=K)
include h
end
end L2
end
section
open PySem PySem.W PyProof.Rows
namespace L2
open PySem PySem.Spec PyProof.Rows
noncomputable def Es (K:PySem.W.Frag):List V->Hp->VK->Prop:=fun xs H Q=> ∃ x p Ts T b,xs=[x,.ref p]∧H p=some (.tup (List.map V.ty Ts))∧iR K H x (.type T)∧PySem.W.kitAny K (.type T) (List.map Value.type Ts)=some b∧Q (.bl b) H
theorem vj: ∀ {Ts:List String} {us:List Value},Vals (Ts.map V.ty) us->us=Ts.map Value.type
 | [],_,.nil=>rfl
 | T::r,u::us,.cons h t=>by rw [vj t,show u=Value.type T from h];rfl
section
variable {X:Cx}
theorem qM:aW X (.builtin "isinstance") (Es X.K):=by
 intro pins s σ H xs us Q I r h
 obtain ⟨x,p,Ts,T,b,rfl,hp,ty,e,q⟩:=h
 obtain ⟨u,c,rfl,ru,rc⟩:=vals2 r
 cases (show c=Value.ref p from rc)
 obtain ⟨_,aw,hv,⟨oc,dd,dat,sl⟩,e1,e2,n,e3,_⟩:=(show a9 X.prog X.w H s.heap p (.tup (Ts.map V.ty)) from I.bz p _ hp)
 simp only at e2 e3
 subst e2 e3
 obtain rfl:=vj hv
 have fin: ∀ tk,EP X pins σ Q (.bool b) { s with toks:=tk }:=fun tk=>⟨.bl b,H,I.tok tk,rfl,q⟩
 generalize hT:Value.type T=t at ty e
 cases ty with
 | non=>cases (show u=Value.none from ru);exact kia_tup kitx_none I.j1 trivial e1 e nofun fin
 | bl y=>cases (show u=Value.bool y from ru);exact kia_tup kitx_bool I.j1 trivial e1 e nofun fin
 | int i=>obtain ⟨_,rfl⟩:=(show ∃ t,u=Value.int i t from ru);exact kia_tup kitx_int I.j1 trivial e1 e nofun fin
 | str y=>obtain ⟨_,rfl⟩:=(show ∃ t,u=Value.str y t from ru);exact kia_tup kitx_str I.j1 trivial e1 e nofun fin
 | flt y=>obtain ⟨_,rfl⟩:=(show ∃ t,u=Value.float y t from ru);exact kia_tup kitx_float I.j1 trivial e1 e nofun fin
 | @lst a xs ea =>
  cases (show u=Value.ref a from ru)
  obtain ⟨_,_,_,_,g⟩:=(show a9 X.prog X.w H s.heap a (.lst xs) from I.bz a _ ea)
  exact kia_tup kitx_list I.j1 ⟨_,g,rfl⟩ e1 e nofun fin
 | @jg a ob xs ea =>
  cases (show u=Value.ref a from ru)
  obtain ⟨_,_,_,_,_,g⟩:=(show a9 X.prog X.w H s.heap a (.jg ob (.lst xs)) from I.bz a _ ea)
  exact kia_tup kitx_list I.j1 ⟨_,g,rfl⟩ e1 e nofun fin
 | @tup a xs ea =>
  cases (show u=Value.ref a from ru)
  obtain ⟨_,_,_,o,g1,g2,_⟩:=(show a9 X.prog X.w H s.heap a (.tup xs) from I.bz a _ ea)
  exact kia_tup kitx_tuple I.j1 ⟨o,g1,g2⟩ e1 e nofun fin
 | @dK a kvs ea =>
  cases (show u=Value.ref a from ru)
  obtain ⟨_,_,_,_,o,_,_,g1,g2,_⟩:=(show a9 X.prog X.w H s.heap a (.dK kvs) from I.bz a _ ea)
  exact kia_tup kitx_dict I.j1 ⟨o,g1,g2.1⟩ e1 e nofun fin
 | @dT a kvs ea =>
  cases (show u=Value.ref a from ru)
  obtain ⟨_,_,_,_,o,_,_,g1,g2,_⟩:=(show a9 X.prog X.w H s.heap a (.dT kvs) from I.bz a _ ea)
  exact kia_tup kitx_dict I.j1 ⟨o,g1,g2.1⟩ e1 e nofun fin
 | ins=>cases hT
theorem yk:aW X (.builtin "isinstance") (fun xs H Q=>L7 X.K xs H Q∨Es X.K xs H Q):=CZ.or qM
end
section
variable {X:Cx} {K:PySem.W.Frag} (h:X.K=K)
include h
end
end L2
end
section
open PySem PySem.W PyProof.Rows
namespace L2
open PySem PySem.Spec PyProof.Rows
section
variable {prog:Program} {w:World} {A:Around} {E:Value->Shared->Prop} {s:Shared}
theorem M3 {α :Type} {c:Prop} [Decidable c] {m m':Sem α} {M:Model} {Q: α ->Shared->Prop} (hc: ¬ c) (h:wpAny M A m' Q E s):wpAny M A (if c then m else m') Q E s:=by rw [if_neg hc];exact h
theorem jf {it t:Addr} {i:Nat} {items:Array Value} {x:Value} {Q:Value->Shared->Prop} (hit:s.heap.IsTupleIter it t i) (ht:s.heap.IsTuple t items) (hx:items[i]?=some x)
  (q: ∀ h',h'.IsTupleIter it t (i+1)->Heap.SameBut it s.heap h'->Q x { s with heap:=h' }):wpAny (model prog w) A (Builtin.SmallTypes.nextOf (.ref it)) Q E s:=by
 obtain ⟨oi,g1,c1,d1⟩:=id hit
 obtain ⟨ot,g2,_,k,d2⟩:=id ht
 have new:(s.heap.update it (Obj.mapFields (·.setIfInBounds 1 (rawInt ((i:Int)+1))))).IsTupleIter it t (i+1):=⟨_,Heap.get?_update_self _ g1 (Obj.isFreed_of_fields (Obj.data_mapFields d1 _)),(Obj.cls_mapFields ..).trans c1,(Obj.data_mapFields d1 _).trans (by simp [rawInt])⟩
 refine wpAny_bind (wpAny_callSpecial?_slot (name:=Str.ofString "__next__") hit.typeIs PySem.F.slot_tuple_iterator_next (wpAny_call_entry PySem.F.slot_tuple_iterator_next hit.typeIs PySem.F.entry_tuple_iterator_next ?_ (PySem.F.args_tuple_iterator_next_1 (.ref it))))
 refine wpAny_bind (m:=field (.ref it) 0) (wpAny_field g1 d1 (x:= .ref t) rfl (M3 (fun z=>nomatch z) (wpAny_bind (m:=field (.ref it) 1) (wpAny_field g1 d1 (x:= .int i 0) rfl (wpAny_bind (m:=seqItems? (.ref t)) (wpAny_seqItems g2 d2 ?_))))))
 dsimp only
 rw [Int.toNat_natCast,hx]
 exact wpAny_bind (wpAny_setField g1 d1 (by simp) (wpAny_pure ⟨x,rfl,wpAny_pure (q _ new (Heap.SameBut.update ..))⟩))
theorem oR {it t:Addr} {i:Nat} {items:Array Value} {Q:Value->Shared->Prop} (hh:A.handled=none) (hit:s.heap.IsTupleIter it t i) (ht:s.heap.IsTuple t items) (hx:items[i]?=none)
  (q: ∀ h' e,Heap.ExtBut it s.heap h'->(∃ o,h'.get? e=some o∧o.cls= .type "StopIteration")->E (.ref e) { s with heap:=h' }):wpAny (model prog w) A (Builtin.SmallTypes.nextOf (.ref it)) Q E s:=by
 obtain ⟨oi,g1,c1,d1⟩:=id hit
 obtain ⟨ot,g2,_,k,d2⟩:=id ht
 refine wpAny_bind (wpAny_callSpecial?_slot (name:=Str.ofString "__next__") hit.typeIs PySem.F.slot_tuple_iterator_next (wpAny_call_entry PySem.F.slot_tuple_iterator_next hit.typeIs PySem.F.entry_tuple_iterator_next ?_ (PySem.F.args_tuple_iterator_next_1 (.ref it))))
 refine wpAny_bind (m:=field (.ref it) 0) (wpAny_field g1 d1 (x:= .ref t) rfl (M3 (fun z=>nomatch z) (wpAny_bind (m:=field (.ref it) 1) (wpAny_field g1 d1 (x:= .int i 0) rfl (wpAny_bind (m:=seqItems? (.ref t)) (wpAny_seqItems g2 d2 ?_))))))
 dsimp only
 rw [Int.toNat_natCast,hx]
 refine wpAny_bind (wpAny_rule (wpAny_bind (wpAny_setField g1 d1 (by simp) (wpAny_bind (m:=newExc (.type "StopIteration") []) (wpAny_bind (m:=newTuple []) (wpAny_newObj_type ?_ (by size_fits)))))))
 refine wpAny_bind (m:=firstArgMember _ _) (wpAny_of_eq (a:=Value.none) (by simp only [firstArgMember];rfl) (wpAny_newObj_type ?_ (by size_fits)))
 unfold raiseNew;refine wpAny_bind (wpAny_handled ?_);rw [show A.in1.handled=none from hh]
 exact wpAny_bind (wpAny_pure (wpAny_throw (q _ _ (((Heap.SameBut.update ..).extBut.push _).push _) ⟨_,Heap.get?_push_size _ rfl,rfl⟩)))
structure tm (h:Heap) (z TI TO i1 i2 l1 l2:Addr) (k:Nat):Prop where
 xB:IsZip h z TI TO .none
 aw:IsPair h TI (.ref i1) (.ref i2)
 old: ∃ a b,IsPair h TO a b
 one:h.IsTupleIter i1 l1 k
 two:h.IsTupleIter i2 l2 k
theorem xo {z TI TO i1 i2 l1 l2:Addr} {k:Nat} {xs ys:Array Value} {x y:Value} {Q:Value->Shared->Prop} (D:ZipApart z TI TO i1 i2 l1 l2) (Z:tm s.heap z TI TO i1 i2 l1 l2 k) (t1:s.heap.IsTuple l1 xs) (t2:s.heap.IsTuple l2 ys) (hx:xs[k]?=some x) (hy:ys[k]?=some y)
  (q: ∀ h',IsZip h' z TI TO (rawInt s.heap.objs.size)->IsPair h' TI (.ref i1) (.ref i2)->IsPair h' TO x y->h'.IsTupleIter i1 l1 (k+1)->h'.IsTupleIter i2 l2 (k+1)->IsPair h' s.heap.objs.size x y ->
   (∀ c o,c≠z->c≠TO->c≠i1->c≠i2->s.heap.get? c=some o->h'.get? c=some o)->Q (.ref s.heap.objs.size) { s with heap:=h' }):wpAny (model prog w) A (Builtin.«zip.__next__» ⟨[.ref z],[]⟩) (fun r u=> ∃ v,r= .done (.ret v)∧Q v u) E s:=by
 obtain ⟨hz,hTI,⟨a,b,hTO⟩,o1,o2⟩:=Z
 refine wpAny_bind (m:=field (.ref z) 2) (wpAny_field hz rfl (x:= .bool false) rfl ?_)
 refine wpAny_bind (m:=field (.ref z) 3) (wpAny_field hz rfl (x:= .ref TI) rfl (wpAny_bind (wpAny_seqItems hTI rfl ?_)))
 refine wpAny_bind (m:=Builtin.SmallTypes.ownedTupleIsFree (.ref z)) (wpAny_bind (m:=field (.ref z) 0) (wpAny_field hz rfl (x:= .none) rfl (wpAny_pure (Mh rfl (wpAny_bind (wpAny_rule ?_))))))
 refine wpAny_bind (m:=field (.ref z) 4) (wpAny_field hz rfl (x:= .ref TO) rfl (wpAny_bind (wpAny_setField_rec hz (by simp) fun u1 z1 b1=>?_)))
 replace z1:IsZip u1 z TI TO .ellipsis:=z1
 refine wpAny_bind ?_
 rw [show (#[Value.ref i1,Value.ref i2]:Array Value).toList.zipIdx=[(Value.ref i1,0),(Value.ref i2,1)] from rfl,List.forIn_cons]
 refine wpAny_bind (wpAny_bind (wpAny_onRaise (wpAny_bind (m:=Builtin.SmallTypes.nextOf (.ref i1)) (jf (o1.at fun o e=>b1.extBut _ _ D.i1z e) (t1.at fun o e=>b1.extBut _ _ D.l1z e) hx fun u2 p1 b2=>wpAny_pure ?_))))
 have T2:IsPair u2 TO a b:=b2.extBut _ _ D.TOi1 (b1.extBut _ _ D.TOz hTO)
 refine wpAny_bind (wpAny_seqItems T2 rfl (wpAny_bind (wpAny_updateSeq_pair T2 fun u3 T3 b3=>wpAny_bind (wpAny_letGo (wpAny_pure ?_)))))
 replace T3:IsPair u3 TO x b:=T3
 have k3: ∀ c o,c≠z->c≠TO->c≠i1->s.heap.get? c=some o->u3.get? c=some o:=fun c o n1 n2 n3 e=>b3.extBut _ _ n2 (b2.extBut _ _ n3 (b1.extBut _ _ n1 e))
 dsimp only
 rw [List.forIn_cons]
 refine wpAny_bind (wpAny_bind (wpAny_onRaise (wpAny_bind (m:=Builtin.SmallTypes.nextOf (.ref i2)) (jf (o2.at fun o e=>k3 _ o D.i2z D.TOi2.symm D.i12.symm e) (t2.at fun o e=>k3 _ o D.l2z D.l2TO D.l2i1 e) hy fun u4 p2 b4=>wpAny_pure ?_))))
 have T4:IsPair u4 TO x b:=b4.extBut _ _ D.TOi2 T3
 refine wpAny_bind (wpAny_seqItems T4 rfl (wpAny_bind (wpAny_updateSeq_pair T4 fun u5 T5 b5=>wpAny_bind (wpAny_letGo (wpAny_pure ?_)))))
 replace T5:IsPair u5 TO x y:=T5
 have k5: ∀ c o,c≠z->c≠TO->c≠i1->c≠i2->s.heap.get? c=some o->u5.get? c=some o:=fun c o n1 n2 n3 n4 e=>b5.extBut _ _ n2 (b4.extBut _ _ n4 (k3 c o n1 n2 n3 e))
 have sz:u5.objs.size=s.heap.objs.size:=b5.1.trans (b4.1.trans (b3.1.trans (b2.1.trans b1.1)))
 have z5:IsZip u5 z TI TO .ellipsis:=b5.extBut _ _ D.TOz.symm (b4.extBut _ _ D.i2z.symm (b3.extBut _ _ D.TOz.symm (b2.extBut _ _ D.i1z.symm z1)))
 have p15:u5.IsTupleIter i1 l1 (k+1):=p1.at fun o e=>b5.extBut _ _ D.TOi1.symm (b4.extBut _ _ D.i12 (b3.extBut _ _ D.TOi1.symm e))
 have p25:u5.IsTupleIter i2 l2 (k+1):=p2.at fun o e=>b5.extBut _ _ D.TOi2.symm e
 have lz:z < u5.objs.size:=Heap.lt_size z5
 dsimp only
 rw [List.forIn_nil]
 refine wpAny_pure (wpAny_bind (wpAny_seqItems T5 rfl (wpAny_bind (wpAny_newTuple ?_ (by show 2<=sizeLine;decide)))))
 have z6:IsZip (u5.push { cls:= .type "tuple",data:= .seq #[x,y] }) z TI TO .ellipsis:=Heap.get?_push_of_some _ z5
 refine wpAny_bind (m:=Builtin.SmallTypes.ownedTupleHandOut (.ref z) (.ref u5.objs.size)) (wpAny_bind (wpAny_setField_rec z6 (by simp) fun u7 z7 b7=>wpAny_setField_rec (show IsZip u7 z TI TO (rawInt u5.objs.size) from z7) (by simp) fun u8 z8 b8=>wpAny_pure ⟨_,rfl,?_⟩))
 have up: ∀ c o,c≠z->u5.get? c=some o->u8.get? c=some o:=fun c o n e=>b8.extBut _ _ n (b7.extBut _ _ n (Heap.get?_push_of_some _ e))
 have T8:IsPair u8 u5.objs.size x y:=b8.extBut _ _ (Nat.ne_of_gt lz) (b7.extBut _ _ (Nat.ne_of_gt lz) (Heap.get?_push_size _ rfl))
 replace z8:IsZip u8 z TI TO (rawInt u5.objs.size):=z8
 rw [sz] at z8 T8 ⊢
 exact q u8 z8 (up _ _ D.TIz (k5 _ _ D.TIz D.TITO D.TIi1 D.TIi2 hTI)) (up _ _ D.TOz T5) (p15.at fun o e=>up _ o D.i1z e) (p25.at fun o e=>up _ o D.i2z e) T8 fun c o n1 n2 n3 n4 e=>up c o n1 (k5 c o n1 n2 n3 n4 e)
theorem Aj {z TI TO i1 i2 l1 l2:Addr} {k:Nat} {xs ys:Array Value} {Q:PySem.Fin->Shared->Prop} (hh:A.handled=none) (D:ZipApart z TI TO i1 i2 l1 l2) (Z:tm s.heap z TI TO i1 i2 l1 l2 k) (t1:s.heap.IsTuple l1 xs) (t2:s.heap.IsTuple l2 ys) (he:xs[k]?=none∨ys[k]?=none)
  (q: ∀ h' e,(∀ c o,c≠z->c≠TO->c≠i1->c≠i2->s.heap.get? c=some o->h'.get? c=some o)->(∃ o,h'.get? e=some o∧o.cls= .type "StopIteration")->E (.ref e) { s with heap:=h' }):wpAny (model prog w) A (Builtin.«zip.__next__» ⟨[.ref z],[]⟩) Q E s:=by
 obtain ⟨hz,hTI,⟨a,b,hTO⟩,o1,o2⟩:=Z
 have ap: ∀ (h':Heap) (f0:Value) (e:Addr) (o:Obj),IsZip h' z TI TO f0->h'.get? e=some o->o.cls= .type "StopIteration" ->e≠z:=fun h' f0 e o y g c n=>by rw [n,y] at g;cases g;simp at c
 refine wpAny_bind (m:=field (.ref z) 2) (wpAny_field hz rfl (x:= .bool false) rfl ?_)
 refine wpAny_bind (m:=field (.ref z) 3) (wpAny_field hz rfl (x:= .ref TI) rfl (wpAny_bind (wpAny_seqItems hTI rfl ?_)))
 refine wpAny_bind (m:=Builtin.SmallTypes.ownedTupleIsFree (.ref z)) (wpAny_bind (m:=field (.ref z) 0) (wpAny_field hz rfl (x:= .none) rfl (wpAny_pure (Mh rfl (wpAny_bind (wpAny_rule ?_))))))
 refine wpAny_bind (m:=field (.ref z) 4) (wpAny_field hz rfl (x:= .ref TO) rfl (wpAny_bind (wpAny_setField_rec hz (by simp) fun u1 z1 b1=>?_)))
 replace z1:IsZip u1 z TI TO .ellipsis:=z1
 refine wpAny_bind ?_
 rw [show (#[Value.ref i1,Value.ref i2]:Array Value).toList.zipIdx=[(Value.ref i1,0),(Value.ref i2,1)] from rfl,List.forIn_cons]
 match hx:xs[k]? with
 | none =>
  refine wpAny_bind (wpAny_bind (wpAny_onRaise (wpAny_bind (m:=Builtin.SmallTypes.nextOf (.ref i1)) (oR hh (o1.at fun o e=>b1.extBut _ _ D.i1z e) (t1.at fun o e=>b1.extBut _ _ D.l1z e) hx fun u2 e b2 g=>?_))))
  obtain ⟨oe,g1,g2⟩:=g
  have z2:IsZip u2 z TI TO .ellipsis:=b2 _ _ D.i1z.symm z1
  exact wpAny_setField_rec z2 (by simp) fun u3 _ b3=>q u3 e (fun c o n1 _ n3 _ y=>b3.extBut _ _ n1 (b2 _ _ n3 (b1.extBut _ _ n1 y))) ⟨oe,b3.extBut _ _ (ap u2 _ e oe z2 g1 g2) g1,g2⟩
 | some x =>
  have hy:ys[k]?=none:=he.resolve_left (by rw [hx];intro y;cases y)
  refine wpAny_bind (wpAny_bind (wpAny_onRaise (wpAny_bind (m:=Builtin.SmallTypes.nextOf (.ref i1)) (jf (o1.at fun o e=>b1.extBut _ _ D.i1z e) (t1.at fun o e=>b1.extBut _ _ D.l1z e) hx fun u2 p1 b2=>wpAny_pure ?_))))
  have T2:IsPair u2 TO a b:=b2.extBut _ _ D.TOi1 (b1.extBut _ _ D.TOz hTO)
  refine wpAny_bind (wpAny_seqItems T2 rfl (wpAny_bind (wpAny_updateSeq_pair T2 fun u3 T3 b3=>wpAny_bind (wpAny_letGo (wpAny_pure ?_)))))
  have k3: ∀ c o,c≠z->c≠TO->c≠i1->s.heap.get? c=some o->u3.get? c=some o:=fun c o n1 n2 n3 e=>b3.extBut _ _ n2 (b2.extBut _ _ n3 (b1.extBut _ _ n1 e))
  dsimp only
  rw [List.forIn_cons]
  refine wpAny_bind (wpAny_bind (wpAny_onRaise (wpAny_bind (m:=Builtin.SmallTypes.nextOf (.ref i2)) (oR hh (o2.at fun o e=>k3 _ o D.i2z D.TOi2.symm D.i12.symm e) (t2.at fun o e=>k3 _ o D.l2z D.l2TO D.l2i1 e) hy fun u4 e b4 g=>?_))))
  obtain ⟨oe,g1,g2⟩:=g
  have z4:IsZip u4 z TI TO .ellipsis:=b4 _ _ D.i2z.symm (b3.extBut _ _ D.TOz.symm (b2.extBut _ _ D.i1z.symm z1))
  exact wpAny_setField_rec z4 (by simp) fun u5 _ b5=>q u5 e (fun c o n1 n2 n3 n4 y=>b5.extBut _ _ n1 (b4 _ _ n4 (k3 c o n1 n2 n3 y))) ⟨oe,b5.extBut _ _ (ap u4 _ e oe z4 g1 g2) g1,g2⟩
theorem nq {z TI TO i1 i2 l1 l2:Addr} {k:Nat} {xs ys:Array Value} {x y:Value} {Q:Option Value->Shared->Prop} (D:ZipApart z TI TO i1 i2 l1 l2) (Z:tm s.heap z TI TO i1 i2 l1 l2 k) (t1:s.heap.IsTuple l1 xs) (t2:s.heap.IsTuple l2 ys) (hx:xs[k]?=some x) (hy:ys[k]?=some y)
  (q: ∀ h',IsZip h' z TI TO (rawInt s.heap.objs.size)->IsPair h' TI (.ref i1) (.ref i2)->IsPair h' TO x y->h'.IsTupleIter i1 l1 (k+1)->h'.IsTupleIter i2 l2 (k+1)->IsPair h' s.heap.objs.size x y ->
   (∀ c o,c≠z->c≠TO->c≠i1->c≠i2->s.heap.get? c=some o->h'.get? c=some o)->Q (some (.ref s.heap.objs.size)) { s with heap:=h' }):wpAny (model prog w) A (pyNext (.ref z)) Q E s :=
 have ty:s.TypeIs (.ref z) "zip" :=⟨_,Z.xB,rfl⟩
 wpAny_bind (wpAny_attempt (wpAny_callSpecial?_slot (name:=Str.ofString "__next__") ty PySem.F.slot_zip_next (wpAny_call_entry PySem.F.slot_zip_next ty PySem.F.entry_zip_next (xo D Z t1 t2 hx hy fun h' a1 a2 a3 a4 a5 a6 a7=>wpAny_pure (q h' a1 a2 a3 a4 a5 a6 a7)) (PySem.F.args_zip_next_1 (.ref z)))))
theorem oG {z TI TO i1 i2 l1 l2:Addr} {k:Nat} {xs ys:Array Value} {Q:Option Value->Shared->Prop} (hh:A.handled=none) (D:ZipApart z TI TO i1 i2 l1 l2) (Z:tm s.heap z TI TO i1 i2 l1 l2 k) (t1:s.heap.IsTuple l1 xs) (t2:s.heap.IsTuple l2 ys) (he:xs[k]?=none∨ys[k]?=none)
  (q: ∀ h',(∀ c o,c≠z->c≠TO->c≠i1->c≠i2->s.heap.get? c=some o->h'.get? c=some o)->Q none { s with heap:=h' }):wpAny (model prog w) A (pyNext (.ref z)) Q E s :=
 have ty:s.TypeIs (.ref z) "zip" :=⟨_,Z.xB,rfl⟩
 wpAny_bind (wpAny_attempt (wpAny_callSpecial?_slot (name:=Str.ofString "__next__") ty PySem.F.slot_zip_next (wpAny_call_entry PySem.F.slot_zip_next ty PySem.F.entry_zip_next (Aj (A:=A.in1) hh D Z t1 t2 he fun h' e a1 g =>
  let ⟨o,g1,g2⟩:=g;wpAny_bind (wpAny_isInstance (T:= "StopIteration") (b:=true) ⟨o,g1,g2⟩ isSubtype_stop (wpAny_pure (q h' a1)))) (PySem.F.args_zip_next_1 (.ref z)))))
end
end L2
end
section
open PySem PySem.W PyProof.Rows
namespace P3
open PySem PySem.Spec PyProof.Rows L2
inductive PV where
 | non | bl (b:Bool) | int (i:Int) | str (x:Str) | tup (xs:List PV) | ktup (xs:List PV) | ref (n:Nat) | ty (n:String)
mutual
def PV.beq:PV->PV->Bool
 | .non,.non=>true
 | .bl a,.bl b=>decide (a=b)
 | .int a,.int b=>decide (a=b)
 | .str a,.str b=>decide (a=b)
 | .tup a,.tup b=>PV.uL a b
 | .ktup a,.ktup b=>PV.uL a b
 | .ref a,.ref b=>decide (a=b)
 | .ty a,.ty b=>decide (a=b)
 | _,_=>false
def PV.uL:List PV->List PV->Bool
 | [],[]=>true
 | a::x,b::y=>PV.beq a b&&PV.uL x y
 | _,_=>false
end
mutual
theorem PV.beq_iff: ∀ (a b:PV),PV.beq a b=true↔a=b
 | .non,b=>by cases b<;>simp [PV.beq]
 | .bl _,b=>by cases b<;>simp [PV.beq]
 | .int _,b=>by cases b<;>simp [PV.beq]
 | .str _,b=>by cases b<;>simp [PV.beq]
 | .ref _,b=>by cases b<;>simp [PV.beq]
 | .ty _,b=>by cases b<;>simp [PV.beq]
 | .tup a,b=>by
  cases b with
  | tup b=>rw [PV.beq,PV.mh a b];simp
  | _=>simp [PV.beq]
 | .ktup a,b=>by
  cases b with
  | ktup b=>rw [PV.beq,PV.mh a b];simp
  | _=>simp [PV.beq]
theorem PV.mh: ∀ (a b:List PV),PV.uL a b=true↔a=b
 | [],b=>by cases b<;>simp [PV.uL]
 | a::x,b=>by
  cases b with
  | nil=>simp [PV.uL]
  | cons b y=>rw [PV.uL,Bool.and_eq_true,PV.beq_iff a b,PV.mh x y];simp
end
instance:DecidableEq PV:=fun a b=>decidable_of_iff _ (PV.beq_iff a b)
mutual
def PV.flat:PV->Bool
 | .ref _=>false
 | .tup xs=>PV.aT xs
 | .ktup xs=>PV.aT xs
 | _=>true
def PV.aT:List PV->Bool
 | []=>true
 | x::r=>x.flat&&PV.aT r
end
mutual
def PV.iN (n:Nat):PV->Bool
 | .ref m=>decide (m < n)
 | .tup xs=>PV.ja n xs
 | .ktup xs=>PV.ja n xs
 | _=>true
def PV.ja (n:Nat):List PV->Bool
 | []=>true
 | x::r=>x.iN n&&PV.ja n r
end
inductive PO where
 | lst (xs:List PV) | j4 (xs:List PV) | dct (kvs:List (Key × PV))
 deriving DecidableEq
noncomputable def PO.fC:PO->Bool
 | .j4 _=>false
 | _=>true
noncomputable def PO.iN (n:Nat):PO->Bool
 | .lst xs=>PV.ja n xs
 | .j4 xs=>PV.ja n xs
 | .dct kvs=>PV.ja n (kvs.map (·.2))
abbrev PH:=List PO
abbrev ax:=List (Option PV)
noncomputable def KT (K:PySem.W.Frag) (a:Addr) (xs:List V):Prop:= ∃ (o:Obj) (aw:Array Value) (n:Nat),K.lookup a=some o∧o.cls= .type "tuple" ∧o.data= .seq aw n∧aw.size<=sizeLine∧Vals xs aw.toList
mutual
def rel (K:PySem.W.Frag) (ρ :List Addr) (H:Hp):PV->V->Prop
 | .non,v=>v= .non
 | .bl b,v=>v= .bl b
 | .int i,v=>v= .int i
 | .str x,v=>v= .str x
 | .ty n,v=>v= .ty n
 | .ref n,v=> ∃ a, ρ[n]?=some a∧v= .ref a
 | .tup xs,v=> ∃ a vs,v= .ref a∧H a=some (.tup vs)∧au K ρ H xs vs
 | .ktup xs,v=> ∃ a vs,v= .ref a∧KT K a vs∧au K ρ H xs vs
def au (K:PySem.W.Frag) (ρ :List Addr) (H:Hp):List PV->List V->Prop
 | [],vs=>vs=[]
 | x::r,vs=> ∃ v t,vs=v::t∧rel K ρ H x v∧au K ρ H r t
end
structure Gr (ρ :List Addr) (H:Hp) (ρ':List Addr) (H':Hp):Prop where
 pre: ∀ (n:Nat) (a:Addr), ρ[n]?=some a-> ρ'[n]?=some a
 tup: ∀ a xs,H a=some (.tup xs)->H' a=some (.tup xs)
 jg: ∀ a o u,H a=some (.jg o u)->H' a=some (.jg o u)
theorem Gr.refl (ρ :List Addr) (H:Hp):Gr ρ H ρ H:=⟨fun _ _ h=>h,fun _ _ h=>h,fun _ _ _ h=>h⟩
theorem Gr.trans {ρ ρ1 ρ2:List Addr} {H H1 H2:Hp} (a:Gr ρ H ρ1 H1) (b:Gr ρ1 H1 ρ2 H2):Gr ρ H ρ2 H2 :=
 ⟨fun n x h=>b.pre n x (a.pre n x h),fun x xs h=>b.tup x xs (a.tup x xs h),fun x o u h=>b.jg x o u (a.jg x o u h)⟩
section
variable {K:PySem.W.Frag} {ρ ρ':List Addr} {H H':Hp}
theorem Gr.E5 (g:Gr ρ H ρ' H') {a:Addr} {xs:List V} (h:fJ K H a xs):fJ K H' a xs:=by
 rcases h with (h | ⟨o,h⟩) | h
 · exact .inl (.inl (g.tup _ _ h))
 · exact .inl (.inr ⟨o,g.jg _ _ _ h⟩)
 · exact .inr h
theorem Gr.Oh (g:Gr ρ H ρ' H') {a:Addr} {xs:List V} (h:vE K H a xs):vE K H' a xs:=by
 rcases h with ⟨o,h⟩ | h
 · exact .inl ⟨o,g.jg _ _ _ h⟩
 · exact .inr h
mutual
theorem rel.gr (g:Gr ρ H ρ' H'): ∀ (x:PV) (v:V),rel K ρ H x v->rel K ρ' H' x v
 | .non,v,h=>by simpa only [rel] using h
 | .bl _,v,h=>by simpa only [rel] using h
 | .int _,v,h=>by simpa only [rel] using h
 | .str _,v,h=>by simpa only [rel] using h
 | .ty _,v,h=>by simpa only [rel] using h
 | .ref n,v,h=>by
  rw [rel] at h ⊢
  obtain ⟨a,e,h⟩:=h
  exact ⟨a,g.pre _ _ e,h⟩
 | .tup xs,v,h=>by
  rw [rel] at h ⊢
  obtain ⟨a,vs,e,s,r⟩:=h
  exact ⟨a,vs,e,g.tup _ _ s,au.gr g xs vs r⟩
 | .ktup xs,v,h=>by
  rw [rel] at h ⊢
  obtain ⟨a,vs,e,s,r⟩:=h
  exact ⟨a,vs,e,s,au.gr g xs vs r⟩
theorem au.gr (g:Gr ρ H ρ' H'): ∀ (xs:List PV) (vs:List V),au K ρ H xs vs->au K ρ' H' xs vs
 | [],vs,h=>by simpa only [au] using h
 | x::r,vs,h=>by
  rw [au] at h ⊢
  obtain ⟨v,t,e,h1,h2⟩:=h
  exact ⟨v,t,e,rel.gr g x v h1,au.gr g r t h2⟩
end
noncomputable def PV.seq?:PV->Option (List PV)
 | .tup xs=>some xs
 | .ktup xs=>some xs
 | _=>none
theorem rel.seq {x:PV} {xs:List PV} {v:V} (e:x.seq?=some xs) (h:rel K ρ H x v): ∃ a vs,v= .ref a∧fJ K H a vs∧au K ρ H xs vs:=by
 cases x<;>simp only [PV.seq?,reduceCtorEq,Option.some.injEq] at e
 · subst e;rw [rel] at h;obtain ⟨a,vs,e,z,r⟩:=h;exact ⟨a,vs,e,.of z,r⟩
 · subst e;rw [rel] at h;obtain ⟨a,vs,e,z,r⟩:=h;exact ⟨a,vs,e,.inr z,r⟩
theorem aK {vs:List V}:au K ρ H [] vs↔vs=[]:=by rw [au]
theorem aD {x:PV} {r:List PV} {vs:List V}:au K ρ H (x::r) vs↔ ∃ v t,vs=v::t∧rel K ρ H x v∧au K ρ H r t:=by rw [au]
theorem au.len: ∀ {xs:List PV} {vs:List V},au K ρ H xs vs->xs.length=vs.length
 | [],vs,h=>by rw [aK] at h;rw [h];rfl
 | x::r,vs,h=>by
  obtain ⟨v,t,rfl,_,h2⟩:=aD.mp h
  simp [au.len h2]
theorem au.get: ∀ {xs:List PV} {vs:List V} {i:Nat} {x:PV},au K ρ H xs vs->xs[i]?=some x-> ∃ v,vs[i]?=some v∧rel K ρ H x v
 | [],vs,i,x,h,e=>by simp at e
 | y::r,vs,i,x,h,e=>by
  obtain ⟨v,t,rfl,h1,h2⟩:=aD.mp h
  cases i with
  | zero=>simp at e;subst e;exact ⟨v,rfl,h1⟩
  | succ i=>simpa using au.get h2 (by simpa using e)
theorem au.app: ∀ {xs ys:List PV} {vs ws:List V},au K ρ H xs vs->au K ρ H ys ws->au K ρ H (xs++ys) (vs++ws)
 | [],ys,vs,ws,h,h'=>by rw [aK] at h;subst h;exact h'
 | x::r,ys,vs,ws,h,h'=>by
  obtain ⟨v,t,rfl,h1,h2⟩:=aD.mp h
  exact aD.mpr ⟨v,t++ws,rfl,h1,au.app h2 h'⟩
theorem au.one {x:PV} {v:V} (h:rel K ρ H x v):au K ρ H [x] [v]:=aD.mpr ⟨v,[],rfl,h,aK.mpr rfl⟩
theorem au.take: ∀ {xs:List PV} {vs:List V} (n:Nat),au K ρ H xs vs->au K ρ H (xs.take n) (vs.take n)
 | xs,vs,0,h=>by simp [aK]
 | [],vs,n+1,h=>by rw [aK] at h;subst h;simp [aK]
 | x::r,vs,n+1,h=>by
  obtain ⟨v,t,rfl,h1,h2⟩:=aD.mp h
  exact aD.mpr ⟨v,t.take n,rfl,h1,au.take n h2⟩
theorem au.drop: ∀ {xs:List PV} {vs:List V} (n:Nat),au K ρ H xs vs->au K ρ H (xs.drop n) (vs.drop n)
 | xs,vs,0,h=>h
 | [],vs,n+1,h=>by rw [aK] at h;subst h;simp [aK]
 | x::r,vs,n+1,h=>by
  obtain ⟨v,t,rfl,h1,h2⟩:=aD.mp h
  exact au.drop n h2
theorem au.set: ∀ {xs:List PV} {vs:List V} {x:PV} {v:V} (i:Nat),au K ρ H xs vs->rel K ρ H x v->au K ρ H (xs.set i x) (vs.set i v)
 | [],vs,x,v,i,h,hv=>by rw [aK] at h;subst h;simp [aK]
 | y::r,vs,x,v,i,h,hv=>by
  obtain ⟨w,t,rfl,h1,h2⟩:=aD.mp h
  cases i with
  | zero=>exact aD.mpr ⟨v,t,rfl,hv,h2⟩
  | succ i=>exact aD.mpr ⟨w,t.set i v,rfl,h1,au.set i h2 hv⟩
theorem au.ints: ∀ (ns:List Int),au K ρ H (ns.map PV.int) (ns.map V.int)
 | []=>aK.mpr rfl
 | n::r=>aD.mpr ⟨.int n,r.map V.int,rfl,by rw [rel],au.ints r⟩
end
noncomputable def kq (K:PySem.W.Frag) (ρ :List Addr) (H:Hp) (a:Addr):PO->Prop
 | .lst xs=> ∃ vs,H a=some (.lst vs)∧au K ρ H xs vs
 | .j4 xs=> ∃ vs,vE K H a vs∧au K ρ H xs vs
 | .dct kvs=> ∃ kws,H a=some (.dK kws)∧Paired (fun (p:Key × PV) (q:Key × V)=>p.1=q.1∧rel K ρ H p.2 q.2) kvs kws
structure cW (K:PySem.W.Frag) (ρ :List Addr) (h:PH) (H:Hp):Prop where
 len: ρ.length=h.length
 nd: ∀ (i j:Nat) (a:Addr) (oi oj:PO),h[i]?=some oi->h[j]?=some oj->oi.fC=true->oj.fC=true-> ρ[i]?=some a-> ρ[j]?=some a->i=j
 ob: ∀ (i:Nat) (o:PO) (a:Addr),h[i]?=some o-> ρ[i]?=some a->kq K ρ H a o
section
variable {K:PySem.W.Frag} {ρ ρ':List Addr} {H H':Hp} {h:PH}
theorem cW.at (s:cW K ρ h H) {i:Nat} {o:PO} (e:h[i]?=some o): ∃ a, ρ[i]?=some a∧kq K ρ H a o:=by
 have hi:i < ρ.length:=by rw [s.len];exact (List.getElem?_eq_some_iff.mp e).1
 exact ⟨ρ[i],List.getElem?_eq_getElem hi,s.ob i o _ e (List.getElem?_eq_getElem hi)⟩
theorem Paired.eP {kvs:List (Key × PV)} {kws:List (Key × V)} (g:Gr ρ H ρ' H') (h:Paired (fun (p:Key × PV) (q:Key × V)=>p.1=q.1∧rel K ρ H p.2 q.2) kvs kws) :
  Paired (fun (p:Key × PV) (q:Key × V)=>p.1=q.1∧rel K ρ' H' p.2 q.2) kvs kws:=Paired.wR h fun _ _ z=>⟨z.1,rel.gr g _ _ z.2⟩
theorem g8 {a:Addr} {o:PO} (m:o.fC=true) (r:kq K ρ H a o):(∃ vs,H a=some (.lst vs))∨ ∃ kws,H a=some (.dK kws):=by
 cases o with
 | lst xs=>obtain ⟨vs,e,_⟩:=r;exact .inl ⟨vs,e⟩
 | j4 xs=>exact nomatch m
 | dct kvs=>obtain ⟨kws,e,_⟩:=r;exact .inr ⟨kws,e⟩
theorem kj {a:Addr} {o:PO} (g:Gr ρ H ρ' H') (k:o.fC=true->H' a=H a) (r:kq K ρ H a o):kq K ρ' H' a o:=by
 cases o with
 | lst xs=>obtain ⟨vs,e,r⟩:=r;exact ⟨vs,(k rfl).trans e,au.gr g _ _ r⟩
 | j4 xs=>obtain ⟨vs,e,r⟩:=r;exact ⟨vs,g.Oh e,au.gr g _ _ r⟩
 | dct kvs=>obtain ⟨kws,e,r⟩:=r;exact ⟨kws,(k rfl).trans e,Paired.eP g r⟩
theorem Gr.new {p : Addr} {o : HO} (hp : H p = none) (l : List Addr) : Gr ρ H (ρ ++ l) (upd H p o) :=
  ⟨fun n a e => by rw [List.getElem?_append_left (List.getElem?_eq_some_iff.mp e).1]; exact e,
   fun a xs e => by rw [aE (aF e hp)]; exact e, fun a o u e => by rw [aE (aF e hp)]; exact e⟩
theorem Gr.wY {p:Addr} {o:HO} (hp:H p=none):Gr ρ H ρ (upd H p o):=by simpa using Gr.new (ρ := ρ) (o:=o) hp []
theorem cW.tup (s:cW K ρ h H) {p:Addr} {o:HO} (hp:H p=none):cW K ρ h (upd H p o) :=
 ⟨s.len,s.nd,fun i x a e1 e2=>kj (Gr.wY hp) (fun m=>by
  have:=g8 m (s.ob i x a e1 e2)
  refine aE ?_
  rcases this with ⟨_,z⟩ | ⟨_,z⟩<;>exact aF z hp) (s.ob i x a e1 e2)⟩
theorem cW.new (s:cW K ρ h H) {p:Addr} {ho:HO} {o:PO} (hp:H p=none) (r:kq K (ρ ++[p]) (upd H p ho) p o):cW K (ρ ++[p]) (h++[o]) (upd H p ho):=by
 have g:Gr ρ H (ρ ++[p]) (upd H p ho):=Gr.new hp [p]
 have old: ∀ {i:Nat} {x:PO},(h++[o])[i]?=some x->(i < h.length∧h[i]?=some x)∨(i=h.length∧x=o):=fun {i x} e=>by
  rcases Nat.lt_or_ge i h.length with z | z
  · rw [List.getElem?_append_left z] at e;exact .inl ⟨z,e⟩
  · rw [List.getElem?_append_right z] at e
    have:i - h.length=0:=by
     rcases Nat.eq_zero_or_pos (i - h.length) with y | y
     · exact y
     · rw [List.getElem?_eq_none (by simp;omega)] at e;exact nomatch e
    rw [this] at e
    exact .inr ⟨by omega,by simpa using e.symm⟩
 have oldρ : ∀ {i:Nat} {a:Addr},i < h.length->(ρ ++[p])[i]?=some a-> ρ[i]?=some a:=fun {i a} z e=>by
  rw [List.getElem?_append_left (by rw [s.len];exact z)] at e;exact e
 have newρ : ∀ {a:Addr},(ρ ++[p])[h.length]?=some a->a=p:=fun {a} e=>by
  rw [<- s.len,List.getElem?_append_right (Nat.le_refl _)] at e
  simpa using e.symm
 refine ⟨by simp [s.len],fun i j a oi oj ei ej mi mj ri rj=>?_,fun i x a e1 e2=>?_⟩
 · rcases old ei with ⟨zi,ei⟩ | ⟨zi,ei⟩<;>rcases old ej with ⟨zj,ej⟩ | ⟨zj,ej⟩
   · exact s.nd i j a oi oj ei ej mi mj (oldρ zi ri) (oldρ zj rj)
   · subst zj
     have:=g8 mi (s.ob i oi a ei (oldρ zi ri))
     rw [newρ rj] at this
     rcases this with ⟨_,z⟩ | ⟨_,z⟩<;>(rw [hp] at z;exact nomatch z)
   · subst zi
     have:=g8 mj (s.ob j oj a ej (oldρ zj rj))
     rw [newρ ri] at this
     rcases this with ⟨_,z⟩ | ⟨_,z⟩<;>(rw [hp] at z;exact nomatch z)
   · rw [zi,zj]
 · rcases old e1 with ⟨z,e⟩ | ⟨z,e⟩
   · refine kj g (fun m=>?_) (s.ob i x a e (oldρ z e2))
     have:=g8 m (s.ob i x a e (oldρ z e2))
     refine aE ?_
     rcases this with ⟨_,y⟩ | ⟨_,y⟩<;>exact aF y hp
   · subst z;subst e;rw [newρ e2];exact r
theorem Gr.write {a : Addr} {ho : HO} (m : (∃ vs, H a = some (.lst vs)) ∨ ∃ kws, H a = some (.dK kws)) : Gr ρ H ρ (upd H a ho) :=
  ⟨fun _ _ h => h, fun b xs e => by rw [aE]; · exact e
                                    · rintro rfl; rcases m with ⟨_, z⟩ | ⟨_, z⟩ <;> (rw [e] at z; exact nomatch z),
   fun b o u e => by rw [aE]; · exact e
                     · rintro rfl; rcases m with ⟨_, z⟩ | ⟨_, z⟩ <;> (rw [e] at z; exact nomatch z)⟩
theorem cW.write (s:cW K ρ h H) {i:Nat} {a:Addr} {ho:HO} {o o':PO} (e:h[i]?=some o) (ea: ρ[i]?=some a) (m:o.fC=true) (m':o'.fC=true) (r:kq K ρ (upd H a ho) a o') :
  cW K ρ (h.set i o') (upd H a ho):=by
 have ma:=g8 m (s.ob i o a e ea)
 have g:Gr ρ H ρ (upd H a ho):=Gr.write ma
 have hi:i < h.length:=(List.getElem?_eq_some_iff.mp e).1
 have at_: ∀ {j:Nat} {x:PO},(h.set i o')[j]?=some x->(j=i∧x=o')∨(j≠i∧h[j]?=some x):=fun {j x} q=>by
  by_cases z:j=i
  · subst z;rw [List.getElem?_set_self hi] at q;exact .inl ⟨rfl,by simpa using q.symm⟩
  · rw [List.getElem?_set_ne (Ne.symm z)] at q;exact .inr ⟨z,q⟩
 refine ⟨by simp [s.len],fun j k b oj ok ej ek mj mk rj rk=>?_,fun j x b e1 e2=>?_⟩
 · rcases at_ ej with ⟨zj,_⟩ | ⟨_,ej2⟩<;>rcases at_ ek with ⟨zk,_⟩ | ⟨_,ek2⟩
   · rw [zj,zk]
   · rw [zj] at rj ⊢; exact s.nd _ _ b o ok e ek2 m mk rj rk
   · rw [zk] at rk ⊢; exact s.nd _ _ b oj o ej2 e mj m rj rk
   · exact s.nd j k b oj ok ej2 ek2 mj mk rj rk
 · rcases at_ e1 with ⟨rfl,rfl⟩ | ⟨z,e1⟩
   · rw [ea] at e2;cases e2;exact r
   · refine kj g (fun mx=>aE fun q=>z ?_) (s.ob j x b e1 e2)
     subst q
     exact s.nd j i b x o e1 e mx m e2 ea
end
end P3
end
section
open PySem PySem.W PyProof.Rows
namespace P3
open PySem PySem.Spec PyProof.Rows L2
inductive RV (α :Type) where
 | ok (a: α) (h:PH) | ex (c:String) (vs:List PV) (h:PH) | no
variable {α β :Type}
noncomputable def RV.bind:RV α ->(α ->PH->RV β)->RV β
 | .ok a h,f=>f a h
 | .ex c vs h,_=> .ex c vs h
 | .no,_=> .no
theorem bR {a: α} {h:PH} {f: α ->PH->RV β}:(RV.ok a h).bind f=f a h:=rfl
theorem bind_eq {r:RV α} {f: α ->PH->RV β} {b: β} {h':PH}:r.bind f= .ok b h'↔ ∃ a h,r= .ok a h∧f a h= .ok b h':=by
 cases r with
 | ok a h=>exact ⟨fun e=>⟨a,h,rfl,e⟩,fun ⟨a',h2,e,q⟩=>by cases e;exact q⟩
 | ex c vs h=>exact ⟨fun e=>(nomatch e),fun ⟨_,_,e,_⟩=>(nomatch e)⟩
 | no=>exact ⟨fun e=>(nomatch e),fun ⟨_,_,e,_⟩=>(nomatch e)⟩
theorem zX {c:Prop} [Decidable c] {a b:RV α} {f: α ->PH->RV β}:(if c then a else b).bind f=if c then a.bind f else b.bind f:=by split<;>rfl
noncomputable def Ok (r:RV α) (Q: α ->PH->Prop):Prop:= ∃ a h,r= .ok a h∧Q a h
abbrev CF:=String->List PV->PH->RV PV
abbrev ME:=CF->ax->PH->RV PV
abbrev MT:=CF->ax->PH->RV Bool
abbrev MA:=CF->ax->PH->RV (List PV)
inductive Fl where
 | nx (e:ax) | rt (v:PV) | bk (e:ax) | ct (e:ax)
abbrev MS:=CF->ax->PH->RV Fl
abbrev MG:=PV->ax->PH->RV ax
structure gR where
 gd:Option Nat
 items:List PV
abbrev MI:=CF->ax->PH->RV gR
structure Df where
 ps:List Str
 nl:Nat
 body:MS
structure Tb where
 fns:String->Option Df
 con:Str->Option PV
 xD:Str->Option (List (Key × PV))
noncomputable def b9 (n:Nat):PH->PH->Bool
 | [],_=>true
 | _::_,[]=>false
 | o::h,o'::h'=>(decide (o=o')||(o'.iN n&&o.fC == o'.fC))&&b9 n h h'
noncomputable def settle (h:PH) (v:PV) (h':PH):RV PV:=if (v.flat&&b9 h.length h h')=true then .ok v (h'.take h.length) else .ok v h'
theorem jt (n:Nat): ∀ (h g:PH),b9 n h (h++g)=true
 | [],g=>rfl
 | o::h,g=>by rw [List.cons_append,b9,jt n h g];simp
theorem ng {n:Nat} {o':PO} (hu:o'.iN n=true): ∀ (h h':PH) (i:Nat) (o:PO),b9 n h h'=true->h[i]?=some o->o.fC=o'.fC->b9 n h (h'.set i o')=true
 | [],h',i,o,_,e,_=>by simp at e
 | a::h,[],i,o,q,_,_=>by simp [b9] at q
 | a::h,b::h',0,o,q,e,m=>by
  rw [b9,Bool.and_eq_true] at q
  simp at e;subst e
  rw [List.set_cons_zero,b9,q.2,hu,m];simp
 | a::h,b::h',i+1,o,q,e,m=>by
  rw [b9,Bool.and_eq_true] at q
  rw [List.set_cons_succ,b9,ng hu h h' i o q.2 (by simpa using e) m,q.1];rfl
theorem mM {n:Nat}: ∀ {h h':PH},b9 n h h'=true->h.length<=h'.length
 | [],h',_=>Nat.zero_le _
 | o::h,[],e=>by simp [b9] at e
 | o::h,o'::h',e=>by
  rw [b9,Bool.and_eq_true] at e
  simp only [List.length_cons]
  exact Nat.succ_le_succ (mM e.2)
theorem oK {n:Nat}: ∀ {h h':PH} {i:Nat} {o':PO},b9 n h h'=true->(h'.take h.length)[i]?=some o'-> ∃ o,h[i]?=some o∧o.fC=o'.fC∧(o=o'∨o'.iN n=true)
 | [],h',i,o',_,e=>by simp at e
 | a::h,[],i,o',q,_=>by simp [b9] at q
 | a::h,b::h',0,o',q,e=>by
  rw [b9,Bool.and_eq_true,Bool.or_eq_true,Bool.and_eq_true] at q
  simp at e;subst e
  refine ⟨a,rfl,?_,?_⟩
  · rcases q.1 with z | z
    · rw [of_decide_eq_true z]
    · simpa using z.2
  · rcases q.1 with z | z
    · exact .inl (of_decide_eq_true z)
    · exact .inr z.1
 | a::h,b::h',i+1,o',q,e=>by
  rw [b9,Bool.and_eq_true] at q
  simpa using oK q.2 (by simpa using e)
noncomputable def run (pg:Tb):Nat->CF
 | 0,_,_,_=> .no
 | k+1,f,vs,h=>match pg.fns f with
  | none=> .no
  | some d=>if vs.length=d.ps.length then
    (match d.body (run pg k) (vs.map some++List.replicate d.nl none) h with
    | .ok (.rt v) h'=>settle h v h'
    | .ok (.nx _) h'=>settle h .non h'
    | .ok _ _=> .no
    | .ex c us h'=> .ex c us h'
    | .no=> .no)
   else .no
noncomputable def dO (K:PySem.W.Frag) (ρ :List Addr) (H:Hp) (v:PV) (h':PH) (Q:VK):Prop:= ∀ v' ρ' H',Gr ρ H ρ' H'->cW K ρ' h' H'->rel K ρ' H' v v'->Q v' H'
noncomputable def kW (K:PySem.W.Frag) (ρ :List Addr) (H:Hp) (h':PH) (Q:Hp->Prop):Prop:= ∀ ρ' H',Gr ρ H ρ' H'->cW K ρ' h' H'->Q H'
noncomputable def K4 (K:PySem.W.Frag) (ρ :List Addr) (H:Hp) (vs:List PV) (h':PH) (Q:List V->Hp->Prop):Prop:= ∀ us ρ' H',Gr ρ H ρ' H'->cW K ρ' h' H'->au K ρ' H' vs us->Q us H'
structure dJ (K:PySem.W.Frag) (ρ :List Addr) (H:Hp) (e:ax) (σ :L2.St):Prop where
 len:e.length= σ.length
 get: ∀ (i:Nat) (v:PV),e[i]?=some (some v)-> ∃ v', σ[i]?=some (some v')∧rel K ρ H v v'
noncomputable def eR (K:PySem.W.Frag) (ρ :List Addr) (H:Hp) (e':ax) (h':PH) (Q:L2.St->Hp->Prop):Prop:= ∀ σ' ρ' H',Gr ρ H ρ' H'->cW K ρ' h' H'->dJ K ρ' H' e' σ'->Q σ' H'
noncomputable def vy (K:PySem.W.Frag) (ρ :List Addr) (H:Hp) (D:Ends) (h':PH):Fl->Prop
 | .nx e=>eR K ρ H e h' D.nx
 | .bk e=>eR K ρ H e h' D.bk
 | .ct e=>eR K ρ H e h' D.ct
 | .rt v=>dO K ρ H v h' D.rt
section
variable {K:PySem.W.Frag} {ρ ρ1:List Addr} {H H1:Hp} {h':PH}
theorem dJ.gr {e:ax} {σ :L2.St} (r:dJ K ρ H e σ) (g:Gr ρ H ρ1 H1):dJ K ρ1 H1 e σ :=⟨r.len,fun i v q=>let ⟨v',a,b⟩:=r.get i v q;⟨v',a,rel.gr g _ _ b⟩⟩
theorem dJ.set {e:ax} {σ :L2.St} {v:PV} {v':V} (r:dJ K ρ H e σ) (i:Nat) (h:rel K ρ H v v'):dJ K ρ H (e.set i (some v)) (σ.set i (some v')):=by
 refine ⟨by simp [r.len],fun j x q=>?_⟩
 by_cases z:j=i
 · subst z
   have hj:j < e.length:=by
    have:=(List.getElem?_eq_some_iff.mp q).1
    simpa using this
   rw [List.getElem?_set_self hj] at q
   cases q
   exact ⟨v',List.getElem?_set_self (by rw [<- r.len];exact hj),h⟩
 · rw [List.getElem?_set_ne (Ne.symm z)] at q ⊢
   exact r.get j x q
theorem dJ.more {e:ax} {σ :L2.St} (r:dJ K ρ H e σ) (k:Nat):dJ K ρ H (e++List.replicate k none) (σ ++List.replicate k none):=by
 refine ⟨by simp [r.len],fun j x q=>?_⟩
 rcases Nat.lt_or_ge j e.length with z | z
 · rw [List.getElem?_append_left z] at q
   rw [List.getElem?_append_left (by rw [<- r.len];exact z)]
   exact r.get j x q
 · rw [List.getElem?_append_right z,List.getElem?_replicate] at q
   split at q<;>exact nomatch q
theorem dO.gr {v:PV} {Q:VK} (p:dO K ρ H v h' Q) (g:Gr ρ H ρ1 H1):dO K ρ1 H1 v h' Q:=fun v' ρ' H' g'=>p v' ρ' H' (g.trans g')
theorem kW.gr {Q:Hp->Prop} (p:kW K ρ H h' Q) (g:Gr ρ H ρ1 H1):kW K ρ1 H1 h' Q:=fun ρ' H' g'=>p ρ' H' (g.trans g')
theorem eR.gr {e:ax} {Q:L2.St->Hp->Prop} (p:eR K ρ H e h' Q) (g:Gr ρ H ρ1 H1):eR K ρ1 H1 e h' Q:=fun v' ρ' H' g'=>p v' ρ' H' (g.trans g')
theorem vy.gr {D:Ends} {f:Fl} (p:vy K ρ H D h' f) (g:Gr ρ H ρ1 H1):vy K ρ1 H1 D h' f:=by
 cases f with
 | nx e=>exact eR.gr p g
 | bk e=>exact eR.gr p g
 | ct e=>exact eR.gr p g
 | rt e=>exact dO.gr p g
end
noncomputable def SE (c:CF) (K:PySem.W.Frag) (t:TE) (m:ME):Prop:= ∀ ρ h H e σ Q v h',cW K ρ h H->dJ K ρ H e σ ->m c e h= .ok v h'->dO K ρ H v h' Q->t σ H Q
noncomputable def ST (c:CF) (K:PySem.W.Frag) (t:TT) (m:MT):Prop:= ∀ ρ h H e σ Q b h',cW K ρ h H->dJ K ρ H e σ ->m c e h= .ok b h'->kW K ρ H h' (Q b)->t σ H Q
noncomputable def SA (c:CF) (K:PySem.W.Frag) (t:TA) (m:MA):Prop:= ∀ ρ h H e σ Q vs h',cW K ρ h H->dJ K ρ H e σ ->m c e h= .ok vs h'->K4 K ρ H vs h' Q->t σ H Q
noncomputable def SS (c:CF) (K:PySem.W.Frag) (t:TS) (m:MS):Prop:= ∀ ρ h H e σ D f h',cW K ρ h H->dJ K ρ H e σ ->m c e h= .ok f h'->vy K ρ H D h' f->t D σ H
noncomputable def SG (K:PySem.W.Frag) (t:TG) (m:MG):Prop:= ∀ ρ h H e σ Q v v' e' h',cW K ρ h H->dJ K ρ H e σ ->rel K ρ H v v'->m v e h= .ok e' h'->eR K ρ H e' h' Q->t v' σ H Q
noncomputable def gR.eX (it:gR) (h:PH):Bool:=match it.gd with
 | none=>true
 | some n=>decide (h[n]?=some (.lst it.items)∨h[n]?=some (.j4 it.items))
noncomputable def NU (K:PySem.W.Frag) (ρ0:List Addr) (H0:Hp) (J:It) (it:gR):Prop:= ∀ i ρ h H,Gr ρ0 H0 ρ H->cW K ρ h H->it.eX h=true ->
 (∀ x,it.items[i]?=some x->J.go i H∧ ∀ v H',J.Jv i H v H'-> ∃ ρ',Gr ρ H ρ' H'∧cW K ρ' h H'∧rel K ρ' H' x v)∧(i=it.items.length->J.stop i H)
noncomputable def SI (c:CF) (K:PySem.W.Frag) (t:TI) (m:MI):Prop:= ∀ ρ h H e σ R it h',cW K ρ h H->dJ K ρ H e σ ->m c e h= .ok it h'->(∀ ρ' H' J,Gr ρ H ρ' H'->cW K ρ' h' H'->NU K ρ' H' J it->R J H')->t σ H R
noncomputable def uI (K:PySem.W.Frag) (pg:Tb) (k:Nat) (f:String):Sp:=fun vs H Q _=> ∃ ρ h args v h',cW K ρ h H∧au K ρ H args vs∧run pg k f args h= .ok v h'∧dO K ρ H v h' Q
noncomputable def gW:List Str:=["len", "range", "isinstance", "int", "bool", "tuple", "dict", "sorted", "min", "max", "abs", "all", "any", "sum", "str", "list", "zip", "set", "repr", "enumerate"]
structure c9 (X:Cx) (pg:Tb) (k:Nat):Prop where
 room:dq k X.A
 calm:X.calm=true
 nZ: ∀ v s,¬ X.xe v s
 defs: ∀ f d,pg.fns f=some d->k7 X.prog X.w X.K X.mg X.base (Str.ofString f) k d.ps (uI X.K pg k f)
 blt: ∀ x∈gW,X.mg x=none
 con: ∀ x v,pg.con x=some v-> ∃ u v',X.mg x=some u∧RelV v' u∧ ∀ ρ H,rel X.K ρ H v v'
 xD: ∀ x kvs,pg.xD x=some kvs-> ∃ a kws,X.mg x=some (.ref a)∧KD X.prog X.w X.K a kws∧ ∀ ρ H,Paired (fun (p:Key × PV) (q:Key × V)=>p.1=q.1∧rel X.K ρ H p.2 q.2) kvs kws
theorem c9.eG {X:Cx} {pg:Tb} {k:Nat} (a:c9 X pg k) (vars:List Str) (scope:Scope) (cl:List (Str × Addr)) (C:Addr) (s₀ :Shared) (H₀ :Hp) (ex:List Addr) (pn:List (Addr × Obj)):c9 (eG X vars scope cl C s₀ H₀ ex pn) pg k :=
 ⟨a.room,a.calm,a.nZ,a.defs,a.blt,a.con,a.xD⟩
structure JE (X:Cx) (pg:Tb) (k:Nat) (e:Expr) (m:ME):Prop where h:c9 X pg k-> ∃ t,QE X e t∧SE (run pg k) X.K t m
structure JT (X:Cx) (pg:Tb) (k:Nat) (e:Expr) (m:MT):Prop where h:c9 X pg k-> ∃ t,QT X e t∧ST (run pg k) X.K t m
structure JW (X:Cx) (pg:Tb) (k:Nat) (e:Expr) (m:MT):Prop where h:c9 X pg k-> ∃ t,QW X e t∧ST (run pg k) X.K t m
structure JA (X:Cx) (pg:Tb) (k:Nat) (e:List Expr) (m:MA):Prop where h:c9 X pg k-> ∃ t,QA X e t∧SA (run pg k) X.K t m
structure JS (X:Cx) (pg:Tb) (k:Nat) (s:Stmt) (m:MS):Prop where h:c9 X pg k-> ∃ t,QS X s t∧SS (run pg k) X.K t m
structure wU (X:Cx) (pg:Tb) (k:Nat) (s:List Stmt) (m:MS):Prop where h:c9 X pg k-> ∃ t,zC X s t∧SS (run pg k) X.K t m
structure JG (X:Cx) (pg:Tb) (k:Nat) (e:Expr) (m:MG):Prop where h:c9 X pg k-> ∃ t,QG X e t∧SG X.K t m
structure JI (X:Cx) (pg:Tb) (k:Nat) (tg e:Expr) (m:MI):Prop where h:c9 X pg k-> ∃ t,QI X tg e t∧SI (run pg k) X.K t m
structure JF (X:Cx) (pg:Tb) (k:Nat) (es:List Expr) (m:MT):Prop where h:c9 X pg k-> ∃ t,QF X es t∧ST (run pg k) X.K t m
noncomputable def oH (K:PySem.W.Frag) (r:R2) (f:PV->PV->PH->RV PV):Prop:= ∀ ρ h H x y x' y' Q v h',cW K ρ h H->rel K ρ H x x'->rel K ρ H y y'->f x y h= .ok v h'->dO K ρ H v h' Q->r x' y' H Q
noncomputable def xI (K:PySem.W.Frag) (r:List V->Hp->VK->Prop) (f:List PV->PH->RV PV):Prop:= ∀ ρ h H xs us Q v h',cW K ρ h H->au K ρ H xs us->f xs h= .ok v h'->dO K ρ H v h' Q->r us H Q
noncomputable def Kj (K:PySem.W.Frag) (T:String) (r:V->List V->Hp->VK->Prop) (f:PV->List PV->PH->RV PV) (ty:PV->PH->Bool):Prop :=
 (∀ ρ h H x x',cW K ρ h H->rel K ρ H x x'->ty x h=true->Lw K T x' H) ∧
 ∀ ρ h H x x' xs us Q v h',cW K ρ h H->rel K ρ H x x'->au K ρ H xs us->f x xs h= .ok v h'->dO K ρ H v h' Q->r x' us H Q
end P3
end
section
open PySem PySem.W PyProof.Rows
namespace P3
open PySem PySem.Spec PyProof.Rows L2
noncomputable def ab (i:Nat):ME:=fun _ e h=>match e[i]? with
 | some (some v)=> .ok v h
 | _=> .no
noncomputable def eC (v:PV):ME:=fun _ _ h=> .ok v h
noncomputable def af (f:PV->PV->PH->RV PV) (a b:ME):ME:=fun c e h=>(a c e h).bind fun x h1=>(b c e h1).bind fun y h2=>f x y h2
noncomputable def pQ (f:PV->PH->RV PV) (a:ME):ME:=fun c e h=>(a c e h).bind f
noncomputable def AY (v:PV) (h:PH):RV Bool:=match v with
 | .bl b=> .ok b h
 | _=> .no
noncomputable def qb (a b:ME):ME:=fun c e h=>((a c e h).bind AY).bind fun x h1=>if x=true then b c e h1 else .ok (.bl false) h1
noncomputable def Mp (a b:ME):ME:=fun c e h=>((a c e h).bind AY).bind fun x h1=>if x=true then .ok (.bl true) h1 else b c e h1
noncomputable def GL (a:ME):ME:=fun c e h=>((a c e h).bind AY).bind fun x h1=> .ok (.bl (!x)) h1
noncomputable def AZ (t:MT) (a b:ME):ME:=fun c e h=>(t c e h).bind fun x h1=>if x=true then a c e h1 else b c e h1
noncomputable def ar (a:ME):MT:=fun c e h=>(a c e h).bind AY
noncomputable def kF (a b:MT):MT:=fun c e h=>(a c e h).bind fun x h1=>if x=true then b c e h1 else .ok false h1
noncomputable def EK (a b:MT):MT:=fun c e h=>(a c e h).bind fun x h1=>if x=true then .ok true h1 else b c e h1
noncomputable def lh (a:MT):MT:=fun c e h=>(a c e h).bind fun x h1=> .ok (!x) h1
noncomputable def bQ:MT:=fun _ _ h=> .ok true h
noncomputable def ae:MA:=fun _ _ h=> .ok [] h
noncomputable def aa (a:ME) (r:MA):MA:=fun c e h=>(a c e h).bind fun x h1=>(r c e h1).bind fun xs h2=> .ok (x::xs) h2
noncomputable def j2 (n:Nat) (r:RV α):RV α :=if n<=sizeLine then r else .no
noncomputable def ay (r:MA):ME:=fun c e h=>(r c e h).bind fun xs h1=>j2 xs.length (.ok (.tup xs) h1)
noncomputable def aQ (r:MA):ME:=fun c e h=>(r c e h).bind fun xs h1=>j2 xs.length (.ok (.ref h1.length) (h1++[.lst xs]))
noncomputable def ah (f:String) (r:MA):ME:=fun c e h=>(r c e h).bind fun xs h1=>c f xs h1
noncomputable def eB (f:List PV->PH->RV PV) (r:MA):ME:=fun c e h=>(r c e h).bind f
noncomputable def eM (f:PV->List PV->PH->RV PV) (ty:PV->PH->Bool) (a:ME) (r:MA):ME:=fun c e h=>(a c e h).bind fun x h1=>if ty x h1=true then (r c e h1).bind fun xs h2=>f x xs h2 else .no
theorem ji {n:Nat} {r:RV α} {a: α} {h:PH}:j2 n r= .ok a h↔n<=sizeLine∧r= .ok a h:=by
 unfold j2;split
 · exact ⟨fun e=>⟨by assumption,e⟩,fun e=>e.2⟩
 · exact ⟨fun e=>(nomatch e),fun e=>absurd e.1 (by assumption)⟩
theorem qN {v:PV} {h h':PH} {b:Bool}:AY v h= .ok b h'↔v= .bl b∧h'=h:=by
 cases v<;>simp [AY,eq_comm]
section
variable {X:Cx} {pg:Tb} {k:Nat} {a b c d e:Expr} {es:List Expr} {ma mb mc md:ME} {mr:MA} {mt mt':MT} {pos p pos' apos cpos:Pos} {x:Str}
theorem IM (i:Nat) {x:Str} {pos:Pos} (hN:X.N[i]?=some x:=by rfl) (hv:HH X.env.scope x:=by first | exact Or.inl rfl | exact Or.inr (Or.inl rfl) | exact Or.inr (Or.inr rfl)) (hd:(x == ("__debug__" :Str))=false:=by decide)
  (hcd:(x == ("__classdict__" :Str))=false:=by decide):JE X pg k (.Name x pos) (ab i):=⟨fun A=>⟨_,qv i hN hv hd hcd,fun ρ h H e σ Q v h' s r q P=>by
 unfold ab at q
 split at q
 · cases q
   obtain ⟨v',e1,e2⟩:=r.get i v (by assumption)
   exact ⟨v',e1,P v' ρ H (.refl _ _) s e2⟩
 · exact nomatch q⟩⟩
theorem xv {cf:CF} {K:PySem.W.Frag} {v:PV} {v':V} (hr: ∀ ρ H,rel K ρ H v v'):SE cf K (tC v') (eC v):=fun ρ h H e σ Q w h' s r q P=>by cases q;exact P v' ρ H (.refl _ _) s (hr ρ H)
theorem HG {n:Int} {j:Nat}:JE X pg k (.Constant (.int n) j pos) (eC (.int n)):=⟨fun A=>⟨_,FR,xv fun ρ H=>by rw [rel]⟩⟩
theorem LG {n:Bool} {j:Nat}:JE X pg k (.Constant (.bool n) j pos) (eC (.bl n)):=⟨fun A=>⟨_,KR,xv fun ρ H=>by rw [rel]⟩⟩
theorem H9 {j:Nat}:JE X pg k (.Constant .none j pos) (eC .non):=⟨fun A=>⟨_,GD,xv fun ρ H=>by rw [rel]⟩⟩
theorem GJ {n:Str} {j:Nat}:JE X pg k (.Constant (.str n) j pos) (eC (.str n)):=⟨fun A=>⟨_,GB,xv fun ρ H=>by rw [rel]⟩⟩
theorem FV {v:PV} (hc:pg.con x=some v) (hg:Gl X x) (hd:(x == ("__debug__" :Str))=false:=by decide):JE X pg k (.Name x pos) (eC v):=⟨fun A=>let ⟨u,v',e1,e2,e3⟩:=A.con x v hc;⟨_,Ee hg e1 e2 hd,xv e3⟩⟩
theorem oU {T:String} (hg:Gl X x) (hb:x∈gW) (hv:bootBuiltins x=some (.type T)) (hn:x≠ "__name__" :=by decide) (hd:(x == ("__debug__" :Str))=false:=by decide):JE X pg k (.Name x pos) (eC (.ty T)) :=
 ⟨fun A=>⟨_,BL (v:= .ty T) hg (A.blt x hb) hv rfl hn hd,xv fun ρ H=>by rw [rel]⟩⟩
theorem vq {cf:CF} {K:PySem.W.Frag} {r:R2} {f:PV->PV->PH->RV PV} {ta tb:TE} (ho:oH K r f) (ha:SE cf K ta ma) (hb:SE cf K tb mb):SE cf K (D0 r ta tb) (af f ma mb):=fun ρ h H e σ Q v h' s r q P=>by
 obtain ⟨x,h1,e1,q⟩:=bind_eq.mp q
 obtain ⟨y,h2,e2,q⟩:=bind_eq.mp q
 refine ha ρ h H e σ _ x h1 s r e1 fun x' ρ1 H1 g1 s1 r1=>?_
 refine hb ρ1 h1 H1 e σ _ y h2 s1 (r.gr g1) e2 fun y' ρ2 H2 g2 s2 r2=>?_
 exact ho ρ2 h2 H2 x y x' y' Q v h' s2 (rel.gr g2 _ _ r1) r2 q (P.gr (g1.trans g2))
theorem Kw {op:Operator} {f:PV->PV->PH->RV PV} (ho:c9 X pg k-> ∃ r,dI X (binaryOp op) r∧oH X.K r f) (ha:JE X pg k a ma) (hb:JE X pg k b mb):JE X pg k (.BinOp a op b pos) (af f ma mb):=⟨fun A =>
 let ⟨_,q1,s1⟩:=ha.h A;let ⟨_,q2,s2⟩:=hb.h A;let ⟨_,q,s⟩:=ho A;⟨_,J1 q q1 q2,vq s s1 s2⟩⟩
theorem yE {op:CmpOp} {f:PV->PV->PH->RV PV} (ho:c9 X pg k-> ∃ r,dI X (compareOp op) r∧oH X.K r f) (ha:JE X pg k a ma) (hb:JE X pg k b mb) (hm:behindInMarks op b=false):JE X pg k (.Compare a [op] [b] pos) (af f ma mb):=⟨fun A =>
 let ⟨_,q1,s1⟩:=ha.h A;let ⟨_,q2,s2⟩:=hb.h A;let ⟨_,q,s⟩:=ho A;⟨_,DY q q1 q2 hm,vq s s1 s2⟩⟩
theorem p8 {cf:CF} {K:PySem.W.Frag} {ta:TE} (ha:SE cf K ta ma):ST cf K (zZ ta) (ar ma):=fun ρ h H e σ Q v h' s r q P=>by
 obtain ⟨x,h1,e1,q⟩:=bind_eq.mp q
 obtain ⟨rfl,rfl⟩:=qN.mp q
 refine ha ρ h H e σ _ _ _ s r e1 fun x' ρ1 H1 g1 s1 r1=>?_
 rw [rel] at r1
 exact ⟨v,r1,P ρ1 H1 g1 s1⟩
theorem yD {op:CmpOp} {f:PV->PV->PH->RV PV} (ho:c9 X pg k-> ∃ r,dI X (compareOp op) r∧oH X.K r f) (ha:JE X pg k a ma) (hb:JE X pg k b mb) (hm:behindInMarks op b=false):JT X pg k (.Compare a [op] [b] pos) (ar (af f ma mb)):=⟨fun A =>
 let ⟨_,q1,s1⟩:=ha.h A;let ⟨_,q2,s2⟩:=hb.h A;let ⟨_,q,s⟩:=ho A;⟨_,Co q q1 q2 hm,p8 (vq s s1 s2)⟩⟩
theorem Jk (ha:JE X pg k e ma) (he: ∀ whole,isTrue e X.env whole=(do let v <- whole;standAt e.pos;holding [v] (truthy v)):=by intro _;rfl):JT X pg k e (ar ma):=⟨fun A =>
 let ⟨_,q1,s1⟩:=ha.h A;⟨_,Fo q1 he,p8 s1⟩⟩
theorem Hl (ha:JE X pg k a ma):JE X pg k (.UnaryOp .Not a pos) (GL ma):=⟨fun A =>
 let ⟨_,q1,s1⟩:=ha.h A;⟨_,Il q1,fun ρ h H e σ Q v h' s r q P=>by
  obtain ⟨x,h2,q2,q⟩:=bind_eq.mp q
  obtain ⟨y,h1,e1,q2⟩:=bind_eq.mp q2
  obtain ⟨rfl,rfl⟩:=qN.mp q2
  cases q
  refine s1 ρ h H e σ _ _ _ s r e1 fun x' ρ1 H1 g1 z1 r1=>?_
  rw [rel] at r1
  exact ⟨x,r1,P _ ρ1 H1 g1 z1 (by rw [rel])⟩⟩⟩
theorem Fz {op:BoolOp} (h:JE X pg k a ma):JE X pg k (.BoolOp op [a] pos) ma:=⟨fun A=>let ⟨_,q1,s1⟩:=h.h A;⟨_,IS q1,s1⟩⟩
theorem GN {rest:List Expr} (ha:JE X pg k a ma) (hb:JE X pg k (.BoolOp .And (b::rest) pos) mb):JE X pg k (.BoolOp .And (a::b::rest) pos) (qb ma mb):=⟨fun A =>
 let ⟨_,q1,s1⟩:=ha.h A;let ⟨_,q2,s2⟩:=hb.h A;⟨_,FW q1 q2,fun ρ h H e σ Q v h' s r q P=>by
  obtain ⟨x,h2,q2,q⟩:=bind_eq.mp q
  obtain ⟨y,h1,e1,q2⟩:=bind_eq.mp q2
  obtain ⟨rfl,rfl⟩:=qN.mp q2
  refine s1 ρ h H e σ _ _ _ s r e1 fun x' ρ1 H1 g1 z1 r1=>?_
  rw [rel] at r1
  refine ⟨x,r1,?_⟩
  cases x with
  | true=>exact s2 ρ1 _ H1 e σ _ _ _ z1 (r.gr g1) q (P.gr g1)
  | false=>cases q;exact P _ ρ1 H1 g1 z1 (by rw [rel])⟩⟩
theorem Lf {rest:List Expr} (ha:JE X pg k a ma) (hb:JE X pg k (.BoolOp .Or (b::rest) pos) mb):JE X pg k (.BoolOp .Or (a::b::rest) pos) (Mp ma mb):=⟨fun A =>
 let ⟨_,q1,s1⟩:=ha.h A;let ⟨_,q2,s2⟩:=hb.h A;⟨_,Kt q1 q2,fun ρ h H e σ Q v h' s r q P=>by
  obtain ⟨x,h2,q2,q⟩:=bind_eq.mp q
  obtain ⟨y,h1,e1,q2⟩:=bind_eq.mp q2
  obtain ⟨rfl,rfl⟩:=qN.mp q2
  refine s1 ρ h H e σ _ _ _ s r e1 fun x' ρ1 H1 g1 z1 r1=>?_
  rw [rel] at r1
  refine ⟨x,r1,?_⟩
  cases x with
  | false=>exact s2 ρ1 _ H1 e σ _ _ _ z1 (r.gr g1) q (P.gr g1)
  | true=>cases q;exact P _ ρ1 H1 g1 z1 (by rw [rel])⟩⟩
theorem xJ (hc:JT X pg k c mt) (ha:JE X pg k a ma) (hb:JE X pg k b mb):JE X pg k (.IfExp c a b pos) (AZ mt ma mb):=⟨fun A =>
 let ⟨_,q0,s0⟩:=hc.h A;let ⟨_,q1,s1⟩:=ha.h A;let ⟨_,q2,s2⟩:=hb.h A;⟨_,yK q0 q1 q2,fun ρ h H e σ Q v h' s r q P=>by
  obtain ⟨x,h1,e1,q⟩:=bind_eq.mp q
  refine s0 ρ h H e σ _ _ _ s r e1 fun ρ1 H1 g1 z1=>?_
  cases x with
  | true=>exact s1 ρ1 _ H1 e σ _ _ _ z1 (r.gr g1) q (P.gr g1)
  | false=>exact s2 ρ1 _ H1 e σ _ _ _ z1 (r.gr g1) q (P.gr g1)⟩⟩
theorem CI (ha:JT X pg k a mt):JW X pg k (.BoolOp .And [a] pos) mt:=⟨fun A=>let ⟨_,q1,s1⟩:=ha.h A;⟨_,Ec q1,s1⟩⟩
theorem Hm (ha:JT X pg k a mt):JW X pg k (.BoolOp .Or [a] pos) mt:=⟨fun A=>let ⟨_,q1,s1⟩:=ha.h A;⟨_,GP q1,s1⟩⟩
theorem xM {rest:List Expr} (ha:JT X pg k a mt) (hb:JW X pg k (.BoolOp .And (b::rest) pos) mt'):JW X pg k (.BoolOp .And (a::b::rest) pos) (kF mt mt'):=⟨fun A =>
 let ⟨_,q1,s1⟩:=ha.h A;let ⟨_,q2,s2⟩:=hb.h A;⟨_,Gx q1 q2,fun ρ h H e σ Q v h' s r q P=>by
  obtain ⟨x,h1,e1,q⟩:=bind_eq.mp q
  refine s1 ρ h H e σ _ _ _ s r e1 fun ρ1 H1 g1 z1=>?_
  cases x with
  | true=>exact s2 ρ1 _ H1 e σ _ _ _ z1 (r.gr g1) q (P.gr g1)
  | false=>cases q;exact P ρ1 H1 g1 z1⟩⟩
theorem Et {rest:List Expr} (ha:JT X pg k a mt) (hb:JW X pg k (.BoolOp .Or (b::rest) pos) mt'):JW X pg k (.BoolOp .Or (a::b::rest) pos) (EK mt mt'):=⟨fun A =>
 let ⟨_,q1,s1⟩:=ha.h A;let ⟨_,q2,s2⟩:=hb.h A;⟨_,K8 q1 q2,fun ρ h H e σ Q v h' s r q P=>by
  obtain ⟨x,h1,e1,q⟩:=bind_eq.mp q
  refine s1 ρ h H e σ _ _ _ s r e1 fun ρ1 H1 g1 z1=>?_
  cases x with
  | false=>exact s2 ρ1 _ H1 e σ _ _ _ z1 (r.gr g1) q (P.gr g1)
  | true=>cases q;exact P ρ1 H1 g1 z1⟩⟩
theorem JW.pt (h:JW X pg k e mt):JT X pg k e mt:=⟨fun A=>let ⟨_,q1,s1⟩:=h.h A;⟨_,q1.pt,s1⟩⟩
theorem HE (ha:JT X pg k a mt):JT X pg k (.UnaryOp .Not a pos) (lh mt):=⟨fun A=>let ⟨_,q1,s1⟩:=ha.h A;⟨_,HN q1,fun ρ h H e σ Q v h' s r q P=>by
  obtain ⟨x,h1,e1,q⟩:=bind_eq.mp q
  cases q
  exact s1 ρ h H e σ _ _ _ s r e1 fun ρ1 H1 g1 z1=>P ρ1 H1 g1 z1⟩⟩
theorem Gj:JF X pg k [] bQ:=⟨fun A=>⟨_,FT,fun ρ h H e σ Q v h' s r q P=>by cases q;exact P ρ H (.refl _ _) s⟩⟩
theorem Ik (h:JT X pg k c mt):JF X pg k [c] mt:=⟨fun A=>let ⟨_,q1,s1⟩:=h.h A;⟨_,FP q1,s1⟩⟩
theorem Hk:JA X pg k [] ae:=⟨fun A=>⟨_,xZ,fun ρ h H e σ Q v h' s r q P=>by cases q;exact P [] ρ H (.refl _ _) s (aK.mpr rfl)⟩⟩
theorem DL (ha:JE X pg k e ma) (hr:JA X pg k es mr) (hs:noStar e=true:=by rfl):JA X pg k (e::es) (aa ma mr):=⟨fun A =>
 let ⟨_,q1,s1⟩:=ha.h A;let ⟨_,q2,s2⟩:=hr.h A;⟨_,qk q1 q2 hs,fun ρ h H e σ Q v h' s r q P=>by
  obtain ⟨x,h1,e1,q⟩:=bind_eq.mp q
  obtain ⟨xs,h2,e2,q⟩:=bind_eq.mp q
  cases q
  refine s1 ρ h H e σ _ _ _ s r e1 fun x' ρ1 H1 g1 z1 r1=>?_
  refine s2 ρ1 h1 H1 e σ _ _ _ z1 (r.gr g1) e2 fun us ρ2 H2 g2 z2 r2=>?_
  exact P _ ρ2 H2 (g1.trans g2) z2 (aD.mpr ⟨x',us,rfl,rel.gr g2 _ _ r1,r2⟩)⟩⟩
theorem FI {x1} (h:JA X pg k es mr):JE X pg k (.Tuple es x1 pos) (ay mr):=⟨fun A =>
 let ⟨_,q1,s1⟩:=h.h A;⟨_,IU q1,fun ρ h H e σ Q v h' s r q P=>by
  obtain ⟨xs,h1,e1,q⟩:=bind_eq.mp q
  obtain ⟨hl,q⟩:=ji.mp q
  cases q
  refine s1 ρ h H e σ _ _ _ s r e1 fun us ρ1 H1 g1 z1 r1=>⟨by rw [<- r1.len];exact hl,fun p hp=>?_⟩
  refine P _ ρ1 _ (g1.trans (Gr.wY hp)) (z1.tup hp) ?_
  rw [rel]
  exact ⟨p,us,rfl,aY,au.gr (Gr.wY hp) _ _ r1⟩⟩⟩
theorem dX {K:PySem.W.Frag} {ρ :List Addr} {h:PH} {H:Hp} {xs:List PV} {us:List V} {Q:VK} (s:cW K ρ h H) (r:au K ρ H xs us) (P:dO K ρ H (.ref h.length) (h++[.lst xs]) Q) (p:Addr) (hp:H p=none):Q (.ref p) (upd H p (.lst us)):=by
 refine P _ (ρ ++[p]) _ (Gr.new hp [p]) (s.new hp ⟨us,aY,au.gr (Gr.new hp [p]) _ _ r⟩) ?_
 rw [rel]
 exact ⟨p,by rw [<- s.len,List.getElem?_append_right (Nat.le_refl _)];simp,rfl⟩
theorem E4 (h:JA X pg k es mr):JE X pg k (.List es pos) (aQ mr):=⟨fun A =>
 let ⟨_,q1,s1⟩:=h.h A;⟨_,IB q1,fun ρ h H e σ Q v h' s r q P=>by
  obtain ⟨xs,h1,e1,q⟩:=bind_eq.mp q
  obtain ⟨hl,q⟩:=ji.mp q
  cases q
  exact s1 ρ h H e σ _ _ _ s r e1 fun us ρ1 H1 g1 z1 r1=>⟨by rw [<- r1.len];exact hl,fun p hp=>dX z1 r1 (P.gr g1) p hp⟩⟩⟩
theorem CP {f:String} {d:Df} (hf:pg.fns f=some d) (hg:Gl X (Str.ofString f)) (ha:JA X pg k (e::es) mr) (hdb:(Str.ofString f == ("__debug__" :Str))=false:=by decide) (he:noStar e=true:=by rfl) (hpl:es.all noStar=true:=by rfl) :
  JE X pg k (.Call (.Name (Str.ofString f) p) (e::es) [] pos) (ah f mr):=⟨fun A =>
 let ⟨_,q1,s1⟩:=ha.h A;⟨_,qd (A.defs f d hf) A.room hg (Nat.le_refl _) q1 hdb he hpl,fun ρ h H e σ Q v h' s r q P=>by
  obtain ⟨xs,h1,e1,q⟩:=bind_eq.mp q
  refine s1 ρ h H e σ _ _ _ s r e1 fun us ρ1 H1 g1 z1 r1=>?_
  rw [List.append_nil]
  exact ⟨ρ1,h1,xs,v,h',z1,r1,q,P.gr g1⟩⟩⟩
theorem LU {cf:CF} {K:PySem.W.Frag} {r:List V->Hp->VK->Prop} {f:List PV->PH->RV PV} {ta:TA} (ho:xI K r f) (ha:SA cf K ta mr):SE cf K (Iy r ta) (eB f mr):=fun ρ h H e σ Q v h' s r q P=>by
 obtain ⟨xs,h1,e1,q⟩:=bind_eq.mp q
 exact ha ρ h H e σ _ _ _ s r e1 fun us ρ1 H1 g1 z1 r1=>ho ρ1 h1 H1 xs us Q v h' z1 r1 q (P.gr g1)
theorem Cf {id:String} {f:List PV->PH->RV PV} (hc:c9 X pg k-> ∃ r,aW X (.builtin id) r∧xI X.K r f) (hg:Gl X x) (hb:x∈gW) (hv:bootBuiltins x=some (.builtin id)) (ha:JA X pg k (e::es) mr)
  (hn:x≠ "__name__" :=by decide) (hdb:(x == ("__debug__" :Str))=false:=by decide) (he:noStar e=true:=by rfl) (hpl:es.all noStar=true:=by rfl):JE X pg k (.Call (.Name x p) (e::es) [] pos) (eB f mr):=⟨fun A =>
 let ⟨_,q1,s1⟩:=ha.h A;let ⟨_,q,s⟩:=hc A;⟨_,qB q hg (A.blt x hb) hv q1 hn hdb he hpl,LU s s1⟩⟩
theorem Dp {T:String} {f:List PV->PH->RV PV} (hc:c9 X pg k-> ∃ r,aW X (.type T) r∧xI X.K r f) (hg:Gl X x) (hb:x∈gW) (hv:bootBuiltins x=some (.type T)) (ha:JA X pg k (e::es) mr)
  (hn:x≠ "__name__" :=by decide) (hdb:(x == ("__debug__" :Str))=false:=by decide) (he:noStar e=true:=by rfl) (hpl:es.all noStar=true:=by rfl):JE X pg k (.Call (.Name x p) (e::es) [] pos) (eB f mr):=⟨fun A =>
 let ⟨_,q1,s1⟩:=ha.h A;let ⟨_,q,s⟩:=hc A;⟨_,qT q hg (A.blt x hb) hv q1 hn hdb he hpl,LU s s1⟩⟩
theorem BE {name:Str} {id T:String} {f:PV->List PV->PH->RV PV} {ty:PV->PH->Bool} (pa:PlainAttrs T) (slot:Slot T name id) (hty:typeOf (.builtin id)=pure (.type "method_descriptor")) (hm:c9 X pg k-> ∃ r,DI X id r∧Kj X.K T r f ty)
  (ho:JE X pg k d md) (ha:JA X pg k [e] mr) (hbase:attributeBase d name X.env (eval d X.env)=eval d X.env:=by rfl) (hline:(apos.endLine == cpos.line)=true:=by rfl) (hs:noStar e=true:=by rfl) :
  JE X pg k (.Call (.Attribute d name apos) [e] [] cpos) (eM f ty md mr):=⟨fun A =>
 let ⟨_,q0,s0⟩:=ho.h A;let ⟨_,q1,s1⟩:=ha.h A;let ⟨_,q,s⟩:=hm A;⟨_,J9 pa slot hty q q0 q1 hbase hline hs,fun ρ h H e σ Q v h' z r q P=>by
  obtain ⟨x,h1,e1,q⟩:=bind_eq.mp q
  refine s0 ρ h H e σ _ _ _ z r e1 fun x' ρ1 H1 g1 z1 r1=>?_
  split at q
  · rename_i ht
    obtain ⟨xs,h2,e2,q⟩:=bind_eq.mp q
    refine ⟨s.1 ρ1 h1 H1 x x' z1 r1 ht,?_⟩
    exact s1 ρ1 h1 H1 e σ _ _ _ z1 (r.gr g1) e2 fun us ρ2 H2 g2 z2 r2=>s.2 ρ2 h2 H2 x x' xs us Q v h' z2 (rel.gr g2 _ _ r1) r2 q (P.gr (g1.trans g2))
  · exact nomatch q⟩⟩
end
end P3
end
section
open PySem PySem.W PyProof.Rows
namespace P3
open PySem PySem.Spec PyProof.Rows L2
noncomputable def bD:MS:=fun _ e h=> .ok (.nx e) h
noncomputable def ag (a b:MS):MS:=fun c e h=>(a c e h).bind fun f h1=>match f with
 | .nx e1=>b c e1 h1
 | f=> .ok f h1
noncomputable def dN (a:ME):MS:=fun c e h=>(a c e h).bind fun _ h1=> .ok (.nx e) h1
noncomputable def aB (a:ME):MS:=fun c e h=>(a c e h).bind fun v h1=> .ok (.rt v) h1
noncomputable def bu (t:MT) (a b:MS):MS:=fun c e h=>(t c e h).bind fun x h1=>if x=true then a c e h1 else b c e h1
noncomputable def j5:MS:=fun _ e h=> .ok (.bk e) h
noncomputable def ak (a:ME) (g:MG):MS:=fun c e h=>(a c e h).bind fun v h1=>(g v e h1).bind fun e1 h2=> .ok (.nx e1) h2
noncomputable def gN (i:Nat):MG:=fun v e h=> .ok (e.set i (some v)) h
noncomputable def gT (n:Nat) (g:List PV->ax->PH->RV ax):MG:=fun v e h=>match v.seq? with
 | some xs=>if xs.length=n then g xs e h else .no
 | none=> .no
noncomputable def dF:List PV->ax->PH->RV ax:=fun vs e h=>match vs with
 | []=> .ok e h
 | _=> .no
noncomputable def aR (g:MG) (r:List PV->ax->PH->RV ax):List PV->ax->PH->RV ax:=fun vs e h=>match vs with
 | []=> .no
 | v::t=>(g v e h).bind fun e1 h1=>r t e1 h1
noncomputable def jP (f:PV->PV->PV->PH->RV Unit) (o i a:ME):MS:=fun c e h=>(a c e h).bind fun v h1=>(o c e h1).bind fun x h2=>(i c e h2).bind fun y h3=>(f x y v h3).bind fun _ h4=> .ok (.nx e) h4
noncomputable def cF (it:gR) (step:PV->ax->PH->RV Fl):List PV->ax->PH->RV Fl
 | [],e,h=>if it.eX h=true then .ok (.nx e) h else .no
 | x::xs,e,h=>if it.eX h=true then (step x e h).bind (fun f h1=>match f with
   | .nx e1=>cF it step xs e1 h1
   | .ct e1=>cF it step xs e1 h1
   | .bk e1=> .ok (.nx e1) h1
   | .rt v=> .ok (.rt v) h1) else .no
noncomputable def gX (i:MI) (g:MG) (b:MS):MS:=fun c e h=>(i c e h).bind fun it h1=>cF it (fun x e h=>(g x e h).bind fun e1 h1=>b c e1 h1) it.items e h1
noncomputable def cq (t:ax->PH->RV Bool) (b:ax->PH->RV Fl):Nat->ax->PH->RV Fl
 | 0,_,_=> .no
 | n+1,e,h=>(t e h).bind fun x h1=>if x=true then (b e h1).bind (fun f h2=>match f with
   | .nx e1=>cq t b n e1 h2
   | .ct e1=>cq t b n e1 h2
   | .bk e1=> .ok (.nx e1) h2
   | .rt v=> .ok (.rt v) h2) else .ok (.nx e) h1
noncomputable def mO (t:MT) (b:MS):MS:=fun c e h=>cq (t c) (b c) 100000 e h
noncomputable def fY (it:gR) (step:PV->PH->RV (Option PV)):List PV->List PV->PH->RV (List PV)
 | [],ys,h=>if it.eX h=true then .ok ys h else .no
 | x::xs,ys,h=>if it.eX h=true∧ys.length < sizeLine then (step x h).bind (fun o h1=>match o with
   | some y=>fY it step xs (ys++[y]) h1
   | none=>fY it step xs ys h1) else .no
noncomputable def bj (k:Nat) (g:MG) (t:MT) (a:ME) (c:CF) (e:ax) (x:PV) (h:PH):RV (Option PV):=(g x (e++List.replicate k none) h).bind fun e2 h2=>(t c e2 h2).bind fun b h3=>if b=true then (a c e2 h3).bind (fun y h4=> .ok (some y) h4) else .ok none h3
noncomputable def iA (k:Nat) (i:MI) (g:MG) (t:MT) (a:ME):ME:=fun c e h=>(i c e h).bind fun it h1=>(fY it (bj k g t a c e) it.items [] h1).bind fun ys h2=> .ok (.ref h2.length) (h2++[.lst ys])
section
variable {X:Cx} {pg:Tb} {k:Nat} {a b c d e o i:Expr} {es:List Expr} {ma mb mc md mo mi:ME} {mr:MA} {mt mt':MT} {ms ms' mu:MS} {pos p pos' apos cpos spos:Pos} {x y:Str} {st:Stmt} {body rest:List Stmt} {g:MG} {mI:MI} {tg iter:Expr} {gs:List PV->ax->PH->RV ax}
theorem JD {c:CF} {K:PySem.W.Frag}:SS c K yT bD:=fun ρ h H e σ D f h' s r q P=>by cases q;exact P σ ρ H (.refl _ _) s r
theorem Jc {c:CF} {K:PySem.W.Frag} {t u:TS} (h1:SS c K t ms) (h2:SS c K u mu):SS c K (G7 t u) (ag ms mu):=fun ρ h H e σ D f h' s r q P=>by
 obtain ⟨f1,h1',e1,q⟩:=bind_eq.mp q
 refine h1 ρ h H e σ _ f1 h1' s r e1 ?_
 cases f1 with
 | nx e'=>exact fun σ1 ρ1 H1 g1 s1 r1=>h2 ρ1 h1' H1 e' σ1 D f h' s1 r1 q (P.gr g1)
 | rt v=>cases q;exact P
 | bk e'=>cases q;exact P
 | ct e'=>cases q;exact P
theorem BZ:wU X pg k [] bD:=⟨fun A=>⟨_,CT,JD⟩⟩
theorem Dq (h:JS X pg k st ms):wU X pg k [st] ms:=⟨fun A=>let ⟨_,q,s⟩:=h.h A;⟨_,D6 q,s⟩⟩
theorem yj (h1:JS X pg k st ms) (h2:wU X pg k rest mu):wU X pg k (st::rest) (ag ms mu):=⟨fun A=>let ⟨_,q1,s1⟩:=h1.h A;let ⟨_,q2,s2⟩:=h2.h A;⟨_,y8 q1 q2,Jc s1 s2⟩⟩
theorem Bz (ha:JE X pg k e ma) (hs:swapsWith e none pos.line X.env=pure false:=by rfl):JS X pg k (.Expr e pos) (dN ma):=⟨fun A=>let ⟨_,q1,s1⟩:=ha.h A;⟨_,Br q1 hs,fun ρ h H e σ D f h' s r q P=>by
 obtain ⟨x,h1,e1,q⟩:=bind_eq.mp q
 cases q
 exact s1 ρ h H e σ _ x _ s r e1 fun x' ρ1 H1 g1 z1 r1=>P σ ρ1 H1 g1 z1 (r.gr g1)⟩⟩
theorem Iw (ha:JE X pg k e ma):JS X pg k (.Return (some e) pos) (aB ma):=⟨fun A=>let ⟨_,q1,s1⟩:=ha.h A;⟨_,GS q1,fun ρ h H e σ D f h' s r q P=>by
 obtain ⟨x,h1,e1,q⟩:=bind_eq.mp q
 cases q
 exact s1 ρ h H e σ _ x _ s r e1 P⟩⟩
theorem Jx {A B:List Stmt} (hc:JT X pg k c mt) (ha:wU X pg k A ms) (hb:wU X pg k B mu):JS X pg k (.If c A B pos) (bu mt ms mu):=⟨fun Z =>
 let ⟨_,q0,s0⟩:=hc.h Z;let ⟨_,q1,s1⟩:=ha.h Z;let ⟨_,q2,s2⟩:=hb.h Z;⟨_,L3 q0 q1 q2,fun ρ h H e σ D f h' s r q P=>by
  obtain ⟨x,h1,e1,q⟩:=bind_eq.mp q
  refine s0 ρ h H e σ _ _ _ s r e1 fun ρ1 H1 g1 z1=>?_
  cases x with
  | true=>exact s1 ρ1 _ H1 e σ _ _ _ z1 (r.gr g1) q (P.gr g1)
  | false=>exact s2 ρ1 _ H1 e σ _ _ _ z1 (r.gr g1) q (P.gr g1)⟩⟩
theorem zc (h:PS X (.Break pos) zq):JS X pg k (.Break pos) j5:=⟨fun A=>⟨_,⟨h⟩,fun ρ h H e σ D f h' s r q P=>by cases q;exact P σ ρ H (.refl _ _) s r⟩⟩
theorem vV {K:PySem.W.Frag} {i:Nat}:SG K (fq i) (gN i):=fun ρ h H e σ Q v v' e' h' s r rv q P=>by cases q;exact P _ ρ H (.refl _ _) s (r.set i rv)
theorem Ct {i:Nat} (hN:X.N.Nodup) (hi:X.N[i]?=some x) (hx:Loc X.env.scope x) (hf:X.fn x=true∨X.env.scope.names.lookup x=some .local:=by first | exact .inl rfl | exact .inr rfl | assumption):JG X pg k (.Name x pos) (gN i):=⟨fun A=>⟨_,vk hN hi hx hf,vV⟩⟩
structure Js (X:Cx) (pg:Tb) (k:Nat) (e:List Expr) (m:List PV->ax->PH->RV ax):Prop where
 h:c9 X pg k-> ∃ t,Er X e t∧ ∀ ρ h H e σ Q vs us e' h',cW X.K ρ h H->dJ X.K ρ H e σ ->au X.K ρ H vs us->m vs e h= .ok e' h'->eR X.K ρ H e' h' Q->t us σ H Q
theorem B1:Js X pg k [] dF:=⟨fun A=>⟨_,vx,fun ρ h H e σ Q vs us e' h' s r rv q P=>by
 cases vs with
 | nil=>cases q;rw [aK] at rv;exact ⟨rv,P σ ρ H (.refl _ _) s r⟩
 | cons=>exact nomatch q⟩⟩
theorem zD (h1:JG X pg k e g) (h2:Js X pg k es gs) (hs:(assignEach (e::es) X.env).map (·.2)=assign e X.env::(assignEach es X.env).map (·.2):=by rfl):Js X pg k (e::es) (aR g gs):=⟨fun A =>
 let ⟨_,q1,s1⟩:=h1.h A;let ⟨_,q2,s2⟩:=h2.h A;⟨_,sj q1 q2 hs,fun ρ h H e σ Q vs us e' h' s r rv q P=>by
 cases vs with
 | nil=>exact nomatch q
 | cons v t =>
  obtain ⟨w,u,rfl,r1,r2⟩:=aD.mp rv
  obtain ⟨e1,h1,e2,q⟩:=bind_eq.mp q
  refine ⟨w,u,rfl,?_⟩
  exact s1 ρ h H e σ _ v w e1 h1 s r r1 e2 fun σ1 ρ1 H1 g1 z1 y1=>s2 ρ1 h1 H1 e1 σ1 Q t u e' h' z1 y1 (au.gr g1 _ _ r2) q (P.gr g1)⟩⟩
theorem Fd {j:Nat} {n:Nat} (h:Js X pg k es gs) (hn:(assignEach es X.env).length=n:=by rfl) (hst:(assignEach es X.env).findIdx? (·.1)=none:=by rfl):JG X pg k (.Tuple es j pos) (gT n gs):=⟨fun A =>
 let ⟨_,q1,s1⟩:=h.h A;⟨_,uO A.calm q1 hn hst,fun ρ h H e σ Q v v' e' h' s r rv q P=>by
 unfold gT at q
 split at q
 · rename_i xs ex
   obtain ⟨a,vs,rfl,z,rr⟩:=rel.seq ex rv
   split at q
   · rename_i hl
     exact ⟨a,vs,rfl,z,by rw [<- rr.len];exact hl,s1 ρ h H e σ Q xs vs e' h' s r rr q P⟩
   · exact nomatch q
 · exact nomatch q⟩⟩
theorem Ia {j:Nat} (hN:X.N.Nodup) (hi:X.N[j]?=some x) (hx:Loc X.env.scope x) (he:JE X pg k e ma) (hs:swapsWith e (some (.Name x pos')) pos.line X.env=pure false:=by rfl) (hf:X.fn x=true∨X.env.scope.names.lookup x=some .local:=by first | exact .inl rfl | exact .inr rfl | assumption) :
  JS X pg k (.Assign [.Name x pos'] e pos) (ak ma (gN j)):=⟨fun A=>let ⟨_,q1,s1⟩:=he.h A;⟨_,Ip hN hi hx q1 hs hf,fun ρ h H e σ D f h' s r q P=>by
 obtain ⟨v,h1,e1,q⟩:=bind_eq.mp q
 obtain ⟨e2,h2,e3,q⟩:=bind_eq.mp q
 cases q
 cases e3
 exact s1 ρ h H e σ _ v _ s r e1 fun v' ρ1 H1 g1 z1 r1=>P _ ρ1 H1 g1 z1 ((r.gr g1).set j r1)⟩⟩
theorem Hv (he:JE X pg k e ma) (hg:JG X pg k tg g) (hs:swapsWithSole [tg] e pos.line X.env=pure false:=by rfl) (hw:swappedStores [tg] e X.env=pure none:=by rfl) (h1:(assignEach [tg] X.env).map (·.2)=[assign tg X.env]:=by rfl) :
  JS X pg k (.Assign [tg] e pos) (ak ma g):=⟨fun A=>let ⟨_,q1,s1⟩:=he.h A;let ⟨_,q2,s2⟩:=hg.h A;⟨_,yn q1 q2 hs hw h1,fun ρ h H e σ D f h' s r q P=>by
 obtain ⟨v,h1,e1,q⟩:=bind_eq.mp q
 obtain ⟨e2,h2,e3,q⟩:=bind_eq.mp q
 cases q
 exact s1 ρ h H e σ _ v h1 s r e1 fun v' ρ1 H1 g1 z1 r1=>s2 ρ1 h1 H1 e σ _ v v' e2 _ z1 (r.gr g1) r1 e3 (eR.gr P g1)⟩⟩
theorem Fh {f:PV->PV->PV->PH->RV Unit} (hp:c9 X pg k-> ∃ t,ox X t∧ ∀ ρ h H x y v x' y' v' u h' Q,cW X.K ρ h H->rel X.K ρ H x x'->rel X.K ρ H y y'->rel X.K ρ H v v'->f x y v h= .ok u h'->kW X.K ρ H h' Q->t x' y' v' H Q)
  (ho:JE X pg k o mo) (hi:JE X pg k i mi) (hv:JE X pg k e ma) (hs:swapsWithSole [.Subscript o i pos'] e pos.line X.env=pure false:=by rfl) (hw:swappedStores [.Subscript o i pos'] e X.env=pure none:=by rfl) (h1:(assignEach [.Subscript o i pos'] X.env).map (·.2)=[assign (.Subscript o i pos') X.env]:=by rfl)
  (ha: ∀ v,assign (.Subscript o i pos') X.env v=(do
   let ov <- holding [v] (eval o X.env)
   let iv <- holding [v,ov] (eval i X.env)
   standAt pos'
   holding [v,ov,iv] (setItem ov iv v)
   release [v,ov,iv] []):=by intro _;rfl):JS X pg k (.Assign [.Subscript o i pos'] e pos) (jP f mo mi ma):=⟨fun A =>
 let ⟨_,q0,s0⟩:=hv.h A;let ⟨_,q1,s1⟩:=ho.h A;let ⟨_,q2,s2⟩:=hi.h A;let ⟨_,q3,s3⟩:=hp A;⟨_,yn q0 ⟨HL q1.h q2.h q3 ha⟩ hs hw h1,fun ρ h H e σ D f' h' s r q P=>by
 obtain ⟨v,h1,e1,q⟩:=bind_eq.mp q
 obtain ⟨x,h2,e2,q⟩:=bind_eq.mp q
 obtain ⟨y,h3,e3,q⟩:=bind_eq.mp q
 obtain ⟨u,h4,e4,q⟩:=bind_eq.mp q
 cases q
 refine s0 ρ h H e σ _ v h1 s r e1 fun v' ρ1 H1 g1 z1 r1=>?_
 refine s1 ρ1 h1 H1 e σ _ x h2 z1 (r.gr g1) e2 fun x' ρ2 H2 g2 z2 r2=>?_
 refine s2 ρ2 h2 H2 e σ _ y h3 z2 (r.gr (g1.trans g2)) e3 fun y' ρ3 H3 g3 z3 r3=>?_
 have g:=(g1.trans g2).trans g3
 exact s3 ρ3 h3 H3 x y v x' y' v' u _ _ z3 (rel.gr g3 _ _ r2) r3 (rel.gr (g2.trans g3) _ _ r1) e4 fun ρ4 H4 g4 z4=>P σ ρ4 H4 (g.trans g4) z4 (r.gr (g.trans g4))⟩⟩
theorem Ig (hi:JI X pg k tg iter mI) (hg:JG X pg k tg g) (hb:wU X pg k body ms) (hp:PassesOwn (model X.prog X.w) X.A X.env X.xe) (hs: ∀ x,foldedSetIterable iter X.env x=pure x:=by intro _;rfl):JS X pg k (.For tg iter body [] pos) (gX mI g ms):=⟨fun A =>
 let ⟨_,q1,s1⟩:=hi.h A;let ⟨_,q2,s2⟩:=hg.h A;let ⟨_,q3,s3⟩:=hb.h A;⟨_,IT hp A.calm q1 q2 q3 hs,fun ρ h H e σ D f h' s r q P=>by
 obtain ⟨it,h1,e1,q⟩:=bind_eq.mp q
 refine s1 ρ h H e σ _ it h1 s r e1 fun ρ1 H1 J g1 z1 w1=>?_
 let step:PV->ax->PH->RV Fl:=fun x e h=>(g x e h).bind fun e1 h1=>ms (run pg k) e1 h1
 refine ⟨fun i m σ' H'=> ∃ ρ' h2 e',Gr ρ1 H1 ρ' H'∧cW X.K ρ' h2 H'∧dJ X.K ρ' H' e' σ'∧i<=it.items.length∧m=it.items.length - i∧cF it step (it.items.drop i) e' h2= .ok f h',⟨_, ρ1,h1,e,.refl _ _,z1,r.gr g1,Nat.zero_le _,rfl,q⟩,?_⟩
 rintro i m σ2 H2 ⟨ρ2,h2,e2,g2,z2,r2,hi,rfl,q2⟩
 cases hx:it.items[i]? with
 | none =>
  have hl:it.items.length<=i:=List.getElem?_eq_none_iff.mp hx
  rw [List.drop_eq_nil_of_le hl,cF] at q2
  split at q2
  · rename_i hf
    cases q2
    exact .inl ⟨(w1 i ρ2 _ H2 g2 z2 hf).2 (by omega),P σ2 ρ2 H2 (g1.trans g2) z2 r2⟩
  · exact nomatch q2
 | some x =>
  have hlt:i < it.items.length:=(List.getElem?_eq_some_iff.mp hx).1
  have hd:it.items.drop i=x::it.items.drop (i+1):=by
   rw [List.drop_eq_getElem_cons hlt,(List.getElem?_eq_some_iff.mp hx).2]
  rw [hd,cF] at q2
  split at q2
  · rename_i hf
    obtain ⟨go,yl⟩:=(w1 i ρ2 _ H2 g2 z2 hf).1 x hx
    obtain ⟨f3,h3,e3,q3⟩:=bind_eq.mp q2
    obtain ⟨e4,h4,e5,q4⟩:=bind_eq.mp e3
    refine .inr ⟨go,fun σ' H'=> ∃ ρ' h2 e',Gr ρ1 H1 ρ' H'∧cW X.K ρ' h2 H'∧dJ X.K ρ' H' e' σ'∧cF it step (it.items.drop (i+1)) e' h2= .ok f h',?_,?_⟩
    · rintro σ' H' ⟨ρ',h2,e',a1,a2,a3,a4⟩
      exact ⟨it.items.length - (i+1),by omega, ρ',h2,e',a1,a2,a3,hlt,rfl,a4⟩
    · intro v H3 hy
      obtain ⟨ρ3,g3,z3,r3⟩:=yl v H3 hy
      refine s2 ρ3 h2 H3 e2 σ2 _ x v e4 h4 z3 (r2.gr g3) r3 e5 fun σ4 ρ4 H4 g4 z4 r4=>?_
      have gg:=(g2.trans g3).trans g4
      refine s3 ρ4 h4 H4 e4 σ4 _ f3 h3 z4 r4 q4 ?_
      cases f3 with
      | nx e6=>exact fun σ5 ρ5 H5 g5 z5 r5=>⟨ρ5,h3,e6,gg.trans g5,z5,r5,q3⟩
      | ct e6=>exact fun σ5 ρ5 H5 g5 z5 r5=>⟨ρ5,h3,e6,gg.trans g5,z5,r5,q3⟩
      | bk e6=>cases q3;exact eR.gr P (g1.trans gg)
      | rt v=>cases q3;exact dO.gr P (g1.trans gg)
  · exact nomatch q2⟩⟩
theorem Ah (hc:JT X pg k c mt) (hb:wU X pg k body ms) (hp:PassesOwn (model X.prog X.w) X.A X.env X.xe):JS X pg k (.While c body [] pos) (mO mt ms):=⟨fun A =>
 let ⟨_,q1,s1⟩:=hc.h A;let ⟨_,q2,s2⟩:=hb.h A;⟨_,x6 hp q1 q2,fun ρ h H e σ D f h' s r q P=>by
 refine ⟨fun m σ' H'=> ∃ ρ' h2 e',Gr ρ H ρ' H'∧cW X.K ρ' h2 H'∧dJ X.K ρ' H' e' σ'∧cq (mt (run pg k)) (ms (run pg k)) m e' h2= .ok f h',⟨100000, ρ,h,e,.refl _ _,s,r,q⟩,?_⟩
 rintro m σ1 H1 ⟨ρ1,h1,e1,g1,z1,r1,q1⟩
 cases m with
 | zero=>exact nomatch q1
 | succ m =>
  obtain ⟨x,h2,e2,q1⟩:=bind_eq.mp q1
  refine s1 ρ1 h1 H1 e1 σ1 _ x h2 z1 r1 e2 fun ρ2 H2 g2 z2=>?_
  cases x with
  | false=>cases q1;exact P σ1 ρ2 H2 (g1.trans g2) z2 (r1.gr g2)
  | true =>
   obtain ⟨f3,h3,e3,q3⟩:=bind_eq.mp q1
   refine ⟨fun σ' H'=> ∃ ρ' h2 e',Gr ρ H ρ' H'∧cW X.K ρ' h2 H'∧dJ X.K ρ' H' e' σ'∧cq (mt (run pg k)) (ms (run pg k)) m e' h2= .ok f h',fun σ' H' w=>⟨m,Nat.lt_succ_self _,w⟩,?_⟩
   refine s2 ρ2 h2 H2 e1 σ1 _ f3 h3 z2 (r1.gr g2) e3 ?_
   have gg:=g1.trans g2
   cases f3 with
   | nx e6=>exact fun σ5 ρ5 H5 g5 z5 r5=>⟨ρ5,h3,e6,gg.trans g5,z5,r5,q3⟩
   | ct e6=>exact fun σ5 ρ5 H5 g5 z5 r5=>⟨ρ5,h3,e6,gg.trans g5,z5,r5,q3⟩
   | bk e6=>cases q3;exact eR.gr P gg
   | rt v=>cases q3;exact dO.gr P gg⟩⟩
theorem Ex {cf:CF} {K:PySem.W.Frag} {wi:TI} {tg:TG} {tt:TT} {te:TE} {n:Nat} (s1:SI cf K wi mI) (s2:SG K tg g) (s3:ST cf K tt mt) (s4:SE cf K te ma):SE cf K (Mq n wi tg tt te) (iA n mI g mt ma):=fun ρ h H e σ Q v h' s r q P=>by
 obtain ⟨it,h1,e1,q⟩:=bind_eq.mp q
 obtain ⟨ys,h2,e2,q⟩:=bind_eq.mp q
 cases q
 refine s1 ρ h H e σ _ it h1 s r e1 fun ρ1 H1 J g1 z1 w1=>?_
 refine ⟨fun i m us H'=> ∃ ρ' h3 zs,Gr ρ1 H1 ρ' H'∧cW K ρ' h3 H'∧au K ρ' H' zs us∧i<=it.items.length∧m=it.items.length - i∧fY it (bj n g mt ma cf e) (it.items.drop i) zs h3= .ok ys h2,⟨_, ρ1,h1,[],.refl _ _,z1,aK.mpr rfl,Nat.zero_le _,rfl,e2⟩,?_⟩
 rintro i m us H2 ⟨ρ2,h3,zs,g2,z2,r2,hi,rfl,q2⟩
 cases hx:it.items[i]? with
 | none =>
  have hl:it.items.length<=i:=List.getElem?_eq_none_iff.mp hx
  rw [List.drop_eq_nil_of_le hl,fY] at q2
  split at q2
  · rename_i hf
    cases q2
    exact .inl ⟨(w1 i ρ2 _ H2 g2 z2 hf).2 (by omega),fun p hp=>dX z2 r2 (P.gr (g1.trans g2)) p hp⟩
  · exact nomatch q2
 | some x =>
  have hlt:i < it.items.length:=(List.getElem?_eq_some_iff.mp hx).1
  have hd:it.items.drop i=x::it.items.drop (i+1):=by
   rw [List.drop_eq_getElem_cons hlt,(List.getElem?_eq_some_iff.mp hx).2]
  rw [hd,fY] at q2
  split at q2
  · rename_i hf
    obtain ⟨go,yl⟩:=(w1 i ρ2 _ H2 g2 z2 hf.1).1 x hx
    obtain ⟨o,h4,e3,q3⟩:=bind_eq.mp q2
    obtain ⟨e4,h5,e5,q4⟩:=bind_eq.mp e3
    obtain ⟨b,h6,e6,q5⟩:=bind_eq.mp q4
    refine .inr ⟨go,by rw [<- r2.len];exact hf.2,fun v H3 hy=>?_⟩
    obtain ⟨ρ3,g3,z3,r3⟩:=yl v H3 hy
    refine s2 ρ3 h3 H3 _ _ _ x v e4 h5 z3 (((r.gr (g1.trans (g2.trans g3)))).more n) r3 e5 fun σ4 ρ4 H4 g4 z4 r4=>?_
    refine s3 ρ4 h5 H4 e4 σ4 _ b h6 z4 r4 e6 fun ρ5 H5 g5 z5=>?_
    have gg:=((g2.trans g3).trans g4).trans g5
    cases b with
    | false=>cases q5;exact ⟨it.items.length - (i+1),by omega, ρ5,_,zs,gg,z5,au.gr ((g3.trans g4).trans g5) _ _ r2,hlt,rfl,q3⟩
    | true =>
     obtain ⟨y,h7,e7,q6⟩:=bind_eq.mp q5
     cases q6
     refine s4 ρ5 h6 H5 e4 σ4 _ y _ z5 (r4.gr g5) e7 fun y' ρ6 H6 g6 z6 r6=>?_
     exact ⟨it.items.length - (i+1),by omega, ρ6,_,zs++[y],gg.trans g6,z6,(au.gr (((g3.trans g4).trans g5).trans g6) _ _ r2).app (au.one r6),hlt,rfl,q3⟩
  · exact nomatch q2
end
noncomputable def N7 (c:CF) (K:PySem.W.Frag) (m:ME):TE:=fun σ H Q=> ∃ ρ h e v h',cW K ρ h H∧dJ K ρ H e σ ∧m c e h= .ok v h'∧dO K ρ H v h' Q
noncomputable def N3 (c:CF) (K:PySem.W.Frag) (m:MT):TT:=fun σ H Q=> ∃ ρ h e b h',cW K ρ h H∧dJ K ρ H e σ ∧m c e h= .ok b h'∧kW K ρ H h' (Q b)
theorem EN {c:CF} {K:PySem.W.Frag} {m:ME}:SE c K (N7 c K m) m:=fun ρ h H e σ Q v h' s r q P=>⟨ρ,h,e,v,h',s,r,q,P⟩
theorem EA {c:CF} {K:PySem.W.Frag} {m:MT}:ST c K (N3 c K m) m:=fun ρ h H e σ Q v h' s r q P=>⟨ρ,h,e,v,h',s,r,q,P⟩
theorem JE.KN {X:Cx} {pg:Tb} {k:Nat} {e:Expr} {m:ME} (j:JE X pg k e m) (A:c9 X pg k):QE X e (N7 (run pg k) X.K m) :=
 let ⟨_,q,s⟩:=j.h A;⟨fun pins st σ H Q I ⟨ρ,h,e,v,h',a,b,c,d⟩=>q.h pins st σ H Q I (s ρ h H e σ Q v h' a b c d)⟩
theorem JF.KN {X:Cx} {pg:Tb} {k:Nat} {e:List Expr} {m:MT} (j:JF X pg k e m) (A:c9 X pg k):QF X e (N3 (run pg k) X.K m) :=
 let ⟨_,q,s⟩:=j.h A;⟨fun pins st σ H Q I ⟨ρ,h,e,v,h',a,b,c,d⟩=>q.h pins st σ H Q I (s ρ h H e σ Q v h' a b c d)⟩
structure GC (K:PySem.W.Frag) (n:Nat) (t:TG) (m:MG):Prop where
 sg:SG K t m
 gk:GK n t
 mono:ue t
structure Mu (K:PySem.W.Frag) (n:Nat) (t:oV) (m:List PV->ax->PH->RV ax):Prop where
 sg: ∀ ρ h H e σ Q vs us e' h',cW K ρ h H->dJ K ρ H e σ ->au K ρ H vs us->m vs e h= .ok e' h'->eR K ρ H e' h' Q->t us σ H Q
 gk:Lx n t
 mono: ∀ xs σ H Q Q',(∀ σ2 H2,Q σ2 H2->Q' σ2 H2)->t xs σ H Q->t xs σ H Q'
theorem C9 {K:PySem.W.Frag} {n i:Nat} (h:n<=i):GC K n (fq i) (gN i):=⟨vV,Cv h,tT⟩
theorem vg {K:PySem.W.Frag} {n:Nat}:Mu K n wA dF:=⟨fun ρ h H e σ Q vs us e' h' s r rv q P=>by
 cases vs with
 | nil=>cases q;rw [aK] at rv;exact ⟨rv,P σ ρ H (.refl _ _) s r⟩
 | cons=>exact (nomatch q),Gm,fun xs σ H Q Q' f q=>⟨q.1,f _ _ q.2⟩⟩
theorem jE {K:PySem.W.Frag} {n:Nat} {t:TG} {m:MG} {ts:oV} {ms:List PV->ax->PH->RV ax} (a:GC K n t m) (b:Mu K n ts ms):Mu K n (kP t ts) (aR m ms):=⟨fun ρ h H e σ Q vs us e' h' s r rv q P=>by
 cases vs with
 | nil=>exact nomatch q
 | cons v t =>
  obtain ⟨w,u,rfl,r1,r2⟩:=aD.mp rv
  obtain ⟨e1,h1,e2,q⟩:=bind_eq.mp q
  refine ⟨w,u,rfl,?_⟩
  exact a.sg ρ h H e σ _ v w e1 h1 s r r1 e2 fun σ1 ρ1 H1 g1 z1 y1=>b.sg ρ1 h1 H1 e1 σ1 Q t u e' h' z1 y1 (au.gr g1 _ _ r2) q (P.gr g1),Ed a.gk a.mono b.gk,
 fun xs σ H Q Q' f ⟨v,r,e,q⟩=>⟨v,r,e,a.mono _ _ _ _ _ (fun σ2 H2 z=>b.mono _ _ _ _ _ f z) q⟩⟩
theorem zQ {K:PySem.W.Frag} {n j:Nat} {ts:oV} {ms:List PV->ax->PH->RV ax} (b:Mu K n ts ms):GC K n (sZ K j ts) (gT j ms):=⟨fun ρ h H e σ Q v v' e' h' s r rv q P=>by
 unfold gT at q
 split at q
 · rename_i xs ex
   obtain ⟨a,vs,rfl,z,rr⟩:=rel.seq ex rv
   split at q
   · rename_i hl
     exact ⟨a,vs,rfl,z,by rw [<- rr.len];exact hl,b.sg ρ h H e σ Q xs vs e' h' s r rr q P⟩
   · exact nomatch q
 · exact (nomatch q),FJ b.gk,fun x σ H Q Q' f ⟨a,xs,e1,e2,e3,q⟩=>⟨a,xs,e1,e2,e3,b.mono _ _ _ _ _ f q⟩⟩
section
variable {X:Cx} {pg:Tb} {k:Nat} {e tg iter:Expr} {ma:ME} {mt:MT} {g:MG} {tG:TG} {mI:MI} {scope:Scope} {ifs:List Expr} {pos spos py:Pos} {y:Str}
theorem rL (vars:List Str) (hkind:scope.kind= .function) (hlc:gO scope.names X.env.scope.names X.N vars=true) (hi:JI X pg k tg iter mI)
  (hb: ∀ cl C s₀ H₀ ex pn,(c9 X pg k->QG (eG X vars scope cl C s₀ H₀ ex pn) tg tG)∧JF (eG X vars scope cl C s₀ H₀ ex pn) pg k ifs mt∧JE (eG X vars scope cl C s₀ H₀ ex pn) pg k e ma) (hG:GC X.K X.N.length tG g)
  (hs: ∀ x,foldedSetIterable iter X.env x=pure x:=by intro _;rfl):JE X pg k (.ListComp e [⟨tg,iter,ifs,0⟩] scope pos) (iA vars.length mI g mt ma):=⟨fun A =>
 let ⟨_,q1,s1⟩:=hi.h A
 ⟨_,yQ vars A.calm A.nZ hkind hlc q1 (fun cl C s₀ H₀ ex pn=>let ⟨h1,h2,h3⟩:=hb cl C s₀ H₀ ex pn;⟨h1 A,h2.KN (A.eG ..),h3.KN (A.eG ..)⟩) hG.gk hs,Ex s1 hG.sg EA EN⟩⟩
theorem sX (vars:List Str) (i:Nat) (hkind:scope.kind= .function) (hlc:gO scope.names X.env.scope.names X.N vars=true) (hN:X.N.Nodup) (hiy:X.N[i]?=some y) (hy:Loc X.env.scope y) (hi:JI X pg k tg iter mI)
  (hb: ∀ cl C s₀ H₀ ex pn,(c9 X pg k->QG (eG X vars scope cl C s₀ H₀ ex pn) tg tG)∧JF (eG X vars scope cl C s₀ H₀ ex pn) pg k ifs mt∧JE (eG X vars scope cl C s₀ H₀ ex pn) pg k e ma) (hG:GC X.K X.N.length tG g)
  (hsw:swapsWith (.ListComp e [⟨tg,iter,ifs,0⟩] scope pos) (some (.Name y py)) spos.line X.env=pure true:=by rfl) (hs: ∀ x,foldedSetIterable iter X.env x=pure x:=by intro _;rfl)
  (hf:X.fn y=true∨X.env.scope.names.lookup y=some .local:=by first | exact .inl rfl | exact .inr rfl | assumption) :
  JS X pg k (.Assign [.Name y py] (.ListComp e [⟨tg,iter,ifs,0⟩] scope pos) spos) (ak (iA vars.length mI g mt ma) (gN i)):=⟨fun A =>
 let ⟨_,q1,s1⟩:=hi.h A
 ⟨_,AL vars i A.calm A.nZ hkind hlc hN hiy hy q1 (fun cl C s₀ H₀ ex pn=>let ⟨h1,h2,h3⟩:=hb cl C s₀ H₀ ex pn;⟨h1 A,h2.KN (A.eG ..),h3.KN (A.eG ..)⟩) hG.gk hsw hs hf,fun ρ h H e σ D f h' s r q P=>by
  obtain ⟨v,h1,e1,q⟩:=bind_eq.mp q
  obtain ⟨e2,h2,e3,q⟩:=bind_eq.mp q
  cases q
  cases e3
  exact Ex s1 hG.sg EA EN ρ h H e σ _ v _ s r e1 fun v' ρ1 H1 g1 z1 r1=>P _ ρ1 H1 g1 z1 ((r.gr g1).set i r1)⟩⟩
end
end P3
end
section
open PySem PySem.W PyProof.Rows
namespace P3
open PySem PySem.Spec PyProof.Rows L2
section
variable {K:PySem.W.Frag} {ρ ρ':List Addr} {H H':Hp} {h h':PH}
mutual
theorem rel.flat: ∀ (x:PV) (v:V),x.flat=true->rel K ρ' H' x v->rel K ρ H' x v
 | .non,v,_,h=>by simpa only [rel] using h
 | .bl _,v,_,h=>by simpa only [rel] using h
 | .int _,v,_,h=>by simpa only [rel] using h
 | .str _,v,_,h=>by simpa only [rel] using h
 | .ty _,v,_,h=>by simpa only [rel] using h
 | .ref n,v,f,h=>by simp [PV.flat] at f
 | .tup xs,v,f,h=>by
  rw [rel] at h ⊢
  rw [PV.flat] at f
  obtain ⟨a,vs,e,s,r⟩:=h
  exact ⟨a,vs,e,s,au.flat xs vs f r⟩
 | .ktup xs,v,f,h=>by
  rw [rel] at h ⊢
  rw [PV.flat] at f
  obtain ⟨a,vs,e,s,r⟩:=h
  exact ⟨a,vs,e,s,au.flat xs vs f r⟩
theorem au.flat: ∀ (xs:List PV) (vs:List V),PV.aT xs=true->au K ρ' H' xs vs->au K ρ H' xs vs
 | [],vs,_,h=>by simpa only [au] using h
 | x::r,vs,f,h=>by
  rw [au] at h ⊢
  rw [PV.aT,Bool.and_eq_true] at f
  obtain ⟨v,t,e,h1,h2⟩:=h
  exact ⟨v,t,e,rel.flat x v f.1 h1,au.flat r t f.2 h2⟩
end
mutual
theorem rel.iN (g: ∀ (n:Nat) (a:Addr), ρ[n]?=some a-> ρ'[n]?=some a): ∀ (x:PV) (v:V),x.iN ρ.length=true->rel K ρ' H' x v->rel K ρ H' x v
 | .non,v,_,h=>by simpa only [rel] using h
 | .bl _,v,_,h=>by simpa only [rel] using h
 | .int _,v,_,h=>by simpa only [rel] using h
 | .str _,v,_,h=>by simpa only [rel] using h
 | .ty _,v,_,h=>by simpa only [rel] using h
 | .ref n,v,f,h=>by
  rw [rel] at h ⊢
  rw [PV.iN,decide_eq_true_eq] at f
  obtain ⟨a,e,h⟩:=h
  have:=g n _ (List.getElem?_eq_getElem f)
  rw [e] at this
  exact ⟨a,by rw [List.getElem?_eq_getElem f,<- Option.some.inj this],h⟩
 | .tup xs,v,f,h=>by
  rw [rel] at h ⊢
  rw [PV.iN] at f
  obtain ⟨a,vs,e,s,r⟩:=h
  exact ⟨a,vs,e,s,au.iN g xs vs f r⟩
 | .ktup xs,v,f,h=>by
  rw [rel] at h ⊢
  rw [PV.iN] at f
  obtain ⟨a,vs,e,s,r⟩:=h
  exact ⟨a,vs,e,s,au.iN g xs vs f r⟩
theorem au.iN (g: ∀ (n:Nat) (a:Addr), ρ[n]?=some a-> ρ'[n]?=some a): ∀ (xs:List PV) (vs:List V),PV.ja ρ.length xs=true->au K ρ' H' xs vs->au K ρ H' xs vs
 | [],vs,_,h=>by simpa only [au] using h
 | x::r,vs,f,h=>by
  rw [au] at h ⊢
  rw [PV.ja,Bool.and_eq_true] at f
  obtain ⟨v,t,e,h1,h2⟩:=h
  exact ⟨v,t,e,rel.iN g x v f.1 h1,au.iN g r t f.2 h2⟩
end
mutual
theorem rel.low: ∀ (x:PV) (v:V),rel K ρ H x v->x.iN ρ.length=true
 | .non,v,_=>rfl
 | .bl _,v,_=>rfl
 | .int _,v,_=>rfl
 | .str _,v,_=>rfl
 | .ty _,v,_=>rfl
 | .ref n,v,h=>by
  rw [rel] at h
  obtain ⟨a,e,h⟩:=h
  rw [PV.iN,decide_eq_true_eq]
  exact (List.getElem?_eq_some_iff.mp e).1
 | .tup xs,v,h=>by
  rw [rel] at h
  obtain ⟨a,vs,e,s,r⟩:=h
  rw [PV.iN];exact au.low xs vs r
 | .ktup xs,v,h=>by
  rw [rel] at h
  obtain ⟨a,vs,e,s,r⟩:=h
  rw [PV.iN];exact au.low xs vs r
theorem au.low: ∀ (xs:List PV) (vs:List V),au K ρ H xs vs->PV.ja ρ.length xs=true
 | [],vs,_=>rfl
 | x::r,vs,h=>by
  rw [au] at h
  obtain ⟨v,t,e,h1,h2⟩:=h
  rw [PV.ja,rel.low x v h1,au.low r t h2];rfl
end
theorem Paired.low: ∀ {kvs:List (Key × PV)} {kws:List (Key × V)},Paired (fun (p:Key × PV) (q:Key × V)=>p.1=q.1∧rel K ρ H p.2 q.2) kvs kws->PV.ja ρ.length (kvs.map (·.2))=true
 | _,_,.nil=>rfl
 | _,_,.cons r t=>by rw [List.map_cons,PV.ja,rel.low _ _ r.2,Paired.low t];rfl
theorem kq.low {a:Addr}: ∀ {o:PO},kq K ρ H a o->o.iN ρ.length=true
 | .lst xs,⟨vs,_,r⟩=>au.low _ _ r
 | .j4 xs,⟨vs,_,r⟩=>au.low _ _ r
 | .dct kvs,⟨kws,_,r⟩=>Paired.low r
theorem Paired.iN (g: ∀ (n:Nat) (a:Addr), ρ[n]?=some a-> ρ'[n]?=some a): ∀ {kvs:List (Key × PV)} {kws:List (Key × V)},PV.ja ρ.length (kvs.map (·.2))=true ->
  Paired (fun (p:Key × PV) (q:Key × V)=>p.1=q.1∧rel K ρ' H' p.2 q.2) kvs kws->Paired (fun (p:Key × PV) (q:Key × V)=>p.1=q.1∧rel K ρ H' p.2 q.2) kvs kws
 | _,_,_,.nil=> .nil
 | _,_,f,.cons r t=>by
  rw [List.map_cons,PV.ja,Bool.and_eq_true] at f
  exact .cons ⟨r.1,rel.iN g _ _ f.1 r.2⟩ (Paired.iN g f.2 t)
theorem kq.iN (g: ∀ (n:Nat) (a:Addr), ρ[n]?=some a-> ρ'[n]?=some a) {a:Addr}: ∀ {o:PO},o.iN ρ.length=true->kq K ρ' H' a o->kq K ρ H' a o
 | .lst xs,f,⟨vs,e,r⟩=>⟨vs,e,au.iN g _ _ f r⟩
 | .j4 xs,f,⟨vs,e,r⟩=>⟨vs,e,au.iN g _ _ f r⟩
 | .dct kvs,f,⟨kws,e,r⟩=>⟨kws,e,Paired.iN g f r⟩
theorem cW.drop (s:cW K ρ h H) (g:Gr ρ H ρ' H') (s':cW K ρ' h' H') (ok:b9 h.length h h'=true):cW K ρ (h'.take h.length) H':=by
 have old: ∀ {i:Nat} {o:PO},(h'.take h.length)[i]?=some o->i < h.length∧h'[i]?=some o:=fun {i o} e=>by
  have hi:i < h.length:=by
   have:=(List.getElem?_eq_some_iff.mp e).1
   rw [List.length_take] at this;omega
  rw [List.getElem?_take,if_pos hi] at e
  exact ⟨hi,e⟩
 refine ⟨by rw [List.length_take,s.len,Nat.min_eq_left (mM ok)],fun i j a oi oj ei ej mi mj ri rj=>?_,fun i o a e ea=>?_⟩
 · exact s'.nd i j a oi oj (old ei).2 (old ej).2 mi mj (g.pre _ _ ri) (g.pre _ _ rj)
 · have r:=s'.ob i o a (old e).2 (g.pre _ _ ea)
   obtain ⟨o0,e0,_,z⟩:=oK ok e
   refine kq.iN g.pre ?_ r
   rcases z with z | z
   · subst z;exact (s.ob i o0 a e0 ea).low
   · rw [s.len];exact z
theorem fD {v w:PV} {h2:PH} {Q:VK} (s:cW K ρ h H) (e:settle h v h'= .ok w h2) (P:dO K ρ H w h2 Q):dO K ρ H v h' Q:=by
 unfold settle at e
 split at e
 · rename_i ok
   rw [Bool.and_eq_true] at ok
   cases e
   exact fun v' ρ' H' g s' r=>P v' ρ H' ⟨fun _ _ z=>z,g.tup,g.jg⟩ (s.drop g s' ok.2) (rel.flat _ _ ok.1 r)
 · cases e;exact P
end
theorem gI {K:PySem.W.Frag} {ρ :List Addr} {H:Hp}: ∀ {args:List PV} {vs:List V},au K ρ H args vs-> ∀ (n:Nat),dJ K ρ H (args.map some++List.replicate n none) (vs.map some++List.replicate n none)
 | args,vs,r,n=>by
  have:dJ K ρ H (args.map some) (vs.map some):=⟨by simp [r.len],fun i v e=>by
   rw [List.getElem?_map] at e
   cases q:args[i]? with
   | none=>rw [q] at e;exact nomatch e
   | some w =>
    rw [q] at e
    cases e
    obtain ⟨v',e1,e2⟩:=r.get q
    exact ⟨v',by rw [List.getElem?_map,e1];rfl,e2⟩⟩
  exact this.more n
structure ip (P:Program) (w:World) (K:PySem.W.Frag) (mg:Str->Option Value) (base:Heap) (pg:Tb) (f:String) (d:Df):Prop where
 ex: ∃ (st:Stmt) (N:List Str),At K mg (Str.ofString f) st∧aC N d.ps (ai st)∧N.length=d.ps.length+d.nl ∧
  (∀ (kV doc pm:Value) (an:Option Addr) (cdv ct:Value) (us:List Value),us.length=d.ps.length->bindArgs (PySem.W.fnOf (Str.ofString f) (Str.ofString f) (cJ st) (bw st) (ai st) .none kV doc pm an cdv ct) ⟨us,[]⟩=pure (d.ps.zip us)) ∧
  ∀ (fa:Addr) (cdv:Value) (A:Around) (outer:List Env) (s:Shared) (H:Hp) (E:XK) (k:Nat),wU (jd q8 P w K mg base N (Str.ofString f) (ai st) fa cdv A outer s H E).nZ pg k (bw st) d.body
structure Top (P:Program) (w:World) (K:PySem.W.Frag) (mg:Str->Option Value) (pg:Tb):Prop where
 blt: ∀ x∈gW,mg x=none
 con: ∀ x v,pg.con x=some v-> ∃ u v',mg x=some u∧RelV v' u∧ ∀ ρ H,rel K ρ H v v'
 xD: ∀ x kvs,pg.xD x=some kvs-> ∃ a kws,mg x=some (.ref a)∧KD P w K a kws∧ ∀ ρ H,Paired (fun (p:Key × PV) (q:Key × V)=>p.1=q.1∧rel K ρ H p.2 q.2) kvs kws
section
variable {P:Program} {w:World} {K:PySem.W.Frag} {mg:Str->Option Value} {base:Heap} {pg:Tb}
theorem yZ (T : Top P w K mg pg) (G : ∀ f d, pg.fns f = some d -> ip P w K mg base pg f d) : ∀ k f d, pg.fns f = some d -> k7 P w K mg base (Str.ofString f) k d.ps (uI K pg k f) := by
  intro k
  induction k with
  | zero =>
    intro f d hf
    obtain ⟨st, N, a, S, hl, hb, body⟩ := (G f d hf).ex
    exact At.xn a hb fun vs H Q E ⟨ρ, h, args, v, h', _, _, q, _⟩ => nomatch q
  | succ k ih =>
    intro f d hf
    obtain ⟨st, N, a, S, hl, hb, body⟩ := (G f d hf).ex
    have run_eq : ∀ {args : List PV} {h h' : PH} {v : PV}, run pg (k + 1) f args h = .ok v h' -> args.length = d.ps.length ∧
        ((∃ w h2, d.body (run pg k) (args.map some ++ List.replicate d.nl none) h = .ok (.rt w) h2 /\ settle h w h2 = .ok v h') ∨
         (∃ e h2, d.body (run pg k) (args.map some ++ List.replicate d.nl none) h = .ok (.nx e) h2 /\ settle h .non h2 = .ok v h')) := fun {args h h' v} q => by
      rw [run, hf] at q
      simp only at q
      split at q
      · rename_i hn
        refine ⟨hn, ?_⟩
        split at q
        · rename_i w h2 e; exact .inl ⟨w, h2, e, q⟩
        · rename_i e' h2 e; exact .inr ⟨e', h2, e, q⟩
        · exact nomatch q
        · exact nomatch q
        · exact nomatch q
      · exact nomatch q
    refine At.MV a S hb (fun vs H Q E ⟨ρ, h, args, v, h', _, r, q, _⟩ => by rw [<- r.len]; exact (run_eq q).1) ?_
    rintro fa cdv A outer s H vs Q E hr ⟨ρ, h, args, v, h', sm, r, q, post⟩
    have amb : c9 (jd q8 P w K mg base N (Str.ofString f) (ai st) fa cdv A outer s H E).nZ pg k := ⟨hr, rfl, fun _ _ z => z, ih, T.blt, T.con, T.xD⟩
    obtain ⟨t, qt, st'⟩ := (body fa cdv A outer s H E k).h amb
    refine ⟨t, qt, ?_⟩
    obtain ⟨hn, q⟩ := run_eq q
    have he : L2.start N vs = vs.map some ++ List.replicate d.nl none := by
      unfold L2.start
      rw [hl, <- r.len, hn, Nat.add_sub_cancel_left]
    rw [he]
    rcases q with ⟨w, h2, e, q⟩ | ⟨e', h2, e, q⟩
    · exact st' ρ h H _ _ _ _ h2 sm (gI r _) e (fD sm q post)
    · exact st' ρ h H _ _ _ _ h2 sm (gI r _) e fun σ' ρ' H' g s' _ => fD sm q post .non ρ' H' g s' (by rw [rel])
end
end P3
end
section
open PySem PySem.W PyProof.Rows
namespace P3
open PySem PySem.Spec PyProof.Rows L2
noncomputable def p2 (f:Int->Int->RV PV):PV->PV->PH->RV PV:=fun x y h=>match x,y with
 | .int i,.int j=>(f i j).bind fun v _=> .ok v h
 | _,_=> .no
noncomputable def BU (v:PV):RV PV:= .ok v []
section
variable {K:PySem.W.Frag} {X:Cx} {pg:Tb} {k:Nat}
theorem HA {C:Int->Int->Prop} {g:Int->Int->V} {f:Int->Int->RV PV} (hf: ∀ i j v h,f i j= .ok v h->C i j∧ ∀ ρ H,rel K ρ H v (g i j)):oH K (rI C g) (p2 f):=fun ρ h H x y x' y' Q v h' s rx ry q P=>by
 unfold p2 at q
 split at q
 · rename_i i j
   rw [rel] at rx ry
   obtain ⟨w,h0,e,q⟩:=bind_eq.mp q
   cases q
   obtain ⟨hc,hr⟩:=hf i j v h0 e
   exact ⟨i,j,rx,ry,hc,P _ ρ H (.refl _ _) s (hr ρ H)⟩
 · exact nomatch q
theorem vH {g:Int->Int->V} {f:Int->Int->RV PV} (hf: ∀ i j v h,f i j= .ok v h-> ∀ ρ H,rel K ρ H v (g i j)):oH K (Dt g) (p2 f):=fun ρ h H x y x' y' Q v h' s rx ry q P=>by
 unfold p2 at q
 split at q
 · rename_i i j
   rw [rel] at rx ry
   obtain ⟨w,h0,e,q⟩:=bind_eq.mp q
   cases q
   exact ⟨i,j,rx,ry,P _ ρ H (.refl _ _) s (hf i j v h0 e ρ H)⟩
 · exact nomatch q
noncomputable def sF:PV->PV->PH->RV PV:=p2 fun i j=>BU (.int (i - j))
noncomputable def fw:PV->PV->PH->RV PV:=p2 fun i j=>if 0 < j then BU (.int (i % j)) else .no
noncomputable def nO:PV->PV->PH->RV PV:=p2 fun i j=>if 0 < j∧j < 1073741824 then BU (.int (i / j)) else .no
noncomputable def Bx:PV->PV->PH->RV PV:=p2 fun i j=>if 0<=j∧j<=1000000∧i.natAbs < 2 ^ 64 then BU (.int (i ^ j.toNat)) else .no
noncomputable def xG:PV->PV->PH->RV PV:=p2 fun i j=>BU (.bl (decide (i < j)))
noncomputable def uh:PV->PV->PH->RV PV:=p2 fun i j=>BU (.bl (decide (j < i)))
noncomputable def Nk:PV->PV->PH->RV PV:=p2 fun i j=>BU (.bl (decide (j<=i)))
theorem KJ:c9 X pg k-> ∃ r,dI X (binaryOp .Sub) r∧oH X.K r sF:=fun _=>⟨_,HI,vH fun i j v h e ρ H=>by cases e;rw [rel]⟩
theorem JB:c9 X pg k-> ∃ r,dI X (binaryOp .Mod) r∧oH X.K r fw:=fun _=>⟨_,Hs,HA fun i j v h e=>by
 split at e
 · cases e;exact ⟨by assumption,fun ρ H=>by rw [rel]⟩
 · exact nomatch e⟩
theorem FL:c9 X pg k-> ∃ r,dI X (binaryOp .FloorDiv) r∧oH X.K r nO:=fun _=>⟨_,DJ,HA fun i j v h e=>by
 split at e
 · cases e;exact ⟨by assumption,fun ρ H=>by rw [rel]⟩
 · exact nomatch e⟩
theorem Le:c9 X pg k-> ∃ r,dI X (binaryOp .Pow) r∧oH X.K r Bx:=fun _=>⟨_,Hr,HA fun i j v h e=>by
 split at e
 · cases e;exact ⟨by assumption,fun ρ H=>by rw [rel]⟩
 · exact nomatch e⟩
theorem MZ:c9 X pg k-> ∃ r,dI X (compareOp .Lt) r∧oH X.K r xG:=fun _=>⟨_,La,vH fun i j v h e ρ H=>by cases e;rw [rel]⟩
theorem MU:c9 X pg k-> ∃ r,dI X (compareOp .Gt) r∧oH X.K r uh:=fun _=>⟨_,LZ,vH fun i j v h e ρ H=>by cases e;rw [rel]⟩
theorem Nn:c9 X pg k-> ∃ r,dI X (compareOp .GtE) r∧oH X.K r Nk:=fun _=>⟨_,JR,vH fun i j v h e ρ H=>by cases e;rw [rel]⟩
noncomputable def BH (xs:List PV) (h:PH):RV PV:=j2 xs.length (.ok (.ref h.length) (h++[.lst xs]))
noncomputable def aG:PV->PV->PH->RV PV:=fun x y h=>match x,y with
 | .int i,.int j=> .ok (.int (i+j)) h
 | .str a,.str b=>j2 (a.length+b.length) (.ok (.str (a++b)) h)
 | .tup xs,.tup ys=>j2 (xs.length+ys.length) (.ok (.tup (xs++ys)) h)
 | .ref n,.ref m=>(match h[n]?,h[m]? with
  | some (.lst xs),some (.lst ys)=>BH (xs++ys) h
  | _,_=> .no)
 | _,_=> .no
theorem cW.lst {ρ :List Addr} {h:PH} {H:Hp} (s:cW K ρ h H) {n:Nat} {xs:List PV} (e:h[n]?=some (.lst xs)) {v:V} (r:rel K ρ H (.ref n) v): ∃ a vs,v= .ref a∧ ρ[n]?=some a∧H a=some (.lst vs)∧au K ρ H xs vs:=by
 rw [rel] at r
 obtain ⟨a,ea,rfl⟩:=r
 obtain ⟨vs,e1,e2⟩:=s.ob n _ a e ea
 exact ⟨a,vs,rfl,ea,e1,e2⟩
theorem cW.j4 {ρ :List Addr} {h:PH} {H:Hp} (s:cW K ρ h H) {n:Nat} {xs:List PV} (e:h[n]?=some (.j4 xs)) {v:V} (r:rel K ρ H (.ref n) v): ∃ a vs,v= .ref a∧ ρ[n]?=some a∧gm K H a vs∧au K ρ H xs vs:=by
 rw [rel] at r
 obtain ⟨a,ea,rfl⟩:=r
 obtain ⟨vs,e1,e2⟩:=s.ob n _ a e ea
 exact ⟨a,vs,rfl,ea,e1.sq,e2⟩
noncomputable def cQ (h:PH) (n:Nat):Option (List PV):=match h[n]? with
 | some (.lst xs)=>some xs
 | some (.j4 xs)=>some xs
 | _=>none
theorem cW.sq {ρ :List Addr} {h:PH} {H:Hp} (s:cW K ρ h H) {n:Nat} {xs:List PV} (e:cQ h n=some xs) {v:V} (r:rel K ρ H (.ref n) v): ∃ a vs,v= .ref a∧ ρ[n]?=some a∧gm K H a vs∧au K ρ H xs vs:=by
 unfold cQ at e
 split at e
 · cases e
   obtain ⟨a,vs,e1,e2,e3,e4⟩:=s.lst (by assumption) r
   exact ⟨a,vs,e1,e2,.of e3,e4⟩
 · cases e;exact s.j4 (by assumption) r
 · exact nomatch e
theorem lP {ρ :List Addr} {h:PH} {H:Hp} {xs:List PV} {us:List V} {Q:VK} (s:cW K ρ h H) (r:au K ρ H xs us) (P:dO K ρ H (.tup xs) h Q) (p:Addr) (hp:H p=none):Q (.ref p) (upd H p (.tup us)):=by
 refine P _ ρ _ (Gr.wY hp) (s.tup hp) ?_
 rw [rel]
 exact ⟨p,us,rfl,aY,au.gr (Gr.wY hp) _ _ r⟩
theorem KL:c9 X pg k-> ∃ r,dI X (binaryOp .Add) r∧oH X.K r aG:=fun _=>⟨_,Ii,fun ρ h H x y x' y' Q v h' s rx ry q P=>by
 unfold aG at q
 split at q
 · cases q
   rw [rel] at rx ry
   exact .inl ⟨_,_,rx,ry,P _ ρ H (.refl _ _) s (by rw [rel])⟩
 · obtain ⟨hl,q⟩:=ji.mp q
   cases q
   rw [rel] at rx ry
   exact .inr (.inr (.inr (.inr ⟨_,_,rx,ry,hl,P _ ρ H (.refl _ _) s (by rw [rel])⟩)))
 · rename_i xs ys
   obtain ⟨hl,q⟩:=ji.mp q
   cases q
   have ry':=ry
   rw [rel] at rx ry
   obtain ⟨a,us,e1,e2,e3⟩:=rx
   obtain ⟨b,ws,d1,d2,d3⟩:=ry
   cases xs with
   | nil =>
    rw [aK] at e3;subst e3
    exact .inr (.inr (.inr (.inl ⟨a,b,ws,e1,d1,.of e2,.of d2,d1 ▸ P y' ρ H (.refl _ _) s ry'⟩)))
   | cons x r =>
    refine .inr (.inr (.inl ⟨a,b,us,ws,e1,d1,.of e2,.of d2,?_,by rw [<- e3.len,<- d3.len];exact hl,?_⟩))
    · rintro rfl;have:=e3.len;simp at this
    · refine ⟨fun z=>?_,fun _ p hp=>lP s (e3.app d3) P p hp⟩
      subst z
      have:ys=[]:=List.eq_nil_of_length_eq_zero d3.len
      subst this
      rw [List.append_nil] at P
      exact P _ ρ H (.refl _ _) s (by rw [rel];exact ⟨a,us,rfl,e2,e3⟩)
 · split at q
   · rename_i h1 h2
     unfold BH at q
     obtain ⟨hl,q⟩:=ji.mp q
     cases q
     obtain ⟨a,us,rfl,_,e1,e2⟩:=s.lst h1 rx
     obtain ⟨b,ws,rfl,_,d1,d2⟩:=s.lst h2 ry
     refine .inr (.inl ⟨a,b,us,ws,rfl,rfl,e1,d1,?_,fun p hp=>dX s (e2.app d2) P p hp⟩)
     rw [<- e2.len,<- d2.len];simpa using hl
   · exact nomatch q
 · exact nomatch q⟩
noncomputable def bo (kvs:List (Key × PV)) (k:Key):Option PV:=(kvs.find? fun kv=>decide (kv.1=k)).map (·.2)
noncomputable def er (kvs:List (Key × PV)) (k:Key) (v:PV):List (Key × PV) :=
 if (kvs.any fun kv=>decide (kv.1=k))=true then kvs.map (fun kv=>if kv.1=k then (kv.1,v) else kv) else kvs++[(k,v)]
noncomputable def gp:PV->Option Key
 | .int i=>some (.inl i)
 | .str x=>some (.inr x)
 | _=>none
theorem eZ {ρ :List Addr} {H:Hp} {x:PV} {k:Key} {v:V} (e:gp x=some k) (r:rel K ρ H x v):v=kV k:=by
 cases x<;>simp only [gp,reduceCtorEq,Option.some.injEq] at e<;>(subst e;rw [rel] at r;exact r)
abbrev RK (K:PySem.W.Frag) (ρ :List Addr) (H:Hp) (kvs:List (Key × PV)) (kws:List (Key × V)):Prop:=Paired (fun (p:Key × PV) (q:Key × V)=>p.1=q.1∧rel K ρ H p.2 q.2) kvs kws
theorem RK.val {ρ :List Addr} {H:Hp}: ∀ {kvs:List (Key × PV)} {kws:List (Key × V)} (k:Key),RK K ρ H kvs kws->match bo kvs k,fZ kws k with
  | some x,some v=>rel K ρ H x v
  | none,none=>True
  | _,_=>False
 | _,_,k,.nil=>trivial
 | _,_,k,.cons (a:=p) (b:=q) r t=>by
  have ih:=RK.val k t
  unfold bo fZ at ih ⊢
  rw [List.find?_cons,List.find?_cons,<- r.1]
  by_cases e:p.1=k
  · simp only [e,decide_true,Option.map_some];exact r.2
  · simp only [e,decide_false];exact ih
theorem RK.some {ρ :List Addr} {H:Hp} {kvs:List (Key × PV)} {kws:List (Key × V)} {k:Key} {x:PV} (r:RK K ρ H kvs kws) (e:bo kvs k=some x): ∃ v,fZ kws k=some v∧rel K ρ H x v:=by
 have:=RK.val k r
 rw [e] at this
 cases q:fZ kws k with
 | none=>rw [q] at this;exact False.elim this
 | some v=>rw [q] at this;exact ⟨v,rfl,this⟩
theorem RK.is {ρ :List Addr} {H:Hp} {kvs:List (Key × PV)} {kws:List (Key × V)} (k:Key) (r:RK K ρ H kvs kws):(fZ kws k).isSome=(bo kvs k).isSome:=by
 have:=RK.val k r
 cases p:bo kvs k<;>cases q:fZ kws k<;>rw [p,q] at this<;>first | rfl | exact False.elim this
theorem RK.len {ρ :List Addr} {H:Hp} {kvs:List (Key × PV)} {kws:List (Key × V)} (r:RK K ρ H kvs kws):kvs.length=kws.length:=Paired.length r
theorem RK.any {ρ :List Addr} {H:Hp}: ∀ {kvs:List (Key × PV)} {kws:List (Key × V)} (k:Key),RK K ρ H kvs kws->(kws.any fun kv=>decide (kv.1=k))=kvs.any fun kv=>decide (kv.1=k)
 | _,_,k,.nil=>rfl
 | _,_,k,.cons (a:=p) (b:=q) r t=>by rw [List.any_cons,List.any_cons,RK.any k t,r.1]
theorem RK.xW {ρ :List Addr} {H:Hp} {k:Key} {x:PV} {v:V} (h:rel K ρ H x v): ∀ {kvs:List (Key × PV)} {kws:List (Key × V)},RK K ρ H kvs kws->RK K ρ H (kvs.map fun kv=>if kv.1=k then (kv.1,x) else kv) (kws.map fun kv=>if kv.1=k then (kv.1,v) else kv)
 | _,_,.nil=> .nil
 | _,_,.cons (a:=p) (b:=q) a t=> .cons (by
   show (if p.1=k then (p.1,x) else p).1=(if q.1=k then (q.1,v) else q).1∧rel K ρ H (if p.1=k then (p.1,x) else p).2 (if q.1=k then (q.1,v) else q).2
   rw [<- a.1];split
   · exact ⟨rfl,h⟩
   · exact a) (RK.xW h t)
theorem RK.snoc {ρ :List Addr} {H:Hp} {k:Key} {x:PV} {v:V} (h:rel K ρ H x v): ∀ {kvs:List (Key × PV)} {kws:List (Key × V)},RK K ρ H kvs kws->RK K ρ H (kvs++[(k,x)]) (kws++[(k,v)])
 | _,_,.nil=> .cons ⟨rfl,h⟩ .nil
 | _,_,.cons a t=> .cons a (RK.snoc h t)
theorem RK.put {ρ :List Addr} {H:Hp} {kvs:List (Key × PV)} {kws:List (Key × V)} {k:Key} {x:PV} {v:V} (r:RK K ρ H kvs kws) (h:rel K ρ H x v):RK K ρ H (er kvs k x) (putK kws k v):=by
 unfold er putK
 rw [RK.any k r]
 split
 · exact RK.xW h r
 · exact RK.snoc h r
noncomputable def aq:PV->PV->PH->RV PV:=fun x y h=>match x with
 | .tup xs=>(match y with
  | .int i=>(match eJ xs i with | some v=> .ok v h | none=> .no)
  | _=> .no)
 | .ktup xs=>(match y with
  | .int i=>(match eJ xs i with | some v=> .ok v h | none=> .no)
  | _=> .no)
 | .str z=>(match y with
  | .int i=>j2 z.length (match eJ z.cps.toList i with | some c=> .ok (.str ⟨#[c]⟩) h | none=> .no)
  | _=> .no)
 | .ref n=>(match h[n]? with
  | some (.dct kvs)=>(match gp y with
   | some k=>(match bo kvs k with | some v=> .ok v h | none=> .no)
   | none=> .no)
  | some (.lst xs)=>(match y with
   | .int i=>(match eJ xs i with | some v=> .ok v h | none=> .no)
   | _=> .no)
  | some (.j4 xs)=>(match y with
   | .int i=>(match eJ xs i with | some v=> .ok v h | none=> .no)
   | _=> .no)
  | none=> .no)
 | _=> .no
theorem au.at {ρ :List Addr} {H:Hp} {xs:List PV} {vs:List V} {i:Int} {x:PV} (r:au K ρ H xs vs) (e:eJ xs i=some x): ∃ v,eJ vs i=some v∧rel K ρ H x v:=by
 unfold eJ at e ⊢
 rw [<- r.len]
 cases q:oO xs.length i with
 | none=>rw [q] at e;exact nomatch e
 | some j =>
  rw [q] at e
  exact r.get e
noncomputable def Ot:R2:=fun x y H Q=> ∃ a v,x= .ref a∧iO H a y (some v)∧Q v H
theorem wm (hu : X.A.units + 1 < cLine) : xc X Ot := by
  intro value slice pins s σ H x y v u Q I rx ry h hs
  obtain ⟨a, w, rfl, g, q⟩ := h
  obtain rfl : v = Value.ref a := rx
  have hT : s.TypeIs (.ref a) "dict" := rJ I g
  unfold subscriptTail
  refine wpAny_bind ?_
  rw [getitemInPython_of_ne hT.not_modules]
  refine wpAny_bind (wpAny_specialOf hT PySem.F.slot_dict_getitem.lookup ?_)
  have fin : wpAny (model X.prog X.w) X.A (subscripted slice false (.ref a) u) (fun r s₃ => wpAny (model X.prog X.w) X.A (letTemporaryGo value (.ref a) r >>= fun _ => pure r) (EP X pins σ Q) X.xe s₃) X.xe s := by
    rw [hs]
    exact wpAny_operating (wC hu I g ry fun w' s' I' r' => wpAny_bind (wpAny_letTemporaryGo (wpAny_pure ⟨w, H, I', r', q⟩)))
  first
    | exact wpAny_pure (wpAny_bind fin)
    | exact wpAny_bind (wpAny_pure (wpAny_bind fin))
    | exact wpAny_bind fin
theorem c9.hu {X:Cx} {pg:Tb} {k:Nat} (A:c9 X pg k):X.A.units+1 < cLine:=Ls A.room
theorem MQ:c9 X pg k-> ∃ r,xc X r∧oH X.K r aq:=fun A=>⟨_,Fe.or (wm A.hu),fun ρ h H x y x' y' Q v h' s rx ry q P=>by
 cases x with
 | tup xs =>
  cases y with
  | int i =>
   simp only [aq] at q
   split at q
   · rename_i w e
     cases q
     obtain ⟨a,vs,rfl,z,r⟩:=rel.seq (x:= .tup xs) rfl rx
     obtain ⟨u,e1,e2⟩:=r.at e
     rw [rel] at ry
     exact .inl (.inr (.inl ⟨a,vs,i,u,rfl,ry,z,e1,P _ ρ H (.refl _ _) s e2⟩))
   · exact nomatch q
  | _=>exact nomatch q
 | ktup xs =>
  cases y with
  | int i =>
   simp only [aq] at q
   split at q
   · rename_i w e
     cases q
     obtain ⟨a,vs,rfl,z,r⟩:=rel.seq (x:= .ktup xs) rfl rx
     obtain ⟨u,e1,e2⟩:=r.at e
     rw [rel] at ry
     exact .inl (.inr (.inl ⟨a,vs,i,u,rfl,ry,z,e1,P _ ρ H (.refl _ _) s e2⟩))
   · exact nomatch q
  | _=>exact nomatch q
 | str z =>
  cases y with
  | int i =>
   simp only [aq] at q
   obtain ⟨hl,q⟩:=ji.mp q
   split at q
   · rename_i c e
     cases q
     rw [rel] at ry;rw [rel] at rx
     exact .inl (.inr (.inr ⟨z,i,c,rx,ry,hl,e,P _ ρ H (.refl _ _) s (by rw [rel])⟩))
   · exact nomatch q
  | _=>exact nomatch q
 | ref n =>
  simp only [aq] at q
  split at q
  · rename_i kvs e
    split at q
    · rename_i key ek
      split at q
      · rename_i w ew
        cases q
        rw [rel] at rx
        obtain ⟨a,ea,rfl⟩:=rx
        obtain ⟨kws,e1,e2⟩:=s.ob n _ a e ea
        obtain ⟨u,e3,e4⟩:=RK.some e2 ew
        have:=eZ ek ry
        subst this
        exact .inr ⟨a,u,rfl,e3 ▸ iO.k (k:=key) e1,P _ ρ H (.refl _ _) s e4⟩
      · exact nomatch q
    · exact nomatch q
  · rename_i xs e
    cases y with
    | int i =>
     simp only at q
     split at q
     · rename_i w ew
       cases q
       obtain ⟨a,vs,rfl,_,z,r⟩:=s.lst e rx
       obtain ⟨u,e1,e2⟩:=r.at ew
       rw [rel] at ry
       exact .inl (.inl ⟨a,vs,i,u,rfl,ry,.of z,e1,P _ ρ H (.refl _ _) s e2⟩)
     · exact nomatch q
    | _=>exact nomatch q
  · rename_i xs e
    cases y with
    | int i =>
     simp only at q
     split at q
     · rename_i w ew
       cases q
       obtain ⟨a,vs,rfl,_,z,r⟩:=s.j4 e rx
       obtain ⟨u,e1,e2⟩:=r.at ew
       rw [rel] at ry
       exact .inl (.inl ⟨a,vs,i,u,rfl,ry,z,e1,P _ ρ H (.refl _ _) s e2⟩)
     · exact nomatch q
    | _=>exact nomatch q
  · exact nomatch q
 | _=>exact nomatch q⟩
theorem Ll {f:PV->PV->PH->RV PV} {a b:Expr} {ma mb:ME} {pos:Pos} (hr:c9 X pg k-> ∃ r,xc X r∧oH X.K r f) (ha:JE X pg k a ma) (hb:JE X pg k b mb) (hs:ql b):JE X pg k (.Subscript a b pos) (af f ma mb):=⟨fun A =>
 let ⟨_,q1,s1⟩:=ha.h A;let ⟨_,q2,s2⟩:=hb.h A;let ⟨_,q,s⟩:=hr A;⟨_,K1 q q1 q2 hs,vq s s1 s2⟩⟩
noncomputable def iP:PV->PV->PV->PH->RV Unit:=fun x y v h=>match x with
 | .ref n=>(match h[n]? with
  | some (.dct kvs)=>(match gp y with
   | some k=>if kvs.length < sizeLine then .ok () (h.set n (.dct (er kvs k v))) else .no
   | none=> .no)
  | some (.lst xs)=>(match y with
   | .int i=>(match oO xs.length i with | some j=> .ok () (h.set n (.lst (xs.set j v))) | none=> .no)
   | _=> .no)
  | _=> .no)
 | _=> .no
noncomputable def KO:zh:=fun o i v H Q=> ∃ a H',o= .ref a∧uc H a i v H'∧Q H'
theorem set_dict (hu:X.A.units+1 < cLine):ox X KO:=by
 intro pins s σ H o i v ov iv u Q I ro ri rv h
 obtain ⟨a,H',rfl,g,q⟩:=h
 obtain rfl:ov=Value.ref a:=ro
 exact xk hu I g ri rv fun s' I'=>⟨H',I',q⟩
theorem ox.or {t t':zh} (h:ox X t) (h':ox X t'):ox X (fun o i v H Q=>t o i v H Q∨t' o i v H Q):=by
 intro pins s σ H o i v ov iv u Q I ro ri rv q
 rcases q with q | q
 · exact h pins s σ H o i v ov iv u Q I ro ri rv q
 · exact h' pins s σ H o i v ov iv u Q I ro ri rv q
theorem Kv:c9 X pg k-> ∃ t,ox X t∧ ∀ ρ h H x y v x' y' v' u h' Q,cW X.K ρ h H->rel X.K ρ H x x'->rel X.K ρ H y y'->rel X.K ρ H v v'->iP x y v h= .ok u h'->kW X.K ρ H h' Q->t x' y' v' H Q:=fun A =>
 ⟨_,ox.or set_list (set_dict A.hu),fun ρ h H x y v x' y' v' u h' Q s rx ry rv q P=>by
 cases x with
 | ref n =>
  simp only [iP] at q
  rw [rel] at rx
  obtain ⟨a,ea,rfl⟩:=rx
  split at q
  · rename_i kvs e
    split at q
    · rename_i key ek
      split at q
      · rename_i hl
        cases q
        obtain ⟨kws,e1,e2⟩:=s.ob n _ a e ea
        have:=eZ ek ry
        subst this
        refine .inr ⟨a,_,rfl,uc.k e1 (by rw [<- RK.len e2];exact hl),?_⟩
        have g:Gr ρ H ρ (upd H a (.dK (putK kws key v'))):=Gr.write (.inr ⟨_,e1⟩)
        exact P ρ _ g (s.write e ea rfl rfl ⟨_,aY,Paired.eP g (RK.put e2 rv)⟩)
      · exact nomatch q
    · exact nomatch q
  · rename_i xs e
    cases y with
    | int i =>
     simp only at q
     split at q
     · rename_i j ej
       cases q
       obtain ⟨vs,e1,e2⟩:=s.ob n _ a e ea
       rw [rel] at ry
       have g:Gr ρ H ρ (upd H a (.lst (vs.set j v'))):=Gr.write (.inl ⟨_,e1⟩)
       exact .inl ⟨a,vs,i,j,rfl,ry,e1,by rw [<- e2.len];exact ej,P ρ _ g (s.write e ea rfl rfl ⟨_,aY,au.gr g _ _ (e2.set j rv)⟩)⟩
     · exact nomatch q
    | _=>exact nomatch q
  · exact nomatch q
 | _=>exact nomatch q⟩
end
end P3
end
section
open PySem PySem.W PyProof.Rows
namespace P3
open PySem PySem.Spec PyProof.Rows L2
mutual
def bU (K:PySem.W.Frag) (H:Hp):PyData->V->Prop
 | .none,v=>v= .non
 | .bool b,v=>v= .bl b
 | .int i,v=>v= .int i
 | .str x,v=>v= .str x
 | .list xs,v=> ∃ a vs,v= .ref a∧gm K H a vs∧eU K H xs vs
 | .tuple xs,v=> ∃ a vs,v= .ref a∧fJ K H a vs∧eU K H xs vs
 | .dict _,_=>False
def eU (K:PySem.W.Frag) (H:Hp):List PyData->List V->Prop
 | [],vs=>vs=[]
 | x::r,vs=> ∃ v t,vs=v::t∧bU K H x v∧eU K H r t
end
mutual
theorem bU.reads {X:Cx} {pins:List (Addr × Obj)} {σ :L2.St} {H:Hp} {s:Shared} (I:Inv X pins σ H s): ∀ (d:PyData) (v:V) (u:Value),bU X.K H d v->RelV v u-> ∃ as,Reads s.heap u d as
 | .none,v,u,h,r=>by rw [bU] at h;subst h;cases (show u=Value.none from r);exact ⟨_,.none⟩
 | .bool b,v,u,h,r=>by rw [bU] at h;subst h;cases (show u=Value.bool b from r);exact ⟨_,.bool b⟩
 | .int i,v,u,h,r=>by rw [bU] at h;subst h;obtain ⟨t,rfl⟩:=(show ∃ t,u=Value.int i t from r);exact ⟨_,.int i t⟩
 | .str x,v,u,h,r=>by rw [bU] at h;subst h;obtain ⟨t,rfl⟩:=(show ∃ t,u=Value.str x t from r);exact ⟨_,.str x t⟩
 | .list xs,v,u,h,r=>by
  rw [bU] at h
  obtain ⟨a,vs,rfl,z,q⟩:=h
  cases (show u=Value.ref a from r)
  obtain ⟨aw,rv,⟨o,n,e,c,_,dd⟩,_⟩:=I.list z
  obtain ⟨as,ra⟩:=eU.reads I xs vs aw q rv
  exact ⟨_,.list e c dd (by simpa using ra)⟩
 | .tuple xs,v,u,h,r=>by
  rw [bU] at h
  obtain ⟨a,vs,rfl,z,q⟩:=h
  cases (show u=Value.ref a from r)
  obtain ⟨aw,rv,⟨o,e,c,n,dd⟩,_⟩:=I.tuple z
  obtain ⟨as,ra⟩:=eU.reads I xs vs aw q rv
  exact ⟨_,.tuple e c dd (by simpa using ra)⟩
 | .dict _,v,u,h,r=>by rw [bU] at h;exact h.elim
theorem eU.reads {X:Cx} {pins:List (Addr × Obj)} {σ :L2.St} {H:Hp} {s:Shared} (I:Inv X pins σ H s): ∀ (xs:List PyData) (vs:List V) (us:List Value),eU X.K H xs vs->Vals vs us-> ∃ as,ReadsAll s.heap us xs as
 | [],vs,us,h,r=>by rw [eU] at h;subst h;cases r;exact ⟨_,.nil⟩
 | x::t,vs,us,h,r=>by
  rw [eU] at h
  obtain ⟨v,w,rfl,h1,h2⟩:=h
  cases r with
  | cons r1 r2 =>
   obtain ⟨as,a⟩:=bU.reads I x v _ h1 r1
   obtain ⟨bs,b⟩:=eU.reads I t w _ h2 r2
   exact ⟨_,.cons a b⟩
end
mutual
def kM (sub:Nat->Option PyData):PV->Option PyData
 | .non=>some .none
 | .bl b=>some (.bool b)
 | .int i=>some (.int i)
 | .str x=>some (.str x)
 | .tup xs=>(cE sub xs).map .tuple
 | .ktup xs=>(cE sub xs).map .tuple
 | .ref n=>sub n
 | .ty _=>none
def cE (sub:Nat->Option PyData):List PV->Option (List PyData)
 | []=>some []
 | x::r=>match kM sub x,cE sub r with
  | some d1,some ds1=>some (d1::ds1)
  | _,_=>none
end
noncomputable def dat:Nat->PH->PV->Option PyData
 | 0,_=>kM fun _=>none
 | n+1,h=>kM fun m=>match h[m]? with
  | some (.lst xs)=>(cE (fun j=>dat n h (.ref j)) xs).map .list
  | some (.j4 xs)=>(cE (fun j=>dat n h (.ref j)) xs).map .list
  | _=>none
mutual
theorem kM.v {K:PySem.W.Frag} {ρ :List Addr} {H:Hp} {sub:Nat->Option PyData} (hs: ∀ n d v,sub n=some d->rel K ρ H (.ref n) v->bU K H d v): ∀ (x:PV) (d:PyData) (v:V),kM sub x=some d->rel K ρ H x v->bU K H d v
 | .non,d,v,e,r=>by cases e;rw [rel] at r;rw [bU];exact r
 | .bl b,d,v,e,r=>by cases e;rw [rel] at r;rw [bU];exact r
 | .int b,d,v,e,r=>by cases e;rw [rel] at r;rw [bU];exact r
 | .str b,d,v,e,r=>by cases e;rw [rel] at r;rw [bU];exact r
 | .ty b,d,v,e,r=>by exact nomatch e
 | .ref n,d,v,e,r=>hs n d v e r
 | .tup xs,d,v,e,r=>by
  rw [kM] at e
  cases q:cE sub xs with
  | none=>rw [q] at e;exact nomatch e
  | some ds =>
   rw [q] at e;cases e
   obtain ⟨a,vs,e1,e2,e3⟩:=rel.seq (x:= .tup xs) rfl r
   rw [bU];exact ⟨a,vs,e1,e2,cE.v hs xs ds vs q e3⟩
 | .ktup xs,d,v,e,r=>by
  rw [kM] at e
  cases q:cE sub xs with
  | none=>rw [q] at e;exact nomatch e
  | some ds =>
   rw [q] at e;cases e
   obtain ⟨a,vs,e1,e2,e3⟩:=rel.seq (x:= .ktup xs) rfl r
   rw [bU];exact ⟨a,vs,e1,e2,cE.v hs xs ds vs q e3⟩
theorem cE.v {K:PySem.W.Frag} {ρ :List Addr} {H:Hp} {sub:Nat->Option PyData} (hs: ∀ n d v,sub n=some d->rel K ρ H (.ref n) v->bU K H d v): ∀ (xs:List PV) (ds:List PyData) (vs:List V),cE sub xs=some ds->au K ρ H xs vs->eU K H ds vs
 | [],ds,vs,e,r=>by cases e;rw [au] at r;rw [eU];exact r
 | x::t,ds,vs,e,r=>by
  rw [cE] at e
  split at e
  · rename_i d ds' e1 e2
    cases e
    obtain ⟨v,w,rfl,r1,r2⟩:=aD.mp r
    rw [eU];exact ⟨v,w,rfl,kM.v hs x d v e1 r1,cE.v hs t ds' w e2 r2⟩
  · exact nomatch e
end
theorem dat.v {K:PySem.W.Frag} {ρ :List Addr} {h:PH} {H:Hp} (s:cW K ρ h H): ∀ (n:Nat) (x:PV) (d:PyData) (v:V),dat n h x=some d->rel K ρ H x v->bU K H d v
 | 0,x,d,v,e,r=>kM.v (fun _ _ _ z _=>by cases z) x d v e r
 | n+1,x,d,v,e,r=>by
  refine kM.v (fun m d' v' z rv=>?_) x d v e r
  split at z
  · rename_i xs em
    cases q:cE (fun j=>dat n h (.ref j)) xs with
    | none=>rw [q] at z;exact nomatch z
    | some ds =>
     rw [q] at z;cases z
     obtain ⟨a,vs,e1,_,e2,e3⟩:=s.lst em rv
     rw [bU];exact ⟨a,vs,e1,.of e2,cE.v (fun j d v z rv=>dat.v s n (.ref j) d v z rv) xs ds vs q e3⟩
  · rename_i xs em
    cases q:cE (fun j=>dat n h (.ref j)) xs with
    | none=>rw [q] at z;exact nomatch z
    | some ds =>
     rw [q] at z;cases z
     obtain ⟨a,vs,e1,_,e2,e3⟩:=s.j4 em rv
     rw [bU];exact ⟨a,vs,e1,e2,cE.v (fun j d v z rv=>dat.v s n (.ref j) d v z rv) xs ds vs q e3⟩
  · exact nomatch z
section
variable {K:PySem.W.Frag} {X:Cx} {pg:Tb} {k:Nat}
noncomputable def LM (K:PySem.W.Frag) (f:Bool->Bool):R2:=fun x y H Q=> ∃ d d',bU K H d x∧bU K H d' y∧d.canLay0=true∧d'.canLay0=true∧min d.depth d'.depth<=64∧Q (.bl (f (PyData.eqv d d'))) H
theorem Ha (hr:X.A.units+64 < cLine):dI X (compareOp .Eq) (LM X.K id):=by
 intro pins s σ H x y v u Q I rx ry ⟨d,d',h1,h2,c1,c2,hd,q⟩
 obtain ⟨as,ra⟩:=bU.reads I d x v h1 rx
 obtain ⟨bs,rb⟩:=bU.reads I d' y u h2 ry
 exact SeqAt.compareEq_reads ra rb c1 c2 (by omega) ⟨.bl _,H,I,rfl,q⟩
theorem Je (hr:X.A.units+64 < cLine):dI X (compareOp .NotEq) (LM X.K not):=by
 intro pins s σ H x y v u Q I rx ry ⟨d,d',h1,h2,c1,c2,hd,q⟩
 obtain ⟨as,ra⟩:=bU.reads I d x v h1 rx
 obtain ⟨bs,rb⟩:=bU.reads I d' y u h2 ry
 exact SeqAt.compareNe_reads ra rb c1 c2 (by omega) ⟨.bl _,H,I,rfl,q⟩
noncomputable def ic:PV->PV->Bool
 | .non,.non=>true | .non,.int _=>true | .int _,.non=>true | .non,.bl _=>true | .bl _,.non=>true | .non,.str _=>true | .str _,.non=>true
 | .int _,.int _=>true | .bl _,.bl _=>true | .str _,.str _=>true
 | .int _,.str _=>true | .str _,.int _=>true | .bl _,.str _=>true | .str _,.bl _=>true
 | _,_=>false
noncomputable def gh (h:PH):PV->Bool
 | .ref n=>(match h[n]? with
  | some (.dct _)=>true
  | _=>false)
 | _=>false
noncomputable def isStr:PV->Bool
 | .str _=>true
 | _=>false
noncomputable def alike (x y:PV) (h:PH):Option Bool :=
 if ic x y=true then some (decide (x=y)) else match dat 6 h x,dat 6 h y with
  | some a,some b=>if a.canLay0=true∧b.canLay0=true∧min a.depth b.depth<=64 then some (PyData.eqv a b) else none
  | _,_=>if gh h x=true∧isStr y=true then some false else none
noncomputable def cu (x y:PV) (h:PH):RV PV:=match alike x y h with
 | some b=> .ok (.bl b) h
 | none=> .no
noncomputable def gS (x y:PV) (h:PH):RV PV:=match alike x y h with
 | some b=>if gh h x=true then .no else .ok (.bl (!b)) h
 | none=> .no
theorem yH {ρ : List Addr} {H : Hp} {x y : PV} {x' y' : V} (h : ic x y = true) (rx : rel K ρ H x x') (ry : rel K ρ H y y') : x9 x' y' = true /\ decide (x' = y') = decide (x = y) := by
  cases x <;> cases y <;> first
    | (exfalso; revert h; simp [ic]; done)
    | (rw [rel] at rx; rw [rel] at ry; subst rx; subst ry; simp [x9])
theorem mF {ρ :List Addr} {h:PH} {H:Hp} {x y:PV} {x' y':V} {b:Bool} (s:cW K ρ h H) (rx:rel K ρ H x x') (ry:rel K ρ H y y') (e:alike x y h=some b) :
  (x9 x' y'=true∧b=decide (x'=y'))∨(∃ d d',bU K H d x'∧bU K H d' y'∧d.canLay0=true∧d'.canLay0=true∧min d.depth d'.depth<=64∧b=PyData.eqv d d') ∨
  (gh h x=true∧b=false∧ ∃ p z,x'= .ref p∧y'= .str z∧ ∃ kvs,H p=some (.dK kvs)):=by
 unfold alike at e
 split at e
 · rename_i hs
   cases e
   obtain ⟨z,w⟩:=yH hs rx ry
   exact .inl ⟨z,w.symm⟩
 · split at e
   · rename_i a c e1 e2
     split at e
     · rename_i hc
       cases e
       exact .inr (.inl ⟨a,c,dat.v s 6 x a x' e1 rx,dat.v s 6 y c y' e2 ry,hc.1,hc.2.1,hc.2.2,rfl⟩)
     · exact nomatch e
   · split at e
     · rename_i hc
       cases e
       refine .inr (.inr ⟨hc.1,rfl,?_⟩)
       obtain ⟨c1,c2⟩:=hc
       cases x with
       | ref n =>
        cases y with
        | str z =>
         rw [rel] at ry
         rw [rel] at rx
         obtain ⟨a,ea,rfl⟩:=rx
         simp only [gh] at c1
         split at c1
         · rename_i kvs en
           obtain ⟨kws,e1,_⟩:=s.ob n _ a en ea
           exact ⟨a,z,rfl,ry,kws,e1⟩
         · exact nomatch c1
        | _=>exact nomatch c2
       | _=>exact nomatch c1
     · exact nomatch e
theorem Nl:c9 X pg k-> ∃ r,dI X (compareOp .Eq) r∧oH X.K r cu:=fun A=>⟨_,JQ.or ((Ha A.room.units).or (Ca A.room.Iq)),fun ρ h H x y x' y' Q v h' s rx ry q P=>by
 unfold cu at q
 split at q
 · rename_i b e
   cases q
   have fin:Q (.bl b) H:=P _ ρ H (.refl _ _) s (by rw [rel])
   rcases mF s rx ry e with ⟨z,rfl⟩ | ⟨d,d',h1,h2,h3,h4,h5,rfl⟩ | ⟨_,rfl,p,z,e1,e2,kvs,e3⟩
   · exact .inl ⟨z,fin⟩
   · exact .inr (.inl ⟨d,d',h1,h2,h3,h4,h5,fin⟩)
   · exact .inr (.inr ⟨p,z,e1,e2,.inr (.inr ⟨kvs,e3⟩),fin⟩)
 · exact nomatch q⟩
theorem NI:c9 X pg k-> ∃ r,dI X (compareOp .NotEq) r∧oH X.K r gS:=fun A=>⟨_,Lc.or (Je A.room.units),fun ρ h H x y x' y' Q v h' s rx ry q P=>by
 unfold gS at q
 split at q
 · rename_i b e
   split at q
   · exact nomatch q
   · rename_i hd
     cases q
     have fin:Q (.bl (!b)) H:=P _ ρ H (.refl _ _) s (by rw [rel])
     rcases mF s rx ry e with ⟨z,rfl⟩ | ⟨d,d',h1,h2,h3,h4,h5,rfl⟩ | ⟨z,_⟩
     · exact .inl ⟨z,fin⟩
     · exact .inr ⟨d,d',h1,h2,h3,h4,h5,fin⟩
     · exact absurd z hd
 · exact nomatch q⟩
noncomputable def Kg (K:PySem.W.Frag) (f:Bool->Bool):R2:=fun x y H Q=> ∃ p vs xs d,y= .ref p∧(gm K H p vs∨fJ K H p vs)∧eU K H xs vs∧bU K H d x∧PyData.canLayAll0 xs=true∧d.canLay0=true∧min (PyData.depthAll xs) d.depth<=60∧Q (.bl (f (xs.any fun z=>PyData.eqv z d))) H
theorem F2 (hr:X.A.units+64 < cLine):dI X (compareOp .In) (Kg X.K id):=by
 intro pins s σ H x y v u Q I rx ry ⟨p,vs,xs,d,e,hq,h1,h2,c1,c2,hd,q⟩
 subst e
 obtain ⟨bs,rb⟩:=bU.reads I d x v h2 rx
 rcases hq with hq | hq
 · obtain ⟨as,ra⟩:=bU.reads I (.list xs) (.ref p) u (by rw [bU];exact ⟨p,vs,rfl,hq,h1⟩) ry
   exact SeqAt.in_list_reads ra rb c1 c2 (by omega) ⟨.bl _,H,I,rfl,q⟩
 · obtain ⟨as,ra⟩:=bU.reads I (.tuple xs) (.ref p) u (by rw [bU];exact ⟨p,vs,rfl,hq,h1⟩) ry
   exact SeqAt.in_tuple_reads ra rb c1 c2 (by omega) ⟨.bl _,H,I,rfl,q⟩
theorem xq (hr:X.A.units+64 < cLine):dI X (compareOp .NotIn) (Kg X.K not):=by
 intro pins s σ H x y v u Q I rx ry ⟨p,vs,xs,d,e,hq,h1,h2,c1,c2,hd,q⟩
 subst e
 obtain ⟨bs,rb⟩:=bU.reads I d x v h2 rx
 rcases hq with hq | hq
 · obtain ⟨as,ra⟩:=bU.reads I (.list xs) (.ref p) u (by rw [bU];exact ⟨p,vs,rfl,hq,h1⟩) ry
   exact SeqAt.notIn_list_reads ra rb c1 c2 (by omega) ⟨.bl _,H,I,rfl,q⟩
 · obtain ⟨as,ra⟩:=bU.reads I (.tuple xs) (.ref p) u (by rw [bU];exact ⟨p,vs,rfl,hq,h1⟩) ry
   exact SeqAt.notIn_tuple_reads ra rb c1 c2 (by omega) ⟨.bl _,H,I,rfl,q⟩
noncomputable def LJ (f:Bool->Bool):R2:=fun x y H Q=> ∃ a o,y= .ref a∧iO H a x o∧Q (.bl (f o.isSome)) H
theorem HX (hu:X.A.units+1 < cLine):dI X (compareOp .In) (LJ id):=by
 intro pins s σ H x y v u Q I rx ry ⟨a,o,e,g,q⟩
 subst e
 obtain rfl:u=Value.ref a:=ry
 exact M7 hu I g rx fun s' I'=>⟨.bl _,H,I',rfl,q⟩
theorem wO (hu:X.A.units+1 < cLine):dI X (compareOp .NotIn) (LJ not):=by
 intro pins s σ H x y v u Q I rx ry ⟨a,o,e,g,q⟩
 subst e
 obtain rfl:u=Value.ref a:=ry
 exact BO hu I g rx fun s' I'=>⟨.bl _,H,I',rfl,q⟩
noncomputable def itemsOf (h:PH):PV->Option (List PV)
 | .tup xs=>some xs
 | .ktup xs=>some xs
 | .ref n=>cQ h n
 | _=>none
theorem cW.items {ρ :List Addr} {h:PH} {H:Hp} (s:cW K ρ h H) {x:PV} {xs:List PV} {v:V} (e:itemsOf h x=some xs) (r:rel K ρ H x v): ∃ a vs,v= .ref a∧(gm K H a vs∨fJ K H a vs)∧au K ρ H xs vs:=by
 cases x with
 | tup ys=>cases e;obtain ⟨a,vs,e1,e2,e3⟩:=rel.seq (x:= .tup xs) rfl r;exact ⟨a,vs,e1,.inr e2,e3⟩
 | ktup ys=>cases e;obtain ⟨a,vs,e1,e2,e3⟩:=rel.seq (x:= .ktup xs) rfl r;exact ⟨a,vs,e1,.inr e2,e3⟩
 | ref n=>obtain ⟨a,vs,e1,_,e2,e3⟩:=s.sq e r;exact ⟨a,vs,e1,.inl e2,e3⟩
 | _=>exact nomatch e
noncomputable def fF:PV->Bool
 | .non=>true
 | .bl _=>true
 | .int _=>true
 | .str _=>true
 | _=>false
noncomputable def Jt:PV->PV->Bool
 | .non,.non=>true
 | .bl a,.bl b=>a == b
 | .bl a,.int b=>(if a then 1 else 0) == b
 | .int a,.bl b=>a == (if b then 1 else 0)
 | .int a,.int b=>a == b
 | .str a,.str b=>a == b
 | _,_=>false
theorem sJ {ρ :List Addr} {H:Hp} {x:PV} {v:V} (h:fF x=true) (r:rel K ρ H x v):gM v=true:=by
 cases x<;>first | (exfalso;revert h;simp [fF];done) | (rw [rel] at r;subst r;rfl)
theorem D8 {ρ : List Addr} {H : Hp} {x y : PV} {v w : V} (hx : fF x = true) (hy : fF y = true) (rx : rel K ρ H x v) (ry : rel K ρ H y w) : BR v w = Jt x y := by
  cases x <;> first
    | (exfalso; revert hx; simp [fF]; done)
    | (cases y <;> first
        | (exfalso; revert hy; simp [fF]; done)
        | (rw [rel] at rx; rw [rel] at ry; subst rx; subst ry; rfl))
theorem Ek {ρ :List Addr} {H:Hp} {x:PV} {v:V} (hx:fF x=true) (rx:rel K ρ H x v): ∀ {xs:List PV} {vs:List V},xs.all fF=true->au K ρ H xs vs->vs.all gM=true∧JZ v vs=xs.any fun z=>Jt z x
 | [],vs,_,r=>by rw [aK] at r;subst r;exact ⟨rfl,rfl⟩
 | y::t,vs,h,r=>by
  obtain ⟨w,u,rfl,r1,r2⟩:=aD.mp r
  simp only [Bool.and_eq_true,List.all_cons] at h
  obtain ⟨a,b⟩:=Ek hx rx h.2 r2
  refine ⟨by rw [List.all_cons,sJ h.1 r1,a];rfl,?_⟩
  unfold JZ at b ⊢
  rw [List.any_cons,List.any_cons,b,D8 h.1 hx r1 rx]
noncomputable def isIn (x y:PV) (h:PH):Option Bool:=match itemsOf h y with
 | some xs=>if (fF x&&xs.all fF)=true then some (xs.any fun z=>Jt z x) else (match dat 6 h x,cE (fun j=>dat 6 h (.ref j)) xs with
  | some d,some ds=>if PyData.canLayAll0 ds=true∧d.canLay0=true∧min (PyData.depthAll ds) d.depth<=60 then some (ds.any fun z=>PyData.eqv z d) else none
  | _,_=>none)
 | none=>(match y with
  | .ref n=>(match h[n]? with
   | some (.dct kvs)=>(gp x).map fun k=>(bo kvs k).isSome
   | _=>none)
  | .str j=>(match x with
   | .str i=>some (!(Builtin.Str.occurrences j i 0 j.length 1).isEmpty)
   | _=>none)
  | _=>none)
noncomputable def ju (x y:PV) (h:PH):RV PV:=match isIn x y h with
 | some b=> .ok (.bl b) h
 | none=> .no
noncomputable def gE (x y:PV) (h:PH):RV PV:=match isIn x y h with
 | some b=> .ok (.bl (!b)) h
 | none=> .no
theorem pI {ρ :List Addr} {h:PH} {H:Hp} {x y:PV} {x' y':V} {b:Bool} (s:cW K ρ h H) (rx:rel K ρ H x x') (ry:rel K ρ H y y') (e:isIn x y h=some b) :
  (∃ p xs,y'= .ref p∧(gm K H p xs∨fJ K H p xs)∧gM x'=true∧xs.all gM=true∧b=JZ x' xs) ∨
  (∃ p vs xs d,y'= .ref p∧(gm K H p vs∨fJ K H p vs)∧eU K H xs vs∧bU K H d x'∧PyData.canLayAll0 xs=true∧d.canLay0=true∧min (PyData.depthAll xs) d.depth<=60∧b=xs.any fun z=>PyData.eqv z d) ∨
  (∃ a o,y'= .ref a∧iO H a x' o∧b=o.isSome) ∨
  (∃ i j,x'= .str i∧y'= .str j∧b= !(Builtin.Str.occurrences j i 0 j.length 1).isEmpty):=by
 unfold isIn at e
 split at e
 · rename_i xs ei
   obtain ⟨a,vs,rfl,z,r⟩:=s.items ei ry
   split at e
   · rename_i hf
     cases e
     rw [Bool.and_eq_true] at hf
     obtain ⟨f1,f2⟩:=Ek hf.1 rx hf.2 r
     exact .inl ⟨a,vs,rfl,z,sJ hf.1 rx,f1,f2.symm⟩
   · split at e
     · rename_i d ds e1 e2
       split at e
       · rename_i hc
         cases e
         exact .inr (.inl ⟨a,vs,ds,d,rfl,z,cE.v (fun j d v w rv=>dat.v s 6 (.ref j) d v w rv) xs ds vs e2 r,dat.v s 6 x d x' e1 rx,hc.1,hc.2.1,hc.2.2,rfl⟩)
       · exact nomatch e
     · exact nomatch e
 · split at e
   · rename_i n ei
     split at e
     · rename_i kvs en
       cases q:gp x with
       | none=>rw [q] at e;exact nomatch e
       | some key =>
        rw [q] at e
        cases e
        rw [rel] at ry
        obtain ⟨a,ea,rfl⟩:=ry
        obtain ⟨kws,e1,e2⟩:=s.ob n _ a en ea
        have:=eZ q rx
        subst this
        exact .inr (.inr (.inl ⟨a,_,rfl,iO.k (k:=key) e1,(RK.is key e2).symm⟩))
     · exact nomatch e
   · split at e
     · cases e
       rw [rel] at rx
       rw [rel] at ry
       exact .inr (.inr (.inr ⟨_,_,rx,ry,rfl⟩))
     · exact nomatch e
   · exact nomatch e
theorem MR:c9 X pg k-> ∃ r,dI X (compareOp .In) r∧oH X.K r ju:=fun A=>⟨_,wg.or ((F2 A.room.units).or ((HX A.hu).or vZ)),fun ρ h H x y x' y' Q v h' s rx ry q P=>by
 unfold ju at q
 split at q
 · rename_i b e
   cases q
   have fin:Q (.bl b) H:=P _ ρ H (.refl _ _) s (by rw [rel])
   rcases pI s rx ry e with ⟨p,xs,e1,e2,e3,e4,rfl⟩ | ⟨p,vs,xs,d,e1,e2,e3,e4,e5,e6,e7,rfl⟩ | ⟨a,o,e1,e2,rfl⟩ | ⟨i,j,e1,e2,rfl⟩
   · exact .inl ⟨p,xs,e1,e2,e3,e4,fin⟩
   · exact .inr (.inl ⟨p,vs,xs,d,e1,e2,e3,e4,e5,e6,e7,fin⟩)
   · exact .inr (.inr (.inl ⟨a,o,e1,e2,fin⟩))
   · exact .inr (.inr (.inr ⟨i,j,e1,e2,fin⟩))
 · exact nomatch q⟩
theorem B5:c9 X pg k-> ∃ r,dI X (compareOp .NotIn) r∧oH X.K r gE:=fun A=>⟨_,qQ.or ((xq A.room.units).or ((wO A.hu).or qw)),fun ρ h H x y x' y' Q v h' s rx ry q P=>by
 unfold gE at q
 split at q
 · rename_i b e
   cases q
   have fin:Q (.bl (!b)) H:=P _ ρ H (.refl _ _) s (by rw [rel])
   rcases pI s rx ry e with ⟨p,xs,e1,e2,e3,e4,rfl⟩ | ⟨p,vs,xs,d,e1,e2,e3,e4,e5,e6,e7,rfl⟩ | ⟨a,o,e1,e2,rfl⟩ | ⟨i,j,e1,e2,rfl⟩
   · exact .inl ⟨p,xs,e1,e2,e3,e4,fin⟩
   · exact .inr (.inl ⟨p,vs,xs,d,e1,e2,e3,e4,e5,e6,e7,fin⟩)
   · exact .inr (.inr (.inl ⟨a,o,e1,e2,fin⟩))
   · exact .inr (.inr (.inr ⟨i,j,e1,e2,fin⟩))
 · exact nomatch q⟩
noncomputable def cZ (neg:Bool) (x:PV) (h:PH):RV PV:= .ok (.bl (if neg then !decide (x= .non) else decide (x= .non))) h
theorem Cr {ρ :List Addr} {H:Hp} {x:PV} {v:V} (r:rel K ρ H x v):decide (v= .non)=decide (x= .non):=by
 cases x with
 | non=>rw [rel] at r;subst r;rfl
 | bl=>rw [rel] at r;subst r;rfl
 | int=>rw [rel] at r;subst r;rfl
 | str=>rw [rel] at r;subst r;rfl
 | ty=>rw [rel] at r;subst r;rfl
 | tup=>rw [rel] at r;obtain ⟨a,_,rfl,_⟩:=r;rfl
 | ktup=>rw [rel] at r;obtain ⟨a,_,rfl,_⟩:=r;rfl
 | ref=>rw [rel] at r;obtain ⟨a,_,rfl⟩:=r;rfl
variable {a:Expr} {ma:ME} {pos pos':Pos}
theorem tJ {c:CF} {ta:TE} (neg:Bool) (s1:SE c K ta ma):SE c K (fun σ H Q=>ta σ H fun x H1=>Q (.bl (if neg then !decide (x= .non) else decide (x= .non))) H1) (pQ (cZ neg) ma):=fun ρ h H e σ Q v h' s r q P=>by
 obtain ⟨x,h1,e1,q⟩:=bind_eq.mp q
 cases q
 refine s1 ρ h H e σ _ x _ s r e1 fun x' ρ1 H1 g1 z1 r1=>?_
 rw [Cr r1]
 exact P _ ρ1 H1 g1 z1 (by rw [rel])
theorem Gf {j:Nat} (ha:JE X pg k a ma):JE X pg k (.Compare a [.Is] [.Constant .none j pos'] pos) (pQ (cZ false) ma):=⟨fun A=>let ⟨_,q1,s1⟩:=ha.h A;⟨_,FY q1,tJ false s1⟩⟩
theorem EY {j:Nat} (ha:JE X pg k a ma):JT X pg k (.Compare a [.Is] [.Constant .none j pos'] pos) (ar (pQ (cZ false) ma)):=⟨fun A=>let ⟨_,q1,s1⟩:=ha.h A;⟨_,HB q1,p8 (tJ false s1)⟩⟩
theorem DM {j:Nat} (ha:JE X pg k a ma):JT X pg k (.Compare a [.IsNot] [.Constant .none j pos'] pos) (ar (pQ (cZ true) ma)):=⟨fun A=>let ⟨_,q1,s1⟩:=ha.h A;⟨_,B4 q1,p8 (tJ true s1)⟩⟩
end
end P3
end
section
open PySem PySem.W PyProof.Rows
namespace P3
open PySem PySem.Spec PyProof.Rows L2
section
variable {K:PySem.W.Frag} {X:Cx} {pg:Tb} {k:Nat}
abbrev MO:=CF->ax->PH->RV (Option Int)
noncomputable def bY:MO:=fun _ _ h=> .ok none h
noncomputable def bX (a:ME):MO:=fun c e h=>(a c e h).bind fun v h1=>match v with
 | .int i=> .ok (some i) h1
 | _=> .no
noncomputable def dy (xs:List PV) (lo hi:Option Int):List PV:=(xs.drop (HT.c8 xs.length 0 lo)).take (HT.c8 xs.length xs.length hi - HT.c8 xs.length 0 lo)
noncomputable def Ew (x:PV) (lo hi:Option Int) (h:PH):RV PV:=match x with
 | .tup xs=> .ok (.tup (dy xs lo hi)) h
 | .ref n=>(match cQ h n with
  | some xs=> .ok (.ref h.length) (h++[.lst (dy xs lo hi)])
  | none=> .no)
 | _=> .no
noncomputable def kO (a:ME) (l u:MO):ME:=fun c e h=>(a c e h).bind fun x h1=>(l c e h1).bind fun lo h2=>(u c e h2).bind fun hi h3=>Ew x lo hi h3
structure JO (X:Cx) (pg:Tb) (k:Nat) (e:Option Expr) (m:MO):Prop where
 h:c9 X pg k-> ∃ t,QO X e t∧ ∀ ρ h H e σ Q o h',cW X.K ρ h H->dJ X.K ρ H e σ ->m (run pg k) e h= .ok o h'->kW X.K ρ H h' (Q o)->t σ H Q
theorem CO:JO X pg k none bY:=⟨fun A=>⟨_,Cu,fun ρ h H e σ Q o h' s r q P=>by cases q;exact P ρ H (.refl _ _) s⟩⟩
theorem CS {e:Expr} {ma:ME} (ha:JE X pg k e ma):JO X pg k (some e) (bX ma):=⟨fun A=>let ⟨_,q1,s1⟩:=ha.h A;⟨_,DC q1,fun ρ h H e σ Q o h' s r q P=>by
 obtain ⟨v,h1,e1,q⟩:=bind_eq.mp q
 refine s1 ρ h H e σ _ v h1 s r e1 fun v' ρ1 H1 g1 z1 r1=>?_
 cases v with
 | int i=>cases q;rw [rel] at r1;exact ⟨i,r1,P ρ1 H1 g1 z1⟩
 | _=>exact nomatch q⟩⟩
theorem au.cut {ρ :List Addr} {H:Hp} {xs:List PV} {vs:List V} (r:au K ρ H xs vs) (lo hi:Option Int):au K ρ H (dy xs lo hi) (lu vs lo hi):=by
 unfold dy lu
 rw [<- r.len]
 exact (r.drop _).take _
theorem Ak {e:Expr} {lo hi:Option Expr} {ma:ME} {ml mu:MO} {p2 pos:Pos} (ha:JE X pg k e ma) (hl:JO X pg k lo ml) (hh:JO X pg k hi mu):JE X pg k (.Subscript e (.Slice lo hi none p2) pos) (kO ma ml mu):=⟨fun A =>
 let ⟨_,q1,s1⟩:=ha.h A;let ⟨_,q2,s2⟩:=hl.h A;let ⟨_,q3,s3⟩:=hh.h A;⟨_,Ac Oe q1 q2 q3,fun ρ h H e σ Q v h' s r q P=>by
 obtain ⟨x,h1,e1,q⟩:=bind_eq.mp q
 obtain ⟨lo,h2,e2,q⟩:=bind_eq.mp q
 obtain ⟨hi,h3,e3,q⟩:=bind_eq.mp q
 refine s1 ρ h H e σ _ x h1 s r e1 fun x' ρ1 H1 g1 z1 r1=>?_
 refine s2 ρ1 h1 H1 e σ _ lo h2 z1 (r.gr g1) e2 fun ρ2 H2 g2 z2=>?_
 refine s3 ρ2 h2 H2 e σ _ hi h3 z2 (r.gr (g1.trans g2)) e3 fun ρ3 H3 g3 z3=>?_
 have r3:=rel.gr (K:=X.K) (g2.trans g3) _ _ r1
 have P3:=P.gr ((g1.trans g2).trans g3)
 cases x with
 | tup xs =>
  cases q
  rw [rel] at r3
  obtain ⟨a,vs,rfl,d1,d2⟩:=r3
  by_cases hw:HT.c8 vs.length 0 lo=0∧HT.c8 vs.length vs.length hi=vs.length
  · refine .inr (.inr ⟨a,vs,rfl,.of d1,hw,P3 _ ρ3 H3 (.refl _ _) z3 ?_⟩)
    have:dy xs lo hi=xs:=by
     unfold dy
     rw [d2.len,hw.1,hw.2,List.drop_zero,Nat.sub_zero,<- d2.len,List.take_length]
    rw [this,rel]
    exact ⟨a,vs,rfl,d1,d2⟩
  · exact .inr (.inl ⟨a,vs,rfl,.of d1,hw,fun p hp=>lP z3 (d2.cut lo hi) P3 p hp⟩)
 | ref n =>
  simp only [Ew] at q
  split at q
  · rename_i xs en
    cases q
    obtain ⟨a,vs,rfl,_,d1,d2⟩:=z3.sq en r3
    exact .inl ⟨a,vs,rfl,d1,fun p hp=>dX z3 (d2.cut lo hi) P3 p hp⟩
  · exact nomatch q
 | _=>exact nomatch q⟩⟩
noncomputable def bE:List PV->PH->RV PV:=fun xs h=>match xs with
 | [x]=>(match itemsOf h x with
  | some ys=> .ok (.int ys.length) h
  | none=>(match x with
   | .str z=>j2 z.length (.ok (.int z.length) h)
   | .ref n=>(match h[n]? with
    | some (.dct kvs)=> .ok (.int kvs.length) h
    | _=> .no)
   | _=> .no))
 | _=> .no
theorem bA {ρ :List Addr} {H:Hp} {x:PV} {us:List V} (r:au K ρ H [x] us): ∃ u,us=[u]∧rel K ρ H x u:=by
 obtain ⟨v,t,rfl,r1,r2⟩:=aD.mp r
 rw [aK] at r2
 exact ⟨v,by rw [r2],r1⟩
theorem jN {ρ :List Addr} {H:Hp} {x y:PV} {us:List V} (r:au K ρ H [x,y] us): ∃ u w,us=[u,w]∧rel K ρ H x u∧rel K ρ H y w:=by
 obtain ⟨v,t,rfl,r1,r2⟩:=aD.mp r
 obtain ⟨w,rfl,r3⟩:=bA r2
 exact ⟨v,w,rfl,r1,r3⟩
theorem Kd:c9 X pg k-> ∃ r,aW X (.builtin "len") r∧xI X.K r bE:=fun A=>⟨_,De.or xl,fun ρ h H xs us Q v h' s r q P=>by
 unfold bE at q
 split at q
 · rename_i x
   obtain ⟨u,rfl,r1⟩:=bA r;have r:=r1
   split at q
   · rename_i ys e
     cases q
     obtain ⟨a,vs,rfl,z,r2⟩:=s.items e r
     exact .inl (.inl ⟨a,vs,rfl,z,by rw [<- r2.len];exact P _ ρ H (.refl _ _) s (by rw [rel])⟩)
   · split at q
     · obtain ⟨hl,q⟩:=ji.mp q
       cases q
       rw [rel] at r
       subst r
       exact .inl (.inr ⟨_,rfl,hl,P _ ρ H (.refl _ _) s (by rw [rel])⟩)
     · split at q
       · rename_i e
         cases q
         rw [rel] at r
         obtain ⟨a,ea,rfl⟩:=r
         obtain ⟨kws,e1,e2⟩:=s.ob _ _ a e ea
         exact .inr ⟨a,kws,rfl,e1,by rw [<- RK.len e2];exact P _ ρ H (.refl _ _) s (by rw [rel])⟩
       · exact nomatch q
     · exact nomatch q
 · exact nomatch q⟩
inductive Ty where
 | non | bool | int | str | tuple | list | dict
 deriving DecidableEq
noncomputable def Ty.n:Ty->String
 | .non=> "NoneType" | .bool=> "bool" | .int=> "int" | .str=> "str" | .tuple=> "tuple" | .list=> "list" | .dict=> "dict"
noncomputable def Ty.of:String->Option Ty
 | "bool" =>some .bool | "int" =>some .int | "str" =>some .str | "tuple" =>some .tuple | "list" =>some .list | "dict" =>some .dict
 | _=>none
noncomputable def Ty.Kx (a b:Ty):Bool:=decide (a=b)||(decide (a= .bool)&&decide (b= .int))
noncomputable def tyP (h:PH):PV->Option Ty
 | .non=>some .non
 | .bl _=>some .bool
 | .int _=>some .int
 | .str _=>some .str
 | .tup _=>some .tuple
 | .ref n=>(match h[n]? with
  | some (.lst _)=>some .list
  | some (.dct _)=>some .dict
  | _=>none)
 | _=>none
theorem xP {ρ :List Addr} {h:PH} {H:Hp} {x:PV} {t:Ty} {v:V} (s:cW K ρ h H) (e:tyP h x=some t) (r:rel K ρ H x v):iR K H v (.type t.n):=by
 cases x with
 | non=>cases e;rw [rel] at r;subst r;exact .non
 | bl b=>cases e;rw [rel] at r;subst r;exact .bl b
 | int i=>cases e;rw [rel] at r;subst r;exact .int i
 | str z=>cases e;rw [rel] at r;subst r;exact .str z
 | tup xs=>cases e;rw [rel] at r;obtain ⟨a,vs,rfl,e1,_⟩:=r;exact .tup e1
 | ref n =>
  rw [rel] at r
  obtain ⟨a,ea,rfl⟩:=r
  simp only [tyP] at e
  split at e
  · rename_i en;cases e;obtain ⟨vs,e1,_⟩:=s.ob n _ a en ea;exact .lst e1
  · rename_i en;cases e;obtain ⟨vs,e1,_⟩:=s.ob n _ a en ea;exact .dK e1
  · exact nomatch e
 | _=>exact nomatch e
theorem zg (a b:Ty) (hb:b≠ .non):PySem.W.kitOne K (.type a.n) (.type b.n)=some (a.Kx b):=by
 cases b<;>first | (exact absurd rfl hb) | (cases a<;>rfl)
theorem Ty.J5 {T:String} {t:Ty} (h:Ty.of T=some t):T=t.n∧t≠ .non:=by
 unfold Ty.of at h
 split at h<;>first | (cases h;exact ⟨rfl,by decide⟩) | exact nomatch h
noncomputable def vG:List PV->Option (List Ty)
 | []=>some []
 | .ty T::r=>(match Ty.of T,vG r with
  | some t,some ts=>some (t::ts)
  | _,_=>none)
 | _=>none
noncomputable def dM:List PV->PH->RV PV:=fun xs h=>match xs with
 | [x,.ty T]=>(match tyP h x,Ty.of T with
  | some a,some b=> .ok (.bl (a.Kx b)) h
  | _,_=> .no)
 | [x,.tup ts]=>(match tyP h x,vG ts with
  | some a,some bs=> .ok (.bl (bs.any a.Kx)) h
  | _,_=> .no)
 | _=> .no
theorem vM {ρ :List Addr} {H:Hp}: ∀ {ts:List PV} {bs:List Ty} {vs:List V},vG ts=some bs->au K ρ H ts vs->vs=(bs.map Ty.n).map V.ty∧ ∀ b∈bs,b≠ .non
 | [],bs,vs,e,r=>by cases e;rw [aK] at r;subst r;exact ⟨rfl,fun _ m=>by cases m⟩
 | .ty T::t,bs,vs,e,r=>by
  simp only [vG] at e
  split at e
  · rename_i b bs' e1 e2
    cases e
    obtain ⟨v,w,rfl,r1,r2⟩:=aD.mp r
    obtain ⟨h1,h2⟩:=vM e2 r2
    rw [rel] at r1
    obtain ⟨n1,n2⟩:=Ty.J5 e1
    refine ⟨by rw [r1,h1,n1];rfl,fun c m=>?_⟩
    rcases List.mem_cons.mp m with rfl | m
    · exact n2
    · exact h2 c m
  · exact nomatch e
 | .non::_,_,_,e,_=>nomatch e
 | .bl _::_,_,_,e,_=>nomatch e
 | .int _::_,_,_,e,_=>nomatch e
 | .str _::_,_,_,e,_=>nomatch e
 | .tup _::_,_,_,e,_=>nomatch e
 | .ktup _::_,_,_,e,_=>nomatch e
 | .ref _::_,_,_,e,_=>nomatch e
theorem vA (a:Ty): ∀ (bs:List Ty),(∀ b∈bs,b≠ .non)->PySem.W.kitAny K (.type a.n) ((bs.map Ty.n).map Value.type)=some (bs.any a.Kx)
 | [],_=>rfl
 | b::r,h=>by
  have h1:=zg (K:=K) a b (h b List.mem_cons_self)
  have h2:=vA a r fun c m=>h c (List.mem_cons_of_mem _ m)
  simp only [List.map_cons,List.any_cons,PySem.W.kitAny,h1,h2]
  cases a.Kx b<;>rfl
theorem L6:c9 X pg k-> ∃ r,aW X (.builtin "isinstance") r∧xI X.K r dM:=fun A=>⟨_,yk,fun ρ h H xs us Q v h' s r q P=>by
 unfold dM at q
 split at q
 · rename_i x T
   split at q
   · rename_i a b e1 e2
     cases q
     obtain ⟨u,w,rfl,r1,r2⟩:=jN r
     rw [rel] at r2;subst r2
     obtain ⟨n1,n2⟩:=Ty.J5 e2
     exact .inl ⟨u,T,_,_,rfl,xP s e1 r1,by rw [n1];exact zg a b n2,P _ ρ H (.refl _ _) s (by rw [rel])⟩
   · exact nomatch q
 · rename_i x ts
   split at q
   · rename_i a bs e1 e2
     cases q
     obtain ⟨u,w,rfl,r1,r2⟩:=jN r
     rw [rel] at r2
     obtain ⟨p,vs,rfl,e3,e4⟩:=r2
     obtain ⟨h1,h2⟩:=vM e2 e4
     subst h1
     exact .inr ⟨u,p,_,_,_,rfl,e3,xP s e1 r1,vA a bs h2,P _ ρ H (.refl _ _) s (by rw [rel])⟩
   · exact nomatch q
 · exact nomatch q⟩
noncomputable def yA:List PV->PH->RV PV:=fun xs h=>match xs with
 | [.int i]=> .ok (.int i) h
 | [.bl b]=> .ok (.int (if b then 1 else 0)) h
 | _=> .no
theorem Lz:c9 X pg k-> ∃ r,aW X (.type "int") r∧xI X.K r yA:=fun A=>⟨_,Cy,fun ρ h H xs us Q v h' s r q P=>by
 unfold yA at q
 split at q
 · cases q;obtain ⟨u,rfl,r1⟩:=bA r;have r:=r1;rw [rel] at r;subst r;exact .inl ⟨_,rfl,P _ ρ H (.refl _ _) s (by rw [rel])⟩
 · cases q;obtain ⟨u,rfl,r1⟩:=bA r;have r:=r1;rw [rel] at r;subst r;exact .inr ⟨_,rfl,P _ ρ H (.refl _ _) s (by rw [rel])⟩
 · exact nomatch q⟩
noncomputable def aJ:List PV->PH->RV PV:=fun xs h=>match xs with
 | [.tup ys]=> .ok (.tup ys) h
 | [.ref n]=>(match cQ h n with
  | some ys=> .ok (.tup ys) h
  | none=> .no)
 | _=> .no
theorem DG:c9 X pg k-> ∃ r,aW X (.type "tuple") r∧xI X.K r aJ:=fun A=>⟨_,Dm,fun ρ h H xs us Q v h' s r q P=>by
 unfold aJ at q
 split at q
 · rename_i ys
   cases q
   obtain ⟨u,rfl,r1⟩:=bA r;have r:=r1
   have r':=r
   rw [rel] at r
   obtain ⟨a,vs,rfl,e1,e2⟩:=r
   exact ⟨a,vs,rfl,.inr ⟨.of e1,P _ ρ H (.refl _ _) s r'⟩⟩
 · split at q
   · rename_i ys e
     cases q
     obtain ⟨u,rfl,r1⟩:=bA r;have r:=r1
     obtain ⟨a,vs,rfl,_,e1,e2⟩:=s.sq e r
     exact ⟨a,vs,rfl,.inl ⟨e1,fun p hp=>lP s e2 P p hp⟩⟩
   · exact nomatch q
 · exact nomatch q⟩
noncomputable def oQ:List PV->PH->RV PV:=fun xs h=>match xs with
 | [x]=>(match itemsOf h x with
  | some ys=> .ok (.ref h.length) (h++[.lst ys])
  | none=> .no)
 | _=> .no
theorem FC:c9 X pg k-> ∃ r,aW X (.type "list") r∧xI X.K r oQ:=fun A=>⟨_,qC,fun ρ h H xs us Q v h' s r q P=>by
 unfold oQ at q
 split at q
 · split at q
   · rename_i ys e
     cases q
     obtain ⟨u,rfl,r1⟩:=bA r;have r:=r1
     obtain ⟨a,vs,rfl,z,r2⟩:=s.items e r
     exact ⟨a,vs,rfl,z,fun p hp=>dX s r2 P p hp⟩
   · exact nomatch q
 · exact nomatch q⟩
noncomputable def tX:List PV->Option (List Bool)
 | []=>some []
 | .bl b::r=>(tX r).map (b:: ·)
 | _=>none
theorem vT: ∀ {xs:List PV} {bs:List Bool},tX xs=some bs->xs=bs.map PV.bl
 | [],bs,e=>by cases e;rfl
 | .bl b::r,bs,e=>by
  rw [tX] at e
  cases q:tX r with
  | none=>rw [q] at e;exact nomatch e
  | some cs=>rw [q] at e;cases e;rw [vT q];rfl
 | .non::_,_,e=>nomatch e
 | .int _::_,_,e=>nomatch e
 | .str _::_,_,e=>nomatch e
 | .tup _::_,_,e=>nomatch e
 | .ktup _::_,_,e=>nomatch e
 | .ref _::_,_,e=>nomatch e
 | .ty _::_,_,e=>nomatch e
theorem vo {ρ :List Addr} {H:Hp}: ∀ {bs:List Bool} {vs:List V},au K ρ H (bs.map PV.bl) vs->vs=bs.map V.bl
 | [],vs,r=>aK.mp r
 | b::t,vs,r=>by
  obtain ⟨v,w,rfl,r1,r2⟩:=aD.mp r
  rw [rel] at r1
  rw [r1,vo r2];rfl
noncomputable def vC {α :Type} (g:List PV->Option (List α)) (f:List α ->PV):List PV->PH->RV PV:=fun xs h=>match xs with
 | [.ref n]=>(match cQ h n with
  | some ys=>(match g ys with
   | some bs=> .ok (f bs) h
   | none=> .no)
  | none=> .no)
 | _=> .no
theorem AI {α :Type} {g:List PV->Option (List α)} {f:List α ->PV} {xs:List PV} {h h':PH} {v:PV} (q:vC g f xs h= .ok v h'): ∃ n ys bs,xs=[.ref n]∧cQ h n=some ys∧g ys=some bs∧v=f bs∧h'=h:=by
 unfold vC at q
 split at q
 · split at q
   · split at q
     · cases q;exact ⟨_,_,_,rfl,by assumption,by assumption,rfl,rfl⟩
     · exact nomatch q
   · exact nomatch q
 · exact nomatch q
noncomputable def Cn:=vC tX fun bs=> .bl (bs.all id)
theorem Ke:c9 X pg k-> ∃ r,aW X (.builtin "all") r∧xI X.K r Cn:=fun A=>⟨_,BJ A.calm,fun ρ h H xs us Q v h' s r q P=>by
 obtain ⟨n,ys,bs,rfl,e1,e2,rfl,rfl⟩:=AI q
 obtain ⟨u,rfl,r1⟩:=bA r;have r:=r1
 obtain ⟨a,vs,rfl,_,z,r2⟩:=s.sq e1 r
 rw [vT e2] at r2
 exact ⟨a,bs,rfl,by rw [vo r2] at z;exact z,P _ ρ H (.refl _ _) s (by rw [rel])⟩⟩
noncomputable def cC:PV->PH->Bool:=fun x h=>match x with
 | .ref n=>(match h[n]? with
  | some (.lst _)=>true
  | _=>false)
 | _=>false
theorem mn {ρ :List Addr} {h:PH} {H:Hp} {x:PV} {v:V} (s:cW K ρ h H) (r:rel K ρ H x v) (e:cC x h=true):Lw K "list" v H:=by
 cases x with
 | ref n =>
  simp only [cC] at e
  split at e
  · rename_i en
    obtain ⟨a,vs,rfl,_,e1,_⟩:=s.lst en r
    exact .inl ⟨rfl,vs,.of e1⟩
  · exact nomatch e
 | _=>exact nomatch e
noncomputable def bT:PV->List PV->PH->RV PV:=fun x vs h=>match x,vs with
 | .ref n,[v]=>(match h[n]? with
  | some (.lst xs)=>if xs.length < sizeLine then .ok .non (h.set n (.lst (xs++[v]))) else .no
  | _=> .no)
 | _,_=> .no
theorem AX:c9 X pg k-> ∃ r,DI X "list.append" r∧Kj X.K "list" r bT cC:=fun A=>⟨_,wK,fun ρ h H x x' s r e=>mn s r e,fun ρ h H x x' xs us Q v h' s rx rs q P=>by
 unfold bT at q
 split at q
 · rename_i n y
   split at q
   · rename_i ys en
     split at q
     · rename_i hl
       cases q
       obtain ⟨a,vs,rfl,ea,e1,e2⟩:=s.lst en rx
       obtain ⟨u,rfl,r⟩:=bA rs
       have g:Gr ρ H ρ (upd H a (.lst (vs++[u]))):=Gr.write (.inl ⟨_,e1⟩)
       exact ⟨a,vs,u,rfl,rfl,e1,by rw [<- e2.len];exact hl,P _ ρ _ g (s.write en ea rfl rfl ⟨_,aY,au.gr g _ _ (e2.app (au.one r))⟩) (by rw [rel])⟩
     · exact nomatch q
   · exact nomatch q
 · exact nomatch q⟩
end
end P3
end
section
open PySem PySem.W PyProof.Rows
namespace P3
open PySem PySem.Spec PyProof.Rows L2
section
variable {K:PySem.W.Frag} {X:Cx} {pg:Tb} {k:Nat} {tg l:Expr}
theorem pS {pins:List (Addr × Obj)} {σ :L2.St} {H:Hp} {s:Shared} (I:Inv X pins σ H s): ∀ b∈[s.heap.objs.size],lx X pins H b:=fun b hb=>by
 have e:b=s.heap.objs.size:=by simpa using hb
 subst e
 exact I.Fn (Nat.le_refl _) (I.bz.fresh (Nat.le_refl _))
theorem AV {pins:List (Addr × Obj)} {σ :L2.St} {H:Hp} {s:Shared} {R:It->Hp->Prop} {a:Addr} {xs:List V} (I:Inv X pins σ H s) (hq:gm X.K H a xs) (q:R (ND X.K a) H):wpAny (model X.prog X.w) X.A (pyIter (.ref a)) (Lj X pins σ tg R) X.xe s:=by
 obtain ⟨aw,rv,p,hz⟩:=I.list hq
 exact wpAny_pyIter_list p.isList ⟨s.heap.objs.size,[s.heap.objs.size],_,_,H,rfl,I.kept (t':=s.toks) (fun b o e=>Heap.get?_push_of_some _ e),wz a _,⟨_,Heap.get?_push_size _ rfl,rfl,rfl⟩,pS I,q⟩
theorem AO {pins:List (Addr × Obj)} {σ :L2.St} {H:Hp} {s:Shared} {R:It->Hp->Prop} {a:Addr} {xs:List V} (I:Inv X pins σ H s) (hq:fJ X.K H a xs) (q:R (Mj X.K a) H):wpAny (model X.prog X.w) X.A (pyIter (.ref a)) (Lj X pins σ tg R) X.xe s:=by
 obtain ⟨aw,rv,p,hz⟩:=I.tuple hq
 exact wpAny_pyIter_tuple (show s.heap.IsTuple a aw.toArray from p) ⟨s.heap.objs.size,[s.heap.objs.size],_,_,H,rfl,I.kept (t':=s.toks) (fun b o e=>Heap.get?_push_of_some _ e),tR a _,⟨_,Heap.get?_push_size _ rfl,rfl,rfl⟩,pS I,q⟩
theorem Ap {pins:List (Addr × Obj)} {σ :L2.St} {H:Hp} {s:Shared} {R:It->Hp->Prop} {z:Str} {t:Tok} (I:Inv X pins σ H s) (q:R (Ms z) H):wpAny (model X.prog X.w) X.A (pyIter (.str z t)) (Lj X pins σ tg R) X.xe s:=by
 cases ha:z.cps.all (· < 128)
 · exact wpAny_pyIter_wide ha ⟨s.heap.objs.size,[s.heap.objs.size],_,_,H,rfl,I.kept (t':=s.toks) (fun b o e=>Heap.get?_push_of_some _ e),rU z t _ (by decide) (fun A' hA=>Walks.strWide hA _ z t) (fun _ _ _ _ _ st h=>wpAny_pyIter_striter_wide st h),⟨_,Heap.get?_push_size _ rfl,rfl,rfl⟩,pS I,q⟩
 · exact wpAny_pyIter_ascii ha ⟨s.heap.objs.size,[s.heap.objs.size],_,_,H,rfl,I.kept (t':=s.toks) (fun b o e=>Heap.get?_push_of_some _ e),rU z t _ (by decide) (fun A' hA=>Walks.strAscii hA _ z t) (fun _ _ _ _ _ st h=>wpAny_pyIter_striter_ascii st h),⟨_,Heap.get?_push_size _ rfl,rfl,rfl⟩,pS I,q⟩
noncomputable def J2 (K:PySem.W.Frag) (tl:TE):TI:=fun σ H R=>tl σ H fun x H1=>(∃ a xs,x= .ref a∧gm K H1 a xs∧R (ND K a) H1)∨(∃ a xs,x= .ref a∧fJ K H1 a xs∧R (Mj K a) H1)∨ ∃ z,x= .str z∧R (Ms z) H1
theorem E8 {tl:TE} (hl:PE X l tl):PI X tg l (J2 X.K tl):=by
 intro pins s σ H R I h
 refine cL (hl pins s σ H _ I h) fun v s1 ⟨x,H1,I1,r1,q1⟩=>?_
 rcases q1 with ⟨a,xs,rfl,hq,q⟩ | ⟨a,xs,rfl,hq,q⟩ | ⟨z,rfl,q⟩
 · cases r1;exact AV I1 hq q
 · cases r1;exact AO I1 hq q
 · obtain ⟨t,rfl⟩:=r1;exact Ap I1 q
noncomputable def vY (x:PV) (h:PH):RV gR:=match x with
 | .tup xs=> .ok ⟨none,xs⟩ h
 | .ktup xs=> .ok ⟨none,xs⟩ h
 | .str z=> .ok ⟨none,z.cps.toList.map fun c=> .str ⟨#[c]⟩⟩ h
 | .ref n=>(match cQ h n with
  | some xs=> .ok ⟨some n,xs⟩ h
  | none=> .no)
 | _=> .no
noncomputable def iE (a:ME):MI:=fun c e h=>(a c e h).bind vY
end
section
variable {X:Cx} {pg:Tb} {k:Nat} {tg l:Expr} {ma:ME} {ta:TE}
theorem Gw {c:CF} {K:PySem.W.Frag} (s1:SE c K ta ma):SI c K (J2 K ta) (iE ma):=fun ρ h H e σ R it h' s r q P=>by
 obtain ⟨x,h1,e1,q⟩:=bind_eq.mp q
 refine s1 ρ h H e σ _ x h1 s r e1 fun x' ρ1 H1 g1 z1 r1=>?_
 have tupc: ∀ (xs:List PV),x.seq?=some xs->it=⟨none,xs⟩->h'=h1->(∃ a xs,x'= .ref a∧fJ K H1 a xs∧R (Mj K a) H1):=fun xs ex ei eh=>by
  subst ei eh
  obtain ⟨a,vs,rfl,zz,rr⟩:=rel.seq ex r1
  refine ⟨a,vs,rfl,zz,P ρ1 H1 _ g1 z1 fun i ρ2 h2 H2 g s _=>?_⟩
  have z2:=g.E5 zz
  have r2:=au.gr g _ _ rr
  refine ⟨fun y e=>?_,fun e=>⟨vs,z2,by rw [e,<- rr.len];exact Nat.le_refl _⟩⟩
  obtain ⟨v,d1,d2⟩:=r2.get e
  refine ⟨⟨vs,v,z2,d1⟩,?_⟩
  rintro w H' ⟨rfl,hw⟩
  have:=hw vs z2
  rw [d1] at this
  cases this
  exact ⟨ρ2,.refl _ _,s,d2⟩
 cases x with
 | tup xs=>cases q;exact .inr (.inl (tupc xs rfl rfl rfl))
 | ktup xs=>cases q;exact .inr (.inl (tupc xs rfl rfl rfl))
 | str z =>
  cases q
  rw [rel] at r1
  refine .inr (.inr ⟨z,r1,P ρ1 H1 _ g1 z1 fun i ρ2 h2 H2 g s _=>⟨fun y e=>?_,fun e=>by show i=z.cps.size;simpa using e⟩⟩)
  rw [List.getElem?_map] at e
  cases q:z.cps.toList[i]? with
  | none=>rw [q] at e;exact nomatch e
  | some c =>
   rw [q] at e
   cases e
   have hc:z.cps[i]?=some c:=by simpa using q
   refine ⟨(Array.getElem?_eq_some_iff.mp hc).1,?_⟩
   rintro v H' ⟨rfl,c',e1,rfl⟩
   rw [hc] at e1
   cases e1
   exact ⟨ρ2,.refl _ _,s,by rw [rel]⟩
 | ref n =>
  simp only [vY] at q
  split at q
  · rename_i xs en
    cases q
    obtain ⟨a,vs,rfl,ea,zz,rr⟩:=z1.sq en r1
    refine .inl ⟨a,vs,rfl,zz,P ρ1 H1 _ g1 z1 fun i ρ2 h2 H2 g s hf=>?_⟩
    have ea2:=g.pre _ _ ea
    have hl:cQ h2 n=some xs:=by
     have:h2[n]?=some (.lst xs)∨h2[n]?=some (.j4 xs):=by simpa [gR.eX] using hf
     unfold cQ
     rcases this with q | q<;>rw [q]
    obtain ⟨a',vs2,e3,e4,z2,r2⟩:=s.sq hl (show rel K ρ2 H2 (.ref n) (.ref a) by rw [rel];exact ⟨a,ea2,rfl⟩)
    cases e3
    refine ⟨fun y e=>?_,fun e=>⟨vs2,z2,by rw [e,<- r2.len];exact Nat.le_refl _⟩⟩
    obtain ⟨v,d1,d2⟩:=r2.get e
    refine ⟨⟨vs2,v,z2,d1⟩,?_⟩
    rintro w H' ⟨rfl,hw⟩
    have:=hw vs2 z2
    rw [d1] at this
    cases this
    exact ⟨ρ2,.refl _ _,s,d2⟩
  · exact nomatch q
 | _=>exact nomatch q
theorem F0 (ha:JE X pg k l ma):JI X pg k tg l (iE ma):=⟨fun A=>let ⟨_,q1,s1⟩:=ha.h A;⟨_,⟨E8 q1.h⟩,Gw s1⟩⟩
noncomputable def bF (lo:Int) (n:Nat):List PV:=(List.range n).map fun (i:Nat)=>PV.int (lo+(i:Int))
noncomputable def df (r:MA):MI:=fun c e h=>(r c e h).bind fun vs h1=>match vs with
 | [.int j]=>if -(2 ^ 62)<=j∧j < 2 ^ 62 then .ok ⟨none,bF 0 j.toNat⟩ h1 else .no
 | _=> .no
theorem wF {K:PySem.W.Frag} {ρ :List Addr} {H:Hp} (lo:Int) (n:Nat):NU K ρ H (Mf lo n) ⟨none,bF lo n⟩:=fun i ρ1 h1 H1 g s _=>by
 refine ⟨fun y e=>?_,fun e=>by show n<=i;rw [e];simp [bF]⟩
 unfold bF at e
 rw [List.getElem?_map] at e
 rcases Nat.lt_or_ge i n with z | z
 · rw [List.getElem?_range z] at e
   cases e
   exact ⟨z,fun v H' ⟨e1,e2⟩=>by subst e1;subst e2;exact ⟨ρ1,.refl _ _,s,by rw [rel]⟩⟩
 · rw [List.getElem?_eq_none (by simpa using z)] at e
   exact nomatch e
variable {a b:Expr} {p pos:Pos} {mr:MA}
theorem wL (hg:Gl X "range") (ha:JA X pg k [a] mr) (hs:starEach [a] X.env=[(false,eval a X.env)]:=by rfl):JI X pg k tg (.Call (.Name "range" p) [a] [] pos) (df mr):=⟨fun A =>
 let ⟨_,q1,s1⟩:=ha.h A;⟨_,⟨wy hg (A.blt _ (by decide)) q1.h hs⟩,fun ρ h H e σ R it h' s r q P=>by
 obtain ⟨vs,h1,e1,q⟩:=bind_eq.mp q
 refine s1 ρ h H e σ _ vs h1 s r e1 fun us ρ1 H1 g1 z1 r1=>?_
 split at q
 · rename_i j
   split at q
   · rename_i hj
     cases q
     obtain ⟨u,rfl,r2⟩:=bA r1
     rw [rel] at r2
     subst r2
     exact ⟨j,rfl,hj.1,hj.2,P ρ1 H1 _ g1 z1 (wF 0 _)⟩
   · exact nomatch q
 · exact nomatch q⟩⟩
abbrev MP:=CF->ax->PH->RV (List (Key × PV))
noncomputable def xi:MP:=fun _ _ h=> .ok [] h
noncomputable def eV (a b:ME) (r:MP):MP:=fun c e h=>(a c e h).bind fun x h1=>match gp x with
 | some key=>(b c e h1).bind fun v h2=>(r c e h2).bind fun kvs h3=> .ok ((key,v)::kvs) h3
 | none=> .no
noncomputable def bJ (kvs more:List (Key × PV)):List (Key × PV):=more.foldl (fun acc kv=>er acc kv.1 kv.2) kvs
noncomputable def pO (r:MP):ME:=fun c e h=>(r c e (h++[.dct []])).bind fun kvs h1=>if h1[h.length]?=some (.dct [])∧kvs.length<=15 then .ok (.ref h.length) (h1.set h.length (.dct (bJ [] kvs))) else .no
structure JP (X:Cx) (pg:Tb) (k:Nat) (pos:Pos) (ks:List (Option Expr)) (vs:List Expr) (m:MP):Prop where
 h:c9 X pg k-> ∃ t,QP X pos ks vs t∧ ∀ ρ h H e σ Q kvs h',cW X.K ρ h H->dJ X.K ρ H e σ ->m (run pg k) e h= .ok kvs h'->(∀ kws ρ' H',Gr ρ H ρ' H'->cW X.K ρ' h' H'->RK X.K ρ' H' kvs kws->Q (kws.map fun kv=>(kV kv.1,kv.2)) H')->kK t σ H Q
theorem F9:JP X pg k pos [] [] xi:=⟨fun A=>⟨_,BP,fun ρ h H e σ Q kvs h' s r q P=>by cases q;exact P [] ρ H (.refl _ _) s .nil⟩⟩
theorem DF {kk v:Expr} {ks:List (Option Expr)} {vs:List Expr} {mk mv:ME} {mp:MP} (hk:JE X pg k kk mk) (hv:JE X pg k v mv) (hr:JP X pg k pos ks vs mp):JP X pg k pos (some kk::ks) (v::vs) (eV mk mv mp):=⟨fun A =>
 let ⟨_,q1,s1⟩:=hk.h A;let ⟨_,q2,s2⟩:=hv.h A;let ⟨_,q3,s3⟩:=hr.h A;⟨_,yb q1 q2 q3,fun ρ h H e σ Q kvs h' s r q P=>by
 obtain ⟨x,h1,e1,q⟩:=bind_eq.mp q
 refine s1 ρ h H e σ _ x h1 s r e1 fun x' ρ1 H1 g1 z1 r1=>?_
 split at q
 · rename_i key ek
   obtain ⟨v,h2,e2,q⟩:=bind_eq.mp q
   obtain ⟨kvs',h3,e3,q⟩:=bind_eq.mp q
   cases q
   refine s2 ρ1 h1 H1 e σ _ v h2 z1 (r.gr g1) e2 fun v' ρ2 H2 g2 z2 r2=>?_
   refine s3 ρ2 h2 H2 e σ _ kvs' _ z2 (r.gr (g1.trans g2)) e3 fun kws ρ3 H3 g3 z3 r3=>?_
   have:=P ((key,v')::kws) ρ3 H3 ((g1.trans g2).trans g3) z3 (.cons ⟨rfl,rel.gr g3 _ _ r2⟩ r3)
   rw [eZ ek r1]
   exact this
 · exact nomatch q⟩⟩
theorem RK.merge {K:PySem.W.Frag} {ρ :List Addr} {H:Hp}: ∀ {more:List (Key × PV)} {mw:List (Key × V)} {kvs:List (Key × PV)} {kws:List (Key × V)},RK K ρ H more mw->RK K ρ H kvs kws->RK K ρ H (bJ kvs more) (cA kws mw)
 | _,_,_,_,.nil,r=>r
 | _,_,_,_,.cons (a:=p) (b:=q) a t,r=>by
  show RK K ρ H (bJ (er _ p.1 p.2) _) (cA (putK _ q.1 q.2) _)
  refine RK.merge t ?_
  rw [<- a.1]
  exact RK.put r a.2
theorem Ce {ks:List (Option Expr)} {vs:List Expr} {mp:MP} (h:JP X pg k pos ks vs mp) (hall:ks.all (·.isSome)=true) (hl:ks.length=vs.length) (h0:ks≠[]) (h15:ks.length<=15):JE X pg k (.Dict ks vs pos) (pO mp):=⟨fun A =>
 let ⟨_,q1,s1⟩:=h.h A;⟨_,Dy q1 hall hl h0 h15,fun ρ h H e σ Q v h' s r q P p hp=>by
 obtain ⟨kvs,h1,e1,q⟩:=bind_eq.mp q
 split at q
 · rename_i hc
   cases q
   have g0:Gr ρ H (ρ ++[p]) (upd H p (.dK [])):=Gr.new hp [p]
   have s0:cW X.K (ρ ++[p]) (h++[.dct []]) (upd H p (.dK [])):=s.new hp ⟨[],aY,.nil⟩
   refine s1 (ρ ++[p]) _ _ e σ _ kvs h1 s0 (r.gr g0) e1 fun kws ρ1 H1 g1 z1 r1=>?_
   have ep:(ρ ++[p])[h.length]?=some p:=by rw [<- s.len,List.getElem?_append_right (Nat.le_refl _)];simp
   have ep1:=g1.pre _ _ ep
   obtain ⟨kw0,e2,e3⟩:=z1.ob h.length _ p hc.1 ep1
   cases e3
   refine ⟨e2,kws,rfl,by rw [<- RK.len r1];exact hc.2,?_⟩
   have gw:Gr ρ1 H1 ρ1 (upd H1 p (.dK (cA [] kws))):=Gr.write (.inr ⟨_,e2⟩)
   refine P _ ρ1 _ ((g0.trans g1).trans gw) (z1.write hc.1 ep1 rfl rfl ⟨_,aY,RK.merge (Paired.eP gw r1) .nil⟩) ?_
   rw [rel]
   exact ⟨p,ep1,rfl⟩
 · exact nomatch q⟩⟩
noncomputable def m6:ME:=fun _ _ h=> .ok (.ref h.length) (h++[.dct []])
theorem AF:JE X pg k (.Dict [] [] pos) m6:=⟨fun A=>⟨_,Aa,fun ρ h H e σ Q v h' s r q P p hp=>by
 cases q
 refine P _ (ρ ++[p]) _ (Gr.new hp [p]) (s.new hp ⟨[],aY,.nil⟩) ?_
 rw [rel]
 exact ⟨p,by rw [<- s.len,List.getElem?_append_right (Nat.le_refl _)];simp,rfl⟩⟩⟩
noncomputable def y6 (kvs:List (Key × PV)) (a:ME):ME:=fun c e h=>(a c e h).bind fun x h1=>match gp x with
 | some key=>(match bo kvs key with
  | some v=> .ok v h1
  | none=> .no)
 | none=> .no
variable {x:Str} {kvs:List (Key × PV)} {i:Expr} {mi:ME} {pos':Pos}
theorem DH (hd:pg.xD x=some kvs) (hg:Gl X x) (hi:JE X pg k i mi) (hs:CG i) (hdb:(x == ("__debug__" :Str))=false:=by decide):JE X pg k (.Subscript (.Name x pos') i pos) (y6 kvs mi):=⟨fun A =>
 let ⟨a,kws,e1,e2,e3⟩:=A.xD x kvs hd;let ⟨_,q1,s1⟩:=hi.h A;⟨_,Cp e2 (Cg hg e1 hdb) q1 hs,fun ρ h H e σ Q v h' s r q P=>by
 obtain ⟨y,h1,d1,q⟩:=bind_eq.mp q
 refine s1 ρ h H e σ _ y h1 s r d1 fun y' ρ1 H1 g1 z1 r1=>?_
 split at q
 · rename_i key ek
   split at q
   · rename_i w ew
     cases q
     obtain ⟨u,f1,f2⟩:=RK.some (e3 ρ1 H1) ew
     exact ⟨key,u,eZ ek r1,f1,P _ ρ1 H1 g1 z1 f2⟩
   · exact nomatch q
 · exact nomatch q⟩⟩
noncomputable def uT (d a b:ME):ME:=fun c e h=>(d c e h).bind fun x h1=>if gh h1 x=true then (a c e h1).bind (fun y h2=>(b c e h2).bind fun z h3=>match x,gp y with
 | .ref n,some key=>(match h3[n]? with
  | some (.dct kvs)=> .ok ((bo kvs key).getD z) h3
  | _=> .no)
 | _,_=> .no) else .no
theorem C0 {o e f:Expr} {md me mf:ME} {apos cpos:Pos} (ho:JE X pg k o md) (he:JE X pg k e me) (hf:JE X pg k f mf) (m:M2 X o "get" apos e f cpos):JE X pg k (.Call (.Attribute o "get" apos) [e,f] [] cpos) (uT md me mf):=⟨fun A =>
 let ⟨_,q1,s1⟩:=ho.h A;let ⟨_,q2,s2⟩:=he.h A;let ⟨_,q3,s3⟩:=hf.h A;⟨_,xS A.hu q1 q2 q3 m,fun ρ h H e σ Q v h' s r q P=>by
 obtain ⟨x,h1,e1,q⟩:=bind_eq.mp q
 refine s1 ρ h H e σ _ x h1 s r e1 fun x' ρ1 H1 g1 z1 r1=>?_
 split at q
 · rename_i hd
   obtain ⟨y,h2,e2,q⟩:=bind_eq.mp q
   obtain ⟨z,h3,e3,q⟩:=bind_eq.mp q
   cases x with
   | ref n =>
    rw [rel] at r1
    obtain ⟨a,ea,rfl⟩:=r1
    refine ⟨a,rfl,?_,?_⟩
    · simp only [gh] at hd
      split at hd
      · rename_i kvs0 en
        obtain ⟨kws,d1,_⟩:=z1.ob n _ a en ea
        exact .inl ⟨kws,.inl d1⟩
      · exact nomatch hd
    refine s2 ρ1 h1 H1 e σ _ y h2 z1 (r.gr g1) e2 fun y' ρ2 H2 g2 z2 r2=>?_
    refine s3 ρ2 h2 H2 e σ _ z h3 z2 (r.gr (g1.trans g2)) e3 fun z' ρ3 H3 g3 z3 r3=>?_
    cases ek:gp y with
    | none=>simp only [ek] at q;exact nomatch q
    | some key =>
     simp only [ek] at q
     split at q
     · rename_i kvs en
       cases q
       obtain ⟨kws,d1,d2⟩:=z3.ob n _ a en (g3.pre _ _ (g2.pre _ _ ea))
       have:=eZ ek r2
       subst this
       refine ⟨_,iO.k (k:=key) d1,P _ ρ3 H3 ((g1.trans g2).trans g3) z3 ?_⟩
       have:=RK.val key d2
       cases p1:bo kvs key<;>cases p2:fZ kws key<;>rw [p1,p2] at this<;>first | exact r3 | exact this | exact False.elim this
     · exact nomatch q
   | _=>exact nomatch hd
 · exact nomatch q⟩⟩
end
end P3
end
section
open PySem PySem.W PyProof.Rows
namespace P3
open PySem PySem.Spec PyProof.Rows L2
section
variable {K:PySem.W.Frag} {X:Cx} {pg:Tb} {k:Nat}
noncomputable def pairP?:PV->Option (Key × PV)
 | .tup [a,v]=>(gp a).map fun k=>(k,v)
 | _=>none
noncomputable def hV:List PV->Option (List (Key × PV))
 | []=>some []
 | x::r=>(match pairP? x,hV r with
  | some p,some ps=>some (p::ps)
  | _,_=>none)
section
variable {prog:Program} {w:World} {A:Around} {E:Value->Shared->Prop} {s:Shared}
theorem nu {p:Addr} {kvs:List (Key × Value)} {R:Value->Shared->Prop} (hS:(p == sysModules)=false) (hp:s.heap.DictOf (aI prog w) p kvs) (hz:kvs.length<=sizeLine)
  (q: ∀ g:Heap,g.DictOf (aI prog w) s.heap.objs.size (merged [] kvs)->(∀ b o,s.heap.get? b=some o->g.get? b=some o)->R (.ref s.heap.objs.size) { s with heap:=g }) :
  wpAny (model prog w) A (call (.type "dict") [.ref p]) R E s:=by
 let g0:=s.heap.push { cls:= .type "dict",data:= .dict #[] }
 have up: ∀ b o,s.heap.get? b=some o->g0.get? b=some o:=fun b o e=>Heap.get?_push_of_some _ e
 have dn:g0.DictOf (aI prog w) s.heap.objs.size []:=Heap.DictOf.new s.heap
 have dp:g0.DictOf (aI prog w) p kvs:=hp.at fun o e=>up p o e
 have ne:s.heap.objs.size≠p:=fun e=>by
  obtain ⟨o,_,_,ho,_⟩:=hp
  exact absurd (Heap.lt_size ho) (by rw [e];exact Nat.lt_irrefl _)
 refine callType_codes (Q₁ :=fun z u=>z= .ref s.heap.objs.size∧u={ s with heap:=g0 }) F.kt_called_dict (F.kt_typeCall_dict_1 _) F.entry_dict_init (kt_code_dict_new _ ⟨rfl,rfl⟩) ?_
 rintro obj s1 ⟨rfl,rfl⟩
 refine ⟨dn.typeIs,F.args_dict_init_2 _ _,?_⟩
 with_unfolding_all refine wpAny_bind (m:=Builtin.Dict.selfAndRest _ _) (wpAny_bind (wpAny_notOrdered_dict dn.typeIs (wpAny_pure ?_)))
 show wpAny _ _ (Builtin.Dict.updateFrom "dict.__init__" s.heap.objs.size (.ref p) [] .none) _ _ _
 unfold Builtin.Dict.updateFrom Builtin.Dict.merge Builtin.Dict.readDirectly
 refine wpAny_bind (wpAny_typeOf dp.typeIs ?_)
 rw [if_neg (by decide)]
 refine wpAny_bind (wpAny_bind (wpAny_bind (wpAny_isInstance dp.typeIs isSubtype_dict_dict ?_)))
 simp only [if_false,Bool.not_true,Bool.false_eq_true]
 refine wpAny_bind (wpAny_specialOf dp.typeIs F.slot_dict_iter.lookup (wpAny_pure ?_))
 simp only [if_true,beq_self_eq_true]
 refine wpAny_bind (wpAny_pure (wpAny_mergeDict (hsz:=by simpa using hz) ne hS dn dp fun g dg _ sb=>?_))
 show wpAny _ _ (Builtin.Dict.addKeywords s.heap.objs.size [] >>= _) _ _ { s with heap:=g }
 exact wpAny_bind (wpAny_pure (wpAny_pure ⟨rfl,q g dg fun b o e=>(sb.2 b (Nat.ne_of_lt (Heap.lt_size e))).trans (up b o e)⟩))
end
noncomputable def IG:List V->Hp->VK->Prop:=fun xs H Q=> ∃ p kvs,xs=[.ref p]∧H p=some (.dK kvs)∧kvs.length<=sizeLine∧ ∀ d,H d=none->Q (.ref d) (upd H d (.dK (cA [] kvs)))
theorem tF:aW X (.type "dict") IG:=by
 intro pins s σ H xs us Q I r h
 obtain ⟨p,kvs,rfl,hp,hz,q⟩:=h
 obtain ⟨u,rfl,ru⟩:=vals1 r
 cases (show u=Value.ref p from ru)
 obtain ⟨z1,n1,vs,r1,d1⟩:=mD I.bz hp
 refine nu n1 d1 (by rw [<- r1.length];exact z1) fun g dd keep=>?_
 have hle:(cA [] kvs).length<=sizeLine:=by have:=cX kvs [];simp at this;omega
 obtain ⟨hn,I'⟩:=I.kD (a:=s.heap.objs.size) (o:= .dK (cA [] kvs)) (t':=s.toks) keep (Heap.get?_none_of_le (Nat.le_refl _)) (mQ hle (beq_eq_false_iff_ne.mpr (Ne.symm (Nat.ne_of_lt I.big))) (KV.sL r1) dd)
 exact ⟨.ref _,_,I',rfl,q _ hn⟩
noncomputable def eF:List PV->PH->RV PV:=fun xs h=>match xs with
 | [.tup ys]=>(match hV ys with
  | some kvs=>if ys.length < sizeLine then .ok (.ref h.length) (h++[.dct (bJ [] kvs)]) else .no
  | none=> .no)
 | [.ref n]=>(match h[n]? with
  | some (.dct kvs)=>if kvs.length<=sizeLine then .ok (.ref h.length) (h++[.dct (bJ [] kvs)]) else .no
  | _=> .no)
 | _=> .no
theorem Bp {ρ :List Addr} {H:Hp} {x:PV} {p:Key × PV} {v:V} (e:pairP? x=some p) (r:rel K ρ H x v): ∃ q:Key × V,pJ H v q∧p.1=q.1∧rel K ρ H p.2 q.2:=by
 cases x with
 | tup xs =>
  match xs,e with
  | [a,w],e =>
   simp only [pairP?] at e
   cases q:gp a with
   | none=>rw [q] at e;exact nomatch e
   | some key =>
    rw [q] at e
    cases e
    rw [rel] at r
    obtain ⟨b,vs,rfl,e1,e2⟩:=r
    obtain ⟨u,u',rfl,r1,r2⟩:=jN e2
    have:=eZ q r1
    subst this
    exact ⟨(key,u'),⟨b,rfl,e1⟩,rfl,r2⟩
 | _=>exact nomatch e
theorem sP {ρ :List Addr} {H:Hp}: ∀ {xs:List PV} {kvs:List (Key × PV)} {vs:List V},hV xs=some kvs->au K ρ H xs vs-> ∃ kws,Paired (pJ H) vs kws∧RK K ρ H kvs kws
 | [],kvs,vs,e,r=>by cases e;rw [aK] at r;subst r;exact ⟨[],.nil,.nil⟩
 | x::t,kvs,vs,e,r=>by
  simp only [hV] at e
  split at e
  · rename_i p ps e1 e2
    cases e
    obtain ⟨v,w,rfl,r1,r2⟩:=aD.mp r
    obtain ⟨q,a,b⟩:=Bp e1 r1
    obtain ⟨qs,c,d⟩:=sP e2 r2
    exact ⟨q::qs,.cons a c,.cons b d⟩
  · exact nomatch e
theorem vm {ρ :List Addr} {h:PH} {H:Hp} {kvs:List (Key × PV)} {kws:List (Key × V)} {Q:VK} (s:cW K ρ h H) (r:RK K ρ H kvs kws) (P:dO K ρ H (.ref h.length) (h++[.dct kvs]) Q) (p:Addr) (hp:H p=none):Q (.ref p) (upd H p (.dK kws)):=by
 refine P _ (ρ ++[p]) _ (Gr.new hp [p]) (s.new hp ⟨kws,aY,Paired.eP (Gr.new hp [p]) r⟩) ?_
 rw [rel]
 exact ⟨p,by rw [<- s.len,List.getElem?_append_right (Nat.le_refl _)];simp,rfl⟩
theorem G6:c9 X pg k-> ∃ r,aW X (.type "dict") r∧xI X.K r eF:=fun A=>⟨_,(xQ A.calm).or tF,fun ρ h H xs us Q v h' s r q P=>by
 unfold eF at q
 split at q
 · rename_i ys
   split at q
   · rename_i kvs e
     split at q
     · rename_i hl
       cases q
       obtain ⟨u,rfl,r1⟩:=bA r
       rw [rel] at r1
       obtain ⟨a,vs,rfl,e1,e2⟩:=r1
       obtain ⟨kws,c,d⟩:=sP e e2
       exact .inl ⟨a,vs,kws,rfl,e1,c,by rw [<- e2.len];exact hl,fun p hp=>vm s (RK.merge d .nil) P p hp⟩
     · exact nomatch q
   · exact nomatch q
 · rename_i n
   split at q
   · rename_i kvs en
     split at q
     · rename_i hl
       cases q
       obtain ⟨u,rfl,r1⟩:=bA r
       rw [rel] at r1
       obtain ⟨a,ea,rfl⟩:=r1
       obtain ⟨kws,e1,e2⟩:=s.ob n _ a en ea
       exact .inr ⟨a,kws,rfl,e1,by rw [<- RK.len e2];exact hl,fun p hp=>vm s (RK.merge e2 .nil) P p hp⟩
     · exact nomatch q
   · exact nomatch q
 · exact nomatch q⟩
theorem iC {α :Type} {le: α -> α ->Prop}: ∀ {l1 l2:List α},(∀ a∈l1,∀ b∈l1,le a b->le b a->a=b)->l1.Perm l2->l1.Pairwise le->l2.Pairwise le->l1=l2
 | [],l2,_,p,_,_=>List.Perm.nil_eq p
 | a::r,[],_,p,_,_=>absurd p.length_eq (by simp)
 | a::r,b::r',anti,p,h1,h2=>by
  rw [List.pairwise_cons] at h1 h2
  have hb:b∈a::r:=p.mem_iff.mpr List.mem_cons_self
  have e:a=b:=by
   rcases List.mem_cons.mp (p.mem_iff.mp (List.mem_cons_self:a∈a::r)) with e | m
   · exact e
   · rcases List.mem_cons.mp hb with e | m'
     · exact e.symm
     · exact anti a List.mem_cons_self b hb (h1.1 b m') (h2.1 a m)
  subst e
  rw [iC (fun x hx y hy=>anti x (List.mem_cons_of_mem _ hx) y (List.mem_cons_of_mem _ hy)) (List.Perm.cons_inv p) h1.2 h2.2]
noncomputable def lj (a b:Str):Bool:= !decide (gQ b a)
noncomputable def bf (ss:List Str):List Str:=ss.mergeSort lj
theorem fX (a b c:Str) (h1:lj a b=true) (h2:lj b c=true):lj a c=true:=by
 unfold lj at h1 h2 ⊢
 simp only [Bool.not_eq_true',decide_eq_false_iff_not] at h1 h2 ⊢
 intro h
 by_cases e:b=a
 · subst e;exact h2 h
 · rcases kN e with z | z
   · exact h1 z
   · exact h2 (iL h z)
theorem iD (a b:Str):(lj a b||lj b a)=true:=by
 unfold lj
 by_cases h:gQ b a
 · simp [h,iH h]
 · simp [h]
theorem r9 {a b : Str} (h1 : lj a b = true) (h2 : lj b a = true) : a = b := by
  unfold lj at h1 h2
  simp only [Bool.not_eq_true', decide_eq_false_iff_not] at h1 h2
  exact Decidable.byContradiction fun e => by rcases kN e with z | z; · exact h2 z
                                              · exact h1 z
theorem xb: ∀ {r:List Str} {p:Str},risingS p r=true->(p::r).Pairwise fun a b=>lj a b=true:=by
 intro r
 induction r with
 | nil=>intro p _;exact List.pairwise_singleton _ _
 | cons x r ih =>
  intro p h
  simp only [risingS,Bool.and_eq_true] at h
  have h1:lj p x=true:=by
   have:=h.1
   rw [ltCps_eq] at this
   exact this
  have h2:=ih h.2
  refine List.pairwise_cons.mpr ⟨fun y hy=>?_,h2⟩
  rcases List.mem_cons.mp hy with rfl | m
  · exact h1
  · exact fX _ _ _ h1 ((List.pairwise_cons.mp h2).1 y m)
theorem wo {ss:List Str} (h:sortedS ss=true):ss.Pairwise fun a b=>lj a b=true:=by
 cases ss with
 | nil=>exact .nil
 | cons p r=>exact xb h
theorem nt {ss ss':List Str} (p:ss'.Perm ss) (h:sortedS ss'=true):ss'=bf ss :=
 iC (le:=fun a b=>lj a b=true) (fun _ _ _ _ h1 h2=>r9 h1 h2) (p.trans (List.mergeSort_perm ss lj).symm) (wo h) (List.pairwise_mergeSort fX (fun a b=>by simpa using iD a b) ss)
noncomputable def fG:List PV->Option (List Str)
 | []=>some []
 | .str x::r=>(fG r).map (x:: ·)
 | _=>none
theorem hZ: ∀ {xs:List PV} {ss:List Str},fG xs=some ss->xs=ss.map PV.str
 | [],bs,e=>by cases e;rfl
 | .str b::r,bs,e=>by
  rw [fG] at e
  cases q:fG r with
  | none=>rw [q] at e;exact nomatch e
  | some cs=>rw [q] at e;cases e;rw [hZ q];rfl
 | .non::_,_,e=>nomatch e
 | .bl _::_,_,e=>nomatch e
 | .int _::_,_,e=>nomatch e
 | .tup _::_,_,e=>nomatch e
 | .ktup _::_,_,e=>nomatch e
 | .ref _::_,_,e=>nomatch e
 | .ty _::_,_,e=>nomatch e
theorem dR: ∀ (ss:List Str),fG (ss.map PV.str)=some ss
 | []=>rfl
 | b::r=>by rw [List.map_cons,fG,dR r];rfl
theorem cO {ρ :List Addr} {H:Hp}: ∀ {ss:List Str} {vs:List V},au K ρ H (ss.map PV.str) vs↔vs=ss.map V.str
 | [],vs=>aK
 | b::t,vs=>by
  rw [List.map_cons,aD]
  constructor
  · rintro ⟨v,w,rfl,r1,r2⟩
    rw [rel] at r1
    rw [r1,cO.mp r2];rfl
  · rintro rfl
    exact ⟨.str b,t.map V.str,rfl,by rw [rel],cO.mpr rfl⟩
noncomputable def uE:List PV->Option (List (Str × Int))
 | []=>some []
 | .tup [.str x,.int i]::r=>(uE r).map ((x,i):: ·)
 | _=>none
noncomputable def fg (q:Str × Int):PV:= .tup [.str q.1,.int q.2]
theorem sV: ∀ (ps:List (Str × Int)),uE (ps.map fg)=some ps
 | []=>rfl
 | b::r=>by rw [List.map_cons,fg,uE,sV r];rfl
theorem Bi: ∀ {xs:List PV} {ps:List (Str × Int)},uE xs=some ps->xs=ps.map fg:=by
 intro xs
 induction xs with
 | nil=>intro ps e;cases e;rfl
 | cons x r ih =>
  intro ps e
  unfold uE at e
  split at e
  · rename_i h;cases h
  · rename_i y i r' h
    cases h
    cases q:uE r with
    | none=>rw [q] at e;exact nomatch e
    | some cs=>rw [q] at e;cases e;rw [ih q];rfl
  · exact nomatch e
theorem j0 {ρ :List Addr} {H:Hp}: ∀ {ps:List (Str × Int)} {vs:List V},au K ρ H (ps.map fg) vs↔Paired (i5 H) vs ps
 | [],vs=>⟨fun h=>by rw [List.map_nil,aK] at h;subst h;exact .nil,fun h=>by cases h;exact aK.mpr rfl⟩
 | b::t,vs=>by
  rw [List.map_cons,aD]
  constructor
  · rintro ⟨v,w,rfl,r1,r2⟩
    rw [fg,rel] at r1
    obtain ⟨a,us,rfl,e1,e2⟩:=r1
    obtain ⟨u,u',rfl,d1,d2⟩:=jN e2
    rw [rel] at d1
    rw [rel] at d2
    subst d1 d2
    exact .cons ⟨a,rfl,e1⟩ (j0.mp r2)
  · intro h
    cases h with
    | cons h1 h2 =>
     obtain ⟨a,rfl,e1⟩:=h1
     refine ⟨.ref a,_,rfl,?_,j0.mpr h2⟩
     rw [fg,rel]
     exact ⟨a,_,rfl,e1,aD.mpr ⟨_,_,rfl,by rw [rel],au.one (by rw [rel])⟩⟩
theorem AE: ∀ {ps:List (Str × Int)},(ps.map (·.1)).Nodup-> ∀ {a b:Str × Int},a∈ps->b∈ps->a.1=b.1->a=b
 | [],_,a,b,ha,_,_=>by cases ha
 | p::r,nd,a,b,ha,hb,e=>by
  rw [List.map_cons] at nd;rw [List.nodup_cons] at nd
  rcases List.mem_cons.mp ha with ha | ha<;>rcases List.mem_cons.mp hb with hb | hb
  · rw [ha,hb]
  · exact absurd (by rw [<- ha,e];exact List.mem_map.mpr ⟨b,hb,rfl⟩) nd.1
  · exact absurd (by rw [<- hb,<- e];exact List.mem_map.mpr ⟨a,ha,rfl⟩) nd.1
  · exact AE nd.2 ha hb e
noncomputable def jF (ps:List (Str × Int)):List (Str × Int):=ps.mergeSort fun a b=>lj a.1 b.1
theorem xN {ps ps':List (Str × Int)} (nd:(ps.map (·.1)).Nodup) (p:ps'.Perm ps) (h:(ps'.map (·.1)).Pairwise gQ):ps'=jF ps:=by
 have h2:ps'.Pairwise fun a b=>lj a.1 b.1=true:=by
  rw [List.pairwise_map] at h
  exact h.imp fun {a b} z=>by unfold lj;simp [iH z]
 refine iC (le:=fun a b=>lj a.1 b.1=true) (fun a ha b hb z1 z2=>?_) (p.trans (List.mergeSort_perm ps _).symm) h2 (List.pairwise_mergeSort (fun a b c=>fX a.1 b.1 c.1) (fun a b=>by simpa using iD a.1 b.1) ps)
 have e:=r9 z1 z2
 have ha':=p.mem_iff.mp ha
 have hb':=p.mem_iff.mp hb
 exact AE nd ha' hb' e
noncomputable def eK:List PV->PH->RV PV:=fun xs h=>match xs with
 | [x]=>(match itemsOf h x with
  | some ys=>(match x with
   | .ref _=>(match fG ys with
    | some ss=>if ss.length < 64 then .ok (.ref h.length) (h++[.lst ((bf ss).map PV.str)]) else .no
    | none=>(match uE ys with
     | some ps=>if ps.length < 64∧(ps.map (·.1)).Nodup then .ok (.ref h.length) (h++[.lst ((jF ps).map fg)]) else .no
     | none=> .no))
   | _=> .no)
  | none=>(match x with
   | .ref n=>(match h[n]? with
    | some (.dct kvs)=>(match fG (kvs.map fun kv=>match kv.1 with | .inl i=> .int i | .inr z=> .str z) with
     | some ss=>if ss.length < 64 then .ok (.ref h.length) (h++[.lst ((bf ss).map PV.str)]) else .no
     | none=> .no)
    | _=> .no)
   | _=> .no))
 | _=> .no
theorem RK.keys {ρ :List Addr} {H:Hp}: ∀ {kvs:List (Key × PV)} {kws:List (Key × V)},RK K ρ H kvs kws->kws.map (·.1)=kvs.map (·.1)
 | _,_,.nil=>rfl
 | _,_,.cons a t=>by rw [List.map_cons,List.map_cons,RK.keys t,a.1]
theorem keys_str: ∀ {kvs:List (Key × PV)} {ss:List Str},(kvs.map fun kv=>(match kv.1 with | .inl i=>PV.int i | .inr z=>PV.str z))=ss.map PV.str->kvs.map (·.1)=ss.map Sum.inr
 | [],ss,e=>by cases ss with | nil=>rfl | cons=>exact nomatch e
 | (.inl i,v)::r,ss,e=>by cases ss with | nil=>exact nomatch e | cons=>simp at e
 | (.inr z,v)::r,ss,e=>by
  cases ss with
  | nil=>exact nomatch e
  | cons y t =>
   rw [List.map_cons,List.map_cons,List.cons.injEq] at e
   rw [List.map_cons,List.map_cons,keys_str e.2]
   cases e.1;rfl
theorem sI (A:c9 X pg k):xI X.K (fun xs H Q=>yY X.K xs H Q∨(AG xs H Q∨ug X.K xs H Q)) eK:=fun ρ h H xs us Q v h' s r q P=>by
 unfold eK at q
 split at q
 · rename_i x
   obtain ⟨u,rfl,r1⟩:=bA r
   split at q
   · rename_i ys e
     split at q
     · rename_i n
       obtain ⟨a,vs,rfl,_,z,r2⟩:=s.sq e r1
       split at q
       · rename_i ss es
         split at q
         · rename_i hl
           cases q
           rw [hZ es,cO] at r2
           subst r2
           refine .inl ⟨a,ss,rfl,z,hl,fun l ss' hp pm so=>?_⟩
           rw [nt pm so]
           exact dX s (cO.mpr rfl) P l hp
         · exact nomatch q
       · split at q
         · rename_i ps eps
           split at q
           · rename_i hl
             cases q
             rw [Bi eps,j0] at r2
             refine .inr (.inr ⟨a,vs,ps,rfl,z,r2,hl.1,hl.2,fun l ys' ps' hp pm so pr=>?_⟩)
             have:=xN hl.2 pm so
             subst this
             exact dX s (j0.mpr pr) P l hp
           · exact nomatch q
         · exact nomatch q
     · exact nomatch q
   · split at q
     · rename_i n _
       split at q
       · rename_i kvs en
         split at q
         · rename_i ss es
           split at q
           · rename_i hl
             cases q
             rw [rel] at r1
             obtain ⟨a,ea,rfl⟩:=r1
             obtain ⟨kws,e1,e2⟩:=s.ob n _ a en ea
             refine .inr (.inl ⟨a,kws,ss,rfl,e1,by rw [RK.keys e2];exact keys_str (hZ es),hl,fun l ss' hp pm so=>?_⟩)
             rw [nt pm so]
             exact dX s (cO.mpr rfl) P l hp
           · exact nomatch q
         · exact nomatch q
       · exact nomatch q
     · exact nomatch q
 · exact nomatch q
theorem ip.of {P:Program} {w:World} {K:PySem.W.Frag} {mg:Str->Option Value} {base:Heap} {pg:Tb} {f:String} {d:Df} (b:MS) (st:Stmt) (N:List Str) (e:d.body=b) (a:At K mg (Str.ofString f) st) (S:aC N d.ps (ai st)) (hl:N.length=d.ps.length+d.nl)
  (hb: ∀ (kV doc pm:Value) (an:Option Addr) (cdv ct:Value) (us:List Value),us.length=d.ps.length->bindArgs (PySem.W.fnOf (Str.ofString f) (Str.ofString f) (cJ st) (bw st) (ai st) .none kV doc pm an cdv ct) ⟨us,[]⟩=pure (d.ps.zip us))
  (h: ∀ (fa:Addr) (cdv:Value) (A:Around) (outer:List Env) (s:Shared) (H:Hp) (E:XK) (k:Nat),wU (jd q8 P w K mg base N (Str.ofString f) (ai st) fa cdv A outer s H E).nZ pg k (bw st) b):ip P w K mg base pg f d :=
 ⟨st,N,a,S,hl,hb,by rw [e];exact h⟩
end
end P3
end
section
open PySem PySem.W PyProof.Rows
namespace P3
open PySem PySem.Spec PyProof.Rows L2
section
variable {X:Cx} {pins:List (Addr × Obj)} {σ :L2.St} {H:Hp} {s:Shared} {h':Heap}
theorem GR {turned:List Addr} {t':Nat} (I:Inv X pins σ H s) (kp: ∀ b o,b ∉ turned->s.heap.get? b=some o->h'.get? b=some o) (fp: ∀ b∈turned,lx X pins H b):Inv X pins σ H { s with heap:=h',toks:=t' }:=by
 have away: ∀ b u,H b=some u->b ∉ turned:=fun b u e m=>by
  have:=(fp b m).1
  rw [e] at this;exact nomatch this
 refine I.step (g':=s.gens) (d':=s.drawn) (ch:=turned) (fun b m=>?_) (fun b o _ _ n e _=>kp b o n e) (fun b o _ _ n e _=>⟨o.slots,kp b o n e⟩) (fun _ _ _ _ e=>e) (fun b o n e=>⟨o,kp b o n e⟩) (fun _ _ e=>e) (fun _ _ _ e=>e) (fun b ps e=>⟨#[],by rw [e];simp⟩) (fun m hm=>?_) (fun b u e=>?_) I.bare
 · obtain ⟨_,a2,_,a4,a5,a6⟩:=fp b m
   exact ⟨a4,a2,a5,a6⟩
 · obtain ⟨o,es,ep,ho,r⟩:=hm
   exact ⟨o,es,ep,kp _ o (fun m=>(fp _ m).2.1 rfl) ho,r⟩
 · refine (I.bz b u e).pV (fun c v hc q=>kp c v ?_ q) (fun _ q=>q) fun _ _ q=>q
   rcases hc with z | z
   · rw [z];exact away b u e
   · exact away c _ z
theorem xh {turned:List Addr} {t':Nat} {p:Addr} {vs:List V} (I:Inv X pins σ H s) (kp: ∀ b o,b ∉ turned->s.heap.get? b=some o->h'.get? b=some o) (fp: ∀ b∈turned,lx X pins H b) (hp:s.heap.objs.size<=p)
  (new:a9 X.prog X.w (upd H p (.tup vs)) h' p (.tup vs)):Inv X pins σ (upd H p (.tup vs)) { s with heap:=h',toks:=t' }:=by
 have hn:H p=none:=I.bz.fresh hp
 have away: ∀ b u,H b=some u->b ∉ turned:=fun b u e m=>by
  have:=(fp b m).1
  rw [e] at this;exact nomatch this
 have old: ∀ b o,s.heap.get? b=some o->b≠p:=fun b o e z=>absurd (Nat.lt_of_lt_of_le (Heap.lt_size e) (z ▸ hp)) (Nat.lt_irrefl _)
 refine I.step (g':=s.gens) (d':=s.drawn) (ch:=turned) (fun b m=>?_) (fun b o _ _ n e _=>kp b o n e) (fun b o _ _ n e _=>⟨o.slots,kp b o n e⟩) (fun b o _ e n=>by rw [aE (old b o e)];exact n) (fun b o n e=>⟨o,kp b o n e⟩)
  (fun b xs e=>by rw [aE (aF e hn)];exact e) (fun b o u e=>by rw [aE (aF e hn)];exact e) (fun b ps e=>⟨#[],by rw [aE (aF e hn),e];simp⟩) (fun m hm=>?_) (fun b u e=>?_) I.bare
 · obtain ⟨_,a2,_,a4,a5,a6⟩:=fp b m
   exact ⟨a4,a2,a5,a6⟩
 · obtain ⟨o,es,ep,ho,r⟩:=hm
   exact ⟨o,es,ep,kp _ o (fun m=>(fp _ m).2.1 rfl) ho,r⟩
 · by_cases hb:b=p
   · subst hb;rw [aY] at e;cases e;exact new
   · rw [aE hb] at e
     refine (I.bz b u e).pV (fun c v hc q=>kp c v ?_ q) (fun c q=>by rw [aE (aF q hn)];exact q) fun c xs q=>by rw [aE (aF q hn)];exact q
     rcases hc with z | z
     · rw [z];exact away b u e
     · exact away c _ z
end
noncomputable def NN (K : PySem.W.Frag) (a1 a2 : Addr) : It :=
  ⟨fun i H => ∃ xs ys x y, fJ K H a1 xs /\ fJ K H a2 ys /\ xs[i]? = some x /\ ys[i]? = some y,
   fun i H v H' => ∃ p x y, H p = none /\ v = .ref p /\ H' = upd H p (.tup [x, y]) /\ (∀ xs, fJ K H a1 xs -> xs[i]? = some x) /\ ∀ ys, fJ K H a2 ys -> ys[i]? = some y,
   fun i H => ∃ xs ys, fJ K H a1 xs /\ fJ K H a2 ys /\ (xs.length <= i ∨ ys.length <= i)⟩
theorem wQ {h h':Heap} {z TI TO i1 i2 l1 l2:Addr} {k:Nat} (Z:tm h z TI TO i1 i2 l1 l2 k) (kp: ∀ b∈[z,TI,TO,i1,i2],∀ o,h.get? b=some o->h'.get? b=some o):tm h' z TI TO i1 i2 l1 l2 k:=by
 obtain ⟨a,b,⟨u,v,c⟩,⟨o1,d1,d2⟩,⟨o2,e1,e2⟩⟩:=Z
 exact ⟨kp _ (by simp) _ a,kp _ (by simp) _ b,⟨u,v,kp _ (by simp) _ c⟩,⟨o1,kp _ (by simp) _ d1,d2⟩,⟨o2,kp _ (by simp) _ e1,e2⟩⟩
theorem AD {P:Program} {w:World} {K:PySem.W.Frag} {els:List Expr} {j:Nat} {pos:Pos} {z TI TO i1 i2 a1 a2:Addr} (D:ZipApart z TI TO i1 i2 a1 a2) :
  Turn P w K (.Tuple els j pos) (NN K a1 a2) [z,TI,TO,i1,i2] z (fun i h=>tm h z TI TO i1 i2 a1 a2 i) where
 mem:=by simp
 obj:=fun i h Z b hb=>by
  obtain ⟨e1,e2,⟨u,v,e3⟩,⟨o4,e4,_,d4⟩,⟨o5,e5,_,d5⟩⟩:=Z
  simp only [List.not_mem_nil,or_false,List.mem_cons] at hb
  rcases hb with rfl | rfl | rfl | rfl | rfl
  · exact ⟨_,e1,fun v q=>nomatch q⟩
  · exact ⟨_,e2,fun v q=>nomatch q⟩
  · exact ⟨_,e3,fun v q=>nomatch q⟩
  · exact ⟨_,e4,fun v q=>by rw [d4] at q;exact nomatch q⟩
  · exact ⟨_,e5,fun v q=>by rw [d5] at q;exact nomatch q⟩
 keep:=fun i h h' Z kp=>wQ Z kp
 item:=by
  intro X hP hw hK hc i pins s σ H E I hf Z hg
  subst hP hw hK
  obtain ⟨xs,ys,x,y,s1,s2,ex,ey⟩:=hg
  obtain ⟨us,ru,pu,_⟩:=I.tuple s1
  obtain ⟨ws,rw',pw,_⟩:=I.tuple s2
  obtain ⟨ux,eu,rx⟩:=ru.get ex
  obtain ⟨uy,ew,ry⟩:=rw'.get ey
  refine nq D Z pu pw (by simpa using eu) (by simpa using ew) fun h1 f1 f2 f3 f4 f5 f6 f7=>⟨_,rfl,?_⟩
  refine wpAny_letOwnedTupleGo_zip (s:={ s with heap:=h1 }) f1 fun h2 g1 g2=>?_
  have ex1:=g2.extBut
  have zlt:z < s.heap.objs.size:=Heap.lt_size Z.xB
  have pz:s.heap.objs.size≠z:=Nat.ne_of_gt zlt
  have new:IsPair h2 s.heap.objs.size ux uy:=ex1 _ _ pz f6
  have hn:H s.heap.objs.size=none:=I.bz.fresh (Nat.le_refl _)
  have I2:Inv X pins σ (upd H s.heap.objs.size (.tup [x,y])) { s with heap:=h2,toks:=s.toks }:=by
   refine xh (turned:=[z,TO,i1,i2]) I (fun b o nb e=>?_) (fun b hb=>hf b ?_) (Nat.le_refl _) ?_
   · simp only [List.mem_cons,List.not_mem_nil,or_false,not_or] at nb
     exact ex1 _ _ nb.1 (f7 b o nb.1 nb.2.1 nb.2.2.1 nb.2.2.2 e)
   · simp only [List.mem_cons,List.not_mem_nil,or_false] at hb ⊢
     rcases hb with rfl | rfl | rfl | rfl<;>simp
   · exact ⟨by show 2<=sizeLine;decide,[ux,uy],.cons rx (.cons ry .nil),_,new,rfl,_,rfl,rfl⟩
  refine ⟨.ref s.heap.objs.size,upd H s.heap.objs.size (.tup [x,y]),I2,rfl,⟨_,x,y,hn,rfl,rfl,fun xs' q=>?_,fun ys' q=>?_⟩,?_,fun b hb=>?_⟩
  · rw [I.j8 q s1];exact ex
  · rw [I.j8 q s2];exact ey
  · obtain ⟨o4,e4,c4⟩:=f4
    obtain ⟨o5,e5,c5⟩:=f5
    exact ⟨g1,ex1 _ _ D.TIz f2,⟨_,_,ex1 _ _ D.TOz f3⟩,⟨o4,ex1 _ _ D.i1z e4,c4⟩,⟨o5,ex1 _ _ D.i2z e5,c5⟩⟩
  · have hb0:=(hf b hb).1
    have: ∃ o,s.heap.get? b=some o:=by
     obtain ⟨e1,e2,⟨u,v,e3⟩,⟨o4,e4,_⟩,⟨o5,e5,_⟩⟩:=Z
     simp only [List.not_mem_nil,or_false,List.mem_cons] at hb
     rcases hb with rfl | rfl | rfl | rfl | rfl
     · exact ⟨_,e1⟩
     · exact ⟨_,e2⟩
     · exact ⟨_,e3⟩
     · exact ⟨_,e4⟩
     · exact ⟨_,e5⟩
    obtain ⟨o,eo⟩:=this
    rw [aE (Nat.ne_of_lt (Heap.lt_size eo))]
    exact hb0
 done:=by
  intro X hP hw hK hc i pins s σ H E I hf Z hg
  subst hP hw hK
  obtain ⟨xs,ys,s1,s2,he⟩:=hg
  obtain ⟨us,ru,pu,_⟩:=I.tuple s1
  obtain ⟨ws,rw',pw,_⟩:=I.tuple s2
  refine oG (I.ok.hd hc) D Z pu pw ?_ fun h1 kp=>⟨rfl,GR (turned:=[z,TO,i1,i2]) (t':=s.toks) I (fun b o nb e=>?_) fun b hb=>hf b ?_⟩
  · have l1:=ru.length
    have l2:=rw'.length
    rcases he with he | he
    · exact .inl (by simp;omega)
    · exact .inr (by simp;omega)
  · simp only [List.mem_cons,List.not_mem_nil,or_false,not_or] at nb
    exact kp b o nb.1 nb.2.1 nb.2.2.1 nb.2.2.2 e
  · simp only [List.mem_cons,List.not_mem_nil,or_false] at hb ⊢
    rcases hb with rfl | rfl | rfl | rfl<;>simp
 self:=fun A i s Q E Z h=>wpAny_pyIter_zip Z.xB h
abbrev tI (a:Addr):Obj:={ cls:= .type "tuple_iterator",data:= .fields #[.ref a,.int 0 0] }
abbrev Mo (h:Heap) (a b:Addr):Heap :=
 Heap.push (Heap.push (Heap.push (Heap.push (Heap.push h (tI a)) (tI b)) { cls:= .type "tuple",data:= .seq #[.ref h.objs.size,.ref (h.objs.size+1)] }) { cls:= .type "tuple",data:= .seq #[.none,.none] })
  { cls:= .type "zip",data:= .fields #[.none,.bool false,.bool false,.ref (h.objs.size+2),.ref (h.objs.size+3)] }
theorem qf (a b:Addr) (us ws:Array Value):Meets (Builtin.«zip.__new__» ⟨[.type "zip",.ref a,.ref b],[]⟩) (fun _ R u=>u.heap.IsTuple a us∧u.heap.IsTuple b ws∧R (.ok (.ret (.ref (u.heap.objs.size+4)))) { u with heap:=Mo u.heap a b }) :=
 .of_wp fun prog w A R u hu=>by
  obtain ⟨hp,gg,dd,tk,os⟩:=u
  obtain ⟨ha,hb,hr⟩:=hu
  have sub:=sub_zip
  have fa:Heap.IsTuple (Shared.heap ⟨hp,gg,dd,tk,os⟩) a us:=ha
  have fb:Heap.IsTuple (Shared.heap ⟨hp.push (tI a),gg,dd,tk,os⟩) b ws:=let ⟨o,e,c⟩:=hb;⟨o,Heap.get?_push_of_some _ e,c⟩
  wp_walk using wpAny_pyIter_tuple fa,wpAny_pyIter_tuple fb
  refine ⟨_,rfl,?_⟩
  simp only [Heap.size_push]
  exact hr
section
variable {X:Cx} {pg:Tb} {k:Nat} {a b:Expr} {ma mb:ME} {p pos:Pos} {els:List Expr} {j:Nat} {tpos:Pos}
theorem Ij (h:Heap) (l1 l2:Addr):tm (Mo h l1 l2) (h.objs.size+4) (h.objs.size+2) (h.objs.size+3) h.objs.size (h.objs.size+1) l1 l2 0∧(Mo h l1 l2).objs.size=h.objs.size+5:=by
 have n1:(Heap.push h (tI l1)).objs.size=h.objs.size+1:=Heap.size_push ..
 have n2:(Heap.push (Heap.push h (tI l1)) (tI l2)).objs.size=h.objs.size+2:=by rw [Heap.size_push,n1]
 have n3:(Heap.push (Heap.push (Heap.push h (tI l1)) (tI l2)) { cls:= .type "tuple",data:= .seq #[.ref h.objs.size,.ref (h.objs.size+1)] }).objs.size=h.objs.size+3:=by rw [Heap.size_push,n2]
 have n4:(Heap.push (Heap.push (Heap.push (Heap.push h (tI l1)) (tI l2)) { cls:= .type "tuple",data:= .seq #[.ref h.objs.size,.ref (h.objs.size+1)] }) { cls:= .type "tuple",data:= .seq #[.none,.none] }).objs.size=h.objs.size+4:=by rw [Heap.size_push,n3]
 refine ⟨⟨?_,?_,⟨.none,.none,?_⟩,⟨tI l1,?_,rfl,rfl⟩,⟨tI l2,?_,rfl,rfl⟩⟩,by rw [Heap.size_push,n4]⟩
 · rw [<- n4];exact Heap.get?_push_size _ rfl
 · refine Heap.get?_push_of_some _ (Heap.get?_push_of_some _ ?_)
   rw [<- n2];exact Heap.get?_push_size _ rfl
 · refine Heap.get?_push_of_some _ ?_
   rw [<- n3];exact Heap.get?_push_size _ rfl
 · exact Heap.get?_push_of_some _ (Heap.get?_push_of_some _ (Heap.get?_push_of_some _ (Heap.get?_push_of_some _ (Heap.get?_push_size _ rfl))))
 · refine Heap.get?_push_of_some _ (Heap.get?_push_of_some _ (Heap.get?_push_of_some _ ?_))
   rw [<- n1];exact Heap.get?_push_size _ rfl
noncomputable def LA (K:PySem.W.Frag) (ta:TA):TI:=fun σ H R=>ta σ H fun vs H1=> ∃ a1 a2 xs ys,vs=[.ref a1,.ref a2]∧fJ K H1 a1 xs∧fJ K H1 a2 ys∧R (NN K a1 a2) H1
theorem Fb {ta:TA} (hg:Gl X "zip") (hm:X.mg "zip" =none) (ha:PA X [a,b] ta) (hs:starEach [a,b] X.env=[(false,eval a X.env),(false,eval b X.env)]) (hs2:starEach [b] X.env=[(false,eval b X.env)]) :
  PI X (.Tuple els j tpos) (.Call (.Name "zip" p) [a,b] [] pos) (LA X.K ta):=by
 intro pins s σ H R I h
 refine Call_ (nG I hg hm boot_zip (PyProof.Rows.callWith_type1 (cL (ha pos pins s σ H _ I h) fun us s1 ⟨vs,H1,I1,r1,a1,a2,xs,ys,e,q1,q2,q⟩=>?_) (by rw [hs,hs2]) (by rw [hs2];rfl)))
 subst e
 cases r1 with
 | cons ra rr =>
  cases rr with
  | cons rb rr =>
   cases rr
   cases ra
   cases rb
   obtain ⟨u1,_,p1,_⟩:=I1.tuple q1
   obtain ⟨u2,_,p2,_⟩:=I1.tuple q2
   refine callType_new F.called_zip (by decide) (F.typeCall_zip_2 _ _) (F.newCall_zip_2 _ _) (fun obj=>F.args_object_init_3 obj _ _) F.entry_zip_new (qf a1 a2 u1.toArray u2.toArray) ⟨p1,p2,?_⟩
   obtain ⟨Z,zs⟩:=Ij s1.heap a1 a2
   have lt1:a1 < s1.heap.objs.size:=let ⟨_,e,_⟩:=p1;Heap.lt_size e
   have lt2:a2 < s1.heap.objs.size:=let ⟨_,e,_⟩:=p2;Heap.lt_size e
   refine ⟨⟨_,Z.xB,rfl⟩,wpAny_pyIter_zip Z.xB ?_⟩
   have kp: ∀ c o,s1.heap.get? c=some o->(Mo s1.heap a1 a2).get? c=some o:=fun c o e=>Heap.get?_push_of_some _ (Heap.get?_push_of_some _ (Heap.get?_push_of_some _ (Heap.get?_push_of_some _ (Heap.get?_push_of_some _ e))))
   refine ⟨s1.heap.objs.size+4,[s1.heap.objs.size+4,s1.heap.objs.size+2,s1.heap.objs.size+3,s1.heap.objs.size,s1.heap.objs.size+1],_,_,H1,rfl,I1.kept (t':=s1.toks) kp,AD (zipApart_new lt1 lt2),Z,fun c hc=>?_,q⟩
   have hle:s1.heap.objs.size<=c:=by
    simp only [List.mem_cons,List.not_mem_nil,or_false] at hc
    rcases hc with rfl | rfl | rfl | rfl | rfl<;>omega
   exact I1.Fn hle (I1.bz.fresh hle)
noncomputable def Fq (a b:ME):MI:=fun c e h=>(a c e h).bind fun x h1=>(b c e h1).bind fun y h2=>match x.seq?,y.seq? with
 | some xs,some ys=> .ok ⟨none,(xs.zip ys).map fun p=> .tup [p.1,p.2]⟩ h2
 | _,_=> .no
theorem Hd (hg:Gl X "zip") (ha:JE X pg k a ma) (hb:JE X pg k b mb) (hs1:noStar a=true:=by rfl) (hs2:noStar b=true:=by rfl):JI X pg k (.Tuple els j tpos) (.Call (.Name "zip" p) [a,b] [] pos) (Fq ma mb):=⟨fun A =>
 let ⟨_,q1,s1⟩:=ha.h A;let ⟨_,q2,s2⟩:=hb.h A
 ⟨_,⟨Fb hg (A.blt _ (by decide +kernel)) (qk q1 (qk q2 xZ hs2) hs1).h (by rw [cz hs1,cz hs2];rfl) (by rw [cz hs2];rfl)⟩,fun ρ h H e σ R it h' s r q P=>by
 obtain ⟨x,h1,e1,q⟩:=bind_eq.mp q
 obtain ⟨y,h2,e2,q⟩:=bind_eq.mp q
 refine s1 ρ h H e σ _ x h1 s r e1 fun x' ρ1 H1 g1 z1 r1=>?_
 refine s2 ρ1 h1 H1 e σ _ y h2 z1 (r.gr g1) e2 fun y' ρ2 H2 g2 z2 r2=>?_
 split at q
 · rename_i xs ys ex ey
   cases q
   obtain ⟨a1,us,rfl,t1,d1⟩:=rel.seq ex (rel.gr g2 _ _ r1)
   obtain ⟨a2,ws,rfl,t2,d2⟩:=rel.seq ey r2
   refine ⟨a1,a2,us,ws,rfl,t1,t2,P ρ2 H2 _ (g1.trans g2) z2 fun i ρ3 h3 H3 g s3 _=>⟨fun v ev=>?_,fun ei=>?_⟩⟩
   · rw [List.getElem?_map] at ev
     cases ez:(xs.zip ys)[i]? with
     | none=>rw [ez] at ev;exact nomatch ev
     | some pr =>
      rw [ez] at ev
      cases ev
      obtain ⟨zx,zy⟩:=List.getElem?_zip_eq_some.mp ez
      obtain ⟨u,f1,f2⟩:=(au.gr g _ _ d1).get zx
      obtain ⟨w,f3,f4⟩:=(au.gr g _ _ d2).get zy
      refine ⟨⟨us,ws,u,w,g.E5 t1,g.E5 t2,f1,f3⟩,?_⟩
      rintro v' H' ⟨p,u',w',hp,rfl,rfl,k1,k2⟩
      have:=k1 us (g.E5 t1)
      rw [f1] at this;cases this
      have:=k2 ws (g.E5 t2)
      rw [f3] at this;cases this
      have gn:Gr ρ3 H3 ρ3 (upd H3 p (.tup [u,w])):=Gr.wY hp
      refine ⟨ρ3,gn,s3.tup hp,?_⟩
      rw [rel]
      exact ⟨p,_,rfl,aY,aD.mpr ⟨_,_,rfl,rel.gr gn _ _ f2,au.one (rel.gr gn _ _ f4)⟩⟩
   · refine ⟨us,ws,g.E5 t1,g.E5 t2,?_⟩
     have:i=min xs.length ys.length:=by simpa using ei
     rw [<- d1.len,<- d2.len]
     omega
 · exact nomatch q⟩⟩
end
end P3
end
section
open PySem PySem.W PyProof.Rows
namespace P3
open PySem PySem.Spec PyProof.Rows L2
structure aU (P:Program) (w:World) (K:PySem.W.Frag) (mg:Str->Option Value) (pg:Tb) (f:String) (d:Df) (st:Stmt) (N:List Str):Prop where
 at_:At K mg (Str.ofString f) st
 sc:aC N d.ps (ai st)
 len:N.length=d.ps.length+d.nl
 bd: ∀ (kV doc pm:Value) (an:Option Addr) (cdv ct:Value) (us:List Value),us.length=d.ps.length->bindArgs (PySem.W.fnOf (Str.ofString f) (Str.ofString f) (cJ st) (bw st) (ai st) .none kV doc pm an cdv ct) ⟨us,[]⟩=pure (d.ps.zip us)
 body: ∀ (base:Heap) (fa:Addr) (cdv:Value) (A:Around) (outer:List Env) (s:Shared) (H:Hp) (E:XK) (k:Nat),wU (jd q8 P w K mg base N (Str.ofString f) (ai st) fa cdv A outer s H E).nZ pg k (bw st) d.body
section
variable {P:Program} {w:World} {K:PySem.W.Frag} {mg:Str->Option Value} {pg:Tb}
theorem aU.of {f:String} {d:Df} (b:MS) {st:Stmt} {N:List Str} (e:d.body=b) (a:At K mg (Str.ofString f) st) (S:aC N d.ps (ai st)) (hl:N.length=d.ps.length+d.nl)
  (hb: ∀ (kV doc pm:Value) (an:Option Addr) (cdv ct:Value) (us:List Value),us.length=d.ps.length->bindArgs (PySem.W.fnOf (Str.ofString f) (Str.ofString f) (cJ st) (bw st) (ai st) .none kV doc pm an cdv ct) ⟨us,[]⟩=pure (d.ps.zip us))
  (h: ∀ (base:Heap) (fa:Addr) (cdv:Value) (A:Around) (outer:List Env) (s:Shared) (H:Hp) (E:XK) (k:Nat),wU (jd q8 P w K mg base N (Str.ofString f) (ai st) fa cdv A outer s H E).nZ pg k (bw st) b):aU P w K mg pg f d st N :=
 ⟨a,S,hl,hb,by rw [e];exact h⟩
theorem aU.good {base:Heap} {f:String} {d:Df} {st:Stmt} {N:List Str} (g:aU P w K mg pg f d st N):ip P w K mg base pg f d:=⟨st,N,g.at_,g.sc,g.len,g.bd,g.body base⟩
theorem ye {gP:List (String × Df)} (hf:pg.fns=fun f=>(gP.find? fun p=>p.1 == f).map (·.2)) (h: ∀ p∈gP,∃ st N,aU P w K mg pg p.1 p.2 st N) (base:Heap): ∀ f d,pg.fns f=some d->ip P w K mg base pg f d:=fun f d e=>by
 rw [hf] at e;dsimp only at e
 cases q:gP.find? fun p=>p.1 == f with
 | none=>rw [q] at e;exact nomatch e
 | some p =>
  rw [q] at e
  cases e
  obtain ⟨st,N,g⟩:=h p (List.mem_of_find?_eq_some q)
  have:p.1=f:=by simpa using List.find?_some q
  rw [<- this]
  exact g.good
theorem IK {k : Nat} {d : Df} {st : Stmt} {N : List Str} {fa : Addr} {x : Str} (T : Top P w K mg pg) (G : ∀ base f d, pg.fns f = some d -> ip P w K mg base pg f d) (hf : pg.fns "law" = some d) (hx : d.ps = [x]) (g : aU P w K mg pg "law" d st N) (hfa : mg "law" = some (.ref fa)) :
    ∃ fd : FuncData, (∀ (s : Shared) (v : Value), BindsTo s fd ⟨[v], []⟩ [(x, v)]) /\ ∀ base : Heap, K.In base -> base.Ns mainGlobals mg -> jC P w K mg base q8 (k + 1) fa fd [x] (uI K pg (k + 1) "law") := by
  obtain ⟨f, fd, F, hm⟩ := g.at_
  have e := hfa.symm.trans hm
  cases e
  refine ⟨fd, fun s v => .of_eq ?_, fun base _ _ => ?_⟩
  · have := xE.args F g.bd [v] (by rw [hx]; rfl)
    rw [this, hx]; rfl
  · have key : ∀ {args : List PV} {h h' : PH} {v : PV}, run pg (k + 1) "law" args h = .ok v h' -> args.length = d.ps.length ∧
        ((∃ w h2, d.body (run pg k) (args.map some ++ List.replicate d.nl none) h = .ok (.rt w) h2 /\ settle h w h2 = .ok v h') ∨
         (∃ e h2, d.body (run pg k) (args.map some ++ List.replicate d.nl none) h = .ok (.nx e) h2 /\ settle h .non h2 = .ok v h')) := fun {args h h' v} q => by
      rw [run, hf] at q
      simp only at q
      split at q
      · rename_i hn
        refine ⟨hn, ?_⟩
        split at q
        · rename_i w h2 e; exact .inl ⟨w, h2, e, q⟩
        · rename_i e' h2 e; exact .inr ⟨e', h2, e, q⟩
        · exact nomatch q
        · exact nomatch q
        · exact nomatch q
      · exact nomatch q
    have S := g.sc
    rw [hx] at S
    refine xE.MV F S (fun vs H Q E ⟨ρ, h, args, v, h', _, r, q, _⟩ => by rw [<- r.len, (key q).1, hx]) ?_
    rintro fa cdv A outer s H vs Q E hr ⟨ρ, h, args, v, h', sm, r, q, post⟩
    have amb : c9 (jd q8 P w K mg base N (Str.ofString "law") (ai st) fa cdv A outer s H E).nZ pg k := ⟨hr, rfl, fun _ _ z => z, yZ T (G base) k, T.blt, T.con, T.xD⟩
    obtain ⟨t, qt, st'⟩ := (g.body base fa cdv A outer s H E k).h amb
    refine ⟨t, qt, ?_⟩
    obtain ⟨hn, q⟩ := key q
    have he : L2.start N vs = vs.map some ++ List.replicate d.nl none := by
      unfold L2.start
      rw [g.len, <- r.len, hn, Nat.add_sub_cancel_left]
    rw [he]
    rcases q with ⟨w, h2, e, q⟩ | ⟨e', h2, e, q⟩
    · exact st' ρ h H _ _ _ _ h2 sm (gI r _) e (fD sm q post)
    · exact st' ρ h H _ _ _ _ h2 sm (gI r _) e fun σ' ρ' H' g s' _ => fD sm q post .non ρ' H' g s' (by rw [rel])
end
theorem Hx {K:PySem.W.Frag} {pg:Tb} {k:Nat} {E:XK} (hl: ∀ ns:List Int,ns.length<=63->Ok (run pg k "law" [.ref 0] [.j4 (ns.map PV.int)]) fun v _=>v= .bl true) (H:Hp) (a:Addr) (ns:List Int) (hn:ns.length<=63) (o:yV H) (q:gm K H a (ns.map V.int)) :
  uI K pg k "law" [.ref a] H (fun v _=>v= .bl true) E:=by
 obtain ⟨v,h',e,rfl⟩:=hl ns hn
 refine ⟨[a],_,[.ref 0],_,h',⟨rfl,fun i j b oi oj ei ej mi mj _ _=>?_,fun i ob b ei eb=>?_⟩,au.one (by rw [rel];exact ⟨a,rfl,rfl⟩),e,fun v' ρ' H' g s r=>by rw [rel] at r;exact r⟩
 · cases i with
   | zero=>simp at ei;subst ei;exact nomatch mi
   | succ i=>simp at ei
 · cases i with
   | zero =>
    simp at ei eb
    subst ei eb
    exact ⟨_,Fw o q,au.ints ns⟩
   | succ i=>simp at ei
section
variable {P:Program} {w:World} {K:PySem.W.Frag} {mg:Str->Option Value} {pg:Tb}
theorem BB {conT:List (Str × PV)} (hc:pg.con=fun x=>(conT.find? fun p=>decide (p.1=x)).map (·.2)) (h: ∀ p∈conT,∃ u v',mg p.1=some u∧RelV v' u∧ ∀ ρ H,rel K ρ H p.2 v'): ∀ x v,pg.con x=some v-> ∃ u v',mg x=some u∧RelV v' u∧ ∀ ρ H,rel K ρ H v v':=fun x v e=>by
 rw [hc] at e;dsimp only at e
 cases q:conT.find? fun p=>decide (p.1=x) with
 | none=>rw [q] at e;exact nomatch e
 | some p =>
  rw [q] at e
  cases e
  have:p.1=x:=by simpa using List.find?_some q
  rw [<- this]
  exact h p (List.mem_of_find?_eq_some q)
theorem DQ {dcT:List (Str × List (Key × PV))} (hc:pg.xD=fun x=>(dcT.find? fun p=>decide (p.1=x)).map (·.2)) (h: ∀ p∈dcT,∃ a kws,mg p.1=some (.ref a)∧KD P w K a kws∧ ∀ ρ H,RK K ρ H p.2 kws) :
  ∀ x kvs,pg.xD x=some kvs-> ∃ a kws,mg x=some (.ref a)∧KD P w K a kws∧ ∀ ρ H,Paired (fun (p:Key × PV) (q:Key × V)=>p.1=q.1∧rel K ρ H p.2 q.2) kvs kws:=fun x v e=>by
 rw [hc] at e;dsimp only at e
 cases q:dcT.find? fun p=>decide (p.1=x) with
 | none=>rw [q] at e;exact nomatch e
 | some p =>
  rw [q] at e
  cases e
  have:p.1=x:=by simpa using List.find?_some q
  rw [<- this]
  exact h p (List.mem_of_find?_eq_some q)
inductive CV:PV->Value->Prop where
 | int (i:Int) (t:Tok):CV (.int i) (.int i t)
 | str (x:Str) (t:Tok):CV (.str x) (.str x t)
theorem CV.v {x:PV} {u:Value} (c:CV x u): ∃ v,RelV v u∧ ∀ ρ H,rel K ρ H x v:=by
 cases c with
 | int i t=>exact ⟨.int i,⟨t,rfl⟩,fun _ _=>by rw [rel]⟩
 | str z t=>exact ⟨.str z,⟨t,rfl⟩,fun _ _=>by rw [rel]⟩
theorem NZ.v: ∀ {xs:List PV} {us:List Value},Paired CV xs us-> ∃ vs,Vals vs us∧ ∀ ρ H,au K ρ H xs vs
 | _,_,.nil=>⟨[],.nil,fun _ _=>aK.mpr rfl⟩
 | _,_,.cons c t=>let ⟨v,a,b⟩:=CV.v c;let ⟨vs,d,e⟩:=NZ.v t;⟨v::vs,.cons a d,fun ρ H=>aD.mpr ⟨v,vs,rfl,b ρ H,e ρ H⟩⟩
theorem se {a:Addr} {d:Option Addr} {us:List Value} {n:Nat} {sl:Array (Option Value)} {xs:List PV} (hl:K.lookup a=some ⟨.type "tuple",d,.seq us.toArray n,sl⟩) (hz:us.length<=sizeLine) (h:Paired CV xs us) (ρ :List Addr) (H:Hp):rel K ρ H (.ktup xs) (.ref a):=by
 obtain ⟨vs,r,q⟩:=NZ.v (K:=K) h
 rw [rel]
 exact ⟨a,vs,rfl,⟨_,us.toArray,n,hl,rfl,rfl,by simpa using hz,by simpa using r⟩,q ρ H⟩
theorem uv {x:Str} {v:PV} {u:Value} (hm:mg x=some u) (c:CV v u): ∃ u v',mg x=some u∧RelV v' u∧ ∀ ρ H,rel K ρ H v v':=let ⟨v',a,b⟩:=CV.v (K:=K) c;⟨u,v',hm,a,b⟩
theorem DK {x:Str} {a:Addr} {d:Option Addr} {us:List Value} {n:Nat} {sl:Array (Option Value)} {xs:List PV} (hm:mg x=some (.ref a)) (hl:K.lookup a=some ⟨.type "tuple",d,.seq us.toArray n,sl⟩) (hz:us.length<=sizeLine) (h:Paired CV xs us) :
  ∃ u v',mg x=some u∧RelV v' u∧ ∀ ρ H,rel K ρ H (.ktup xs) v':=⟨_,.ref a,hm,rfl,se hl hz h⟩
noncomputable def DV (K:PySem.W.Frag) (x:PV) (u:Value):Prop:= ∃ v,RelV v u∧ ∀ ρ H,rel K ρ H x v
theorem eE {a:Addr} {d:Option Addr} {us:List Value} {n:Nat} {sl:Array (Option Value)} {xs:List PV} (hl:K.lookup a=some ⟨.type "tuple",d,.seq us.toArray n,sl⟩) (hz:us.length<=sizeLine) (h:Paired CV xs us):DV K (.ktup xs) (.ref a):=⟨.ref a,rfl,se hl hz h⟩
theorem Bd {ls:List (Str × Tok × Value)} {kvs:List (Key × PV)} (h:Paired (fun (p:Key × PV) (l:Str × Tok × Value)=>p.1= .inr l.1∧DV K p.2 l.2.2) kvs ls): ∃ kws,KV kws (ls.map fun p=>((Sum.inr p.1:Key),p.2.2))∧ ∀ ρ H,RK K ρ H kvs kws:=by
 induction h with
 | nil=>exact ⟨[],.nil,fun _ _=> .nil⟩
 | @cons p l ps qs a t ih =>
  obtain ⟨kws,r,q⟩:=ih
  obtain ⟨e,v,r1,r2⟩:=a
  exact ⟨(.inr l.1,v)::kws,.cons ⟨rfl,r1⟩ r,fun ρ H=> .cons ⟨e,r2 ρ H⟩ (q ρ H)⟩
theorem IC {x:Str} {a:Addr} {ls:List (Str × Tok × Value)} {kvs:List (Key × PV)} {ep:Nat} (hm:mg x=some (.ref a)) (hl:K.lookup a=some { cls:= .type "dict",data:= .dict (ls.map (Ef w)).toArray ep }) (ha:(a == sysModules)=false) (hn:(ls.map fun p=>(Sum.inr p.1:Key)).Nodup)
  (h:Paired (fun (p:Key × PV) (l:Str × Tok × Value)=>p.1= .inr l.1∧DV K p.2 l.2.2) kvs ls): ∃ a kws,mg x=some (.ref a)∧KD P w K a kws∧ ∀ ρ H,RK K ρ H kvs kws:=by
 obtain ⟨kws,r,q⟩:=Bd h
 exact ⟨a,kws,hm,Lr hl ha hn r,q⟩
end
end P3
end
section
open PySem PySem.W PyProof.Rows
namespace P3
open PySem PySem.Spec PyProof.Rows L2
abbrev FZ (aw:List Value) (n:Nat) (dd:Option Addr) (sl:Array (Option Value)):Obj:={ cls:= .type "tuple",dict:=dd,data:= .seq aw.toArray n,slots:=sl }
theorem uA {k:Int} (h1: -(2 ^ 63)<=k) (h2:k < 2 ^ 63): ¬ (decide (k < -(2 ^ 63))||decide (k ≥ 2 ^ 63))=true:=by
 simp only [Bool.or_eq_true,decide_eq_true_eq];omega
theorem uF (l:Addr) (aw:List Value) (n:Nat) (k:Int) (u:Tok) (dd:Option Addr) (sl:Array (Option Value)) (h1: -(2 ^ 63)<=k) (h2:k < 2 ^ 63) (hs:(aw.toArray.isEmpty||k == 1)=true) :
  Meets (Builtin.«tuple.__mul__» ⟨[.ref l,.int k u],[]⟩) (fun _ R s=>s.heap.get? l=some (FZ aw n dd sl)∧R (.ok (.ret (.ref l))) s) :=
 .of_wp fun prog w A R s h=>by
  obtain ⟨hp,g,d,tk,os⟩:=s;obtain ⟨hl,h⟩:=h;have f1:=AutoSeq1.idx_int
  wp_walk using AutoSeq1.wpAny_loadPart' hl,wpAny_load hl
  refine wpAny_ite_split (fun z=>absurd z (uA h1 h2)) (fun _=>?_)
  wp_walk using AutoSeq1.wpAny_loadPart' hl,wpAny_load hl
  refine wpAny_ite_split (fun _=>?_) (fun z=>absurd hs z)
  wp_walk using AutoSeq1.wpAny_loadPart' hl,wpAny_load hl
  exact ⟨_,rfl,h⟩
theorem tL (l:Addr) (aw:List Value) (n:Nat) (k:Int) (u:Tok) (dd:Option Addr) (sl:Array (Option Value)) (h1: -(2 ^ 63)<=k) (h2:k<=0) (hs: ¬ (aw.toArray.isEmpty||k == 1)=true) :
  Meets (Builtin.«tuple.__mul__» ⟨[.ref l,.int k u],[]⟩) (fun _ R s=>s.heap.get? l=some (FZ aw n dd sl)∧R (.ok (.ret (.ref s.heap.objs.size))) { s with heap:=s.heap.push { cls:= .type "tuple",data:= .seq #[] } }) :=
 .of_wp fun prog w A R s h=>by
  obtain ⟨hp,g,d,tk,os⟩:=s;obtain ⟨hl,h⟩:=h;have f1:=AutoSeq1.idx_int
  have hz:(decide (k<=0)||aw.toArray.isEmpty)=true:=by simp [h2]
  wp_walk using AutoSeq1.wpAny_loadPart' hl,wpAny_load hl
  refine wpAny_ite_split (fun z=>absurd z (uA h1 (by omega))) (fun _=>?_)
  wp_walk using AutoSeq1.wpAny_loadPart' hl,wpAny_load hl
  refine wpAny_ite_split (fun z=>absurd z hs) (fun _=>?_)
  refine wpAny_ite_split (fun _=>?_) (fun z=>absurd hz z)
  exact wpAny_bind (m:=Builtin.Tuple.tupleExact _) (wpAny_newObj_type (wpAny_pure ⟨_,rfl,h⟩) (by size_fits))
theorem uo (l:Addr) (aw:List Value) (n:Nat) (k:Int) (u:Tok) (dd:Option Addr) (sl:Array (Option Value)) (h1:0 < k) (h2:(aw.length:Int)*k<=100000) (hk:k<=100000) (hs: ¬ (aw.toArray.isEmpty||k == 1)=true) :
  Meets (Builtin.«tuple.__mul__» ⟨[.ref l,.int k u],[]⟩) (fun _ R s=>s.heap.get? l=some (FZ aw n dd sl)∧R (.ok (.ret (.ref s.heap.objs.size))) { s with heap:=s.heap.push { cls:= .type "tuple",data:= .seq (List.replicate k.toNat aw).flatten.toArray } }) :=
 .of_wp fun prog w A R s h=>by
  obtain ⟨hp,g,d,tk,os⟩:=s;obtain ⟨hl,h⟩:=h;have f1:=AutoSeq1.idx_int
  have hz: ¬ (decide (k<=0)||aw.toArray.isEmpty)=true:=by
   intro z
   rw [Bool.or_eq_true,decide_eq_true_eq] at z
   rcases z with z | z
   · omega
   · exact hs (by rw [z];rfl)
  have hc1: ¬ ((aw.toArray.size:Int)*k > (2 ^ 63 - 1) / 8):=by rw [List.size_toArray];omega
  have hc2: ¬ (Builtin.Tuple.tupleTooMany ((aw.toArray.size:Int)*k)=true):=by
   unfold Builtin.Tuple.tupleTooMany
   rw [List.size_toArray,decide_eq_true_eq,show ((sizeLine:Nat):Int)=16777216 from by decide]
   omega
  have e0:List.foldl (fun x1 x2=>x1++x2) #[] (List.replicate k.toNat aw.toArray)=(List.replicate k.toNat aw).flatten.toArray:=by
   have:=foldl_rep aw k.toNat []
   rw [List.nil_append] at this
   exact this
  wp_walk using AutoSeq1.wpAny_loadPart' hl,wpAny_load hl
  refine wpAny_ite_split (fun z=>absurd z (uA (by omega) (by omega))) (fun _=>?_)
  wp_walk using AutoSeq1.wpAny_loadPart' hl,wpAny_load hl
  refine wpAny_ite_split (fun z=>absurd z hs) (fun _=>?_)
  refine wpAny_ite_split (fun z=>absurd z hz) (fun _=>?_)
  refine wpAny_ite_split (fun hab=>absurd hab hc1) (fun _=>?_)
  refine wpAny_ite_split (fun hab=>absurd hab hc2) (fun _=>?_)
  refine wpAny_bind (m:=Builtin.Tuple.tupleExact _) (wpAny_newObj_type (wpAny_pure ⟨_,rfl,?_⟩) ?_)
  · rw [e0];exact h
  · rw [e0];show (List.replicate k.toNat aw).flatten.toArray.size<=sizeLine
    rw [List.size_toArray,len_rep,Nat.mul_comm]
    refine Nat.le_trans (show aw.length*k.toNat<=100000 from ?_) (by decide)
    have e1:((aw.length*k.toNat:Nat):Int)=(aw.length:Int)*k:=by rw [Int.natCast_mul,Int.toNat_of_nonneg (by omega)]
    omega
noncomputable def IZ (K:PySem.W.Frag):R2:=fun x y H Q=> ∃ a k xs,x= .ref a∧y= .int k∧fJ K H a xs∧(xs.length:Int)*k<=100000∧ -100000<=k∧k<=100000∧(xs=[]∨k=1->Q (.ref a) H)∧(¬ (xs=[]∨k=1)-> ∀ p,H p=none->Q (.ref p) (upd H p (.tup (List.replicate k.toNat xs).flatten)))
theorem Ax {X:Cx}:dI X (binaryOp .Mult) (IZ X.K):=by
 intro pins s σ H x y v u Q I rx ry h
 obtain ⟨a,k,xs,rfl,rfl,ha,hl,k1,k2,q1,q2⟩:=h
 cases (show v=Value.ref a from rx)
 obtain ⟨t,rfl⟩:=ry
 obtain ⟨aw,r1,p1,_⟩:=I.tuple ha
 obtain ⟨⟨cls,dd,data,sl⟩,ho,hc,n,hd⟩:=id p1
 simp only at hc hd
 subst hc hd
 have hlen:=r1.length
 refine wpAny_binaryOp_repeat_ref (T:= "tuple") (U:= "int") (by decide) ⟨_,ho,rfl⟩ (fun s'=>typeIs_int s' k t) kJ PySem.F.fills_int_mul PySem.F.slot_int_rmul pR PySem.F.slot_int_index.lookup
  (call_meets PySem.F.slot_int_rmul (typeIs_int s k t) PySem.F.entry_int_rmul (PySem.F.args_int_rmul_2 _ _) (nz k t a aw.toArray n dd sl) ⟨ho,rfl,⟨_,ho,rfl⟩,?_⟩)
 have hx:xs=[]↔aw=[]:=(r1.lN).symm
 by_cases hs:xs=[]∨k=1
 · have hb:(aw.toArray.isEmpty||k == 1)=true:=by
    rcases hs with z | z
    · rw [hx.mp z];rfl
    · rw [z];simp
   exact call_meets PySem.F.slot_tuple_mul ⟨_,ho,rfl⟩ PySem.F.entry_tuple_mul (PySem.F.args_tuple_mul_2 _ _) (uF a aw n k t dd sl (by omega) (by omega) hb) ⟨ho,⟨.ref a,H,I,rfl,q1 hs⟩⟩
 · have hb: ¬ (aw.toArray.isEmpty||k == 1)=true:=fun z=>hs (by
    rw [Bool.or_eq_true] at z
    rcases z with z | z
    · exact .inl (hx.mpr (by simpa using z))
    · exact .inr (by simpa using z))
   by_cases hk:0 < k
   · refine call_meets PySem.F.slot_tuple_mul ⟨_,ho,rfl⟩ PySem.F.entry_tuple_mul (PySem.F.args_tuple_mul_2 _ _) (uo a aw n k t dd sl hk (by rw [<- hlen];exact hl) k2 hb) ⟨ho,?_⟩
     refine ⟨.ref s.heap.objs.size,_,I.laid (t':=s.toks) (o:= .tup (List.replicate k.toNat xs).flatten) (fun b ob q=>Heap.get?_push_of_some _ q) (Nat.le_refl _) ?_,rfl,q2 hs _ (I.bz.fresh (Nat.le_refl _))⟩
     refine ⟨?_,_,r1.rep k.toNat,oD.new _ _⟩
     rw [len_rep,Nat.mul_comm]
     refine Nat.le_trans (show xs.length*k.toNat<=100000 from ?_) (by decide)
     have e1:((xs.length*k.toNat:Nat):Int)=(xs.length:Int)*k:=by rw [Int.natCast_mul,Int.toNat_of_nonneg (by omega)]
     omega
   · refine call_meets PySem.F.slot_tuple_mul ⟨_,ho,rfl⟩ PySem.F.entry_tuple_mul (PySem.F.args_tuple_mul_2 _ _) (tL a aw n k t dd sl (by omega) (by omega) hb) ⟨ho,?_⟩
     refine ⟨.ref s.heap.objs.size,_,I.laid (t':=s.toks) (o:= .tup (List.replicate k.toNat xs).flatten) (fun b ob q=>Heap.get?_push_of_some _ q) (Nat.le_refl _) ?_,rfl,q2 hs _ (I.bz.fresh (Nat.le_refl _))⟩
     have:k.toNat=0:=by omega
     rw [this]
     exact ⟨Nat.zero_le _,[],.nil,oD.new _ _⟩
section
variable {X:Cx} {pg:Tb} {k:Nat}
theorem au.rep {K:PySem.W.Frag} {ρ :List Addr} {H:Hp} {xs:List PV} {vs:List V} (r:au K ρ H xs vs): ∀ (n:Nat),au K ρ H (List.replicate n xs).flatten (List.replicate n vs).flatten
 | 0=>aK.mpr rfl
 | n+1=>by rw [List.replicate_succ,List.replicate_succ,List.flatten_cons,List.flatten_cons];exact r.app (r.rep n)
noncomputable def eQ:PV->PV->PH->RV PV:=fun x y h=>match x,y with
 | .int i,.int j=>if (-(2 ^ 64) < i∧i < 2 ^ 64)∨(-(2 ^ 64) < j∧j < 2 ^ 64) then .ok (.int (i*j)) h else .no
 | .tup xs,.int k=>if (xs.length:Int)*k<=100000∧ -100000<=k∧k<=100000 then .ok (.tup (List.replicate k.toNat xs).flatten) h else .no
 | .ref n,.int k=>(match h[n]? with
  | some (.lst xs)=>if (-(2 ^ 63)<=k∧k < 2 ^ 63)∧xs.length*k.toNat<=sizeLine then .ok (.ref h.length) (h++[.lst (List.replicate k.toNat xs).flatten]) else .no
  | _=> .no)
 | _,_=> .no
theorem FO:c9 X pg k-> ∃ r,dI X (binaryOp .Mult) r∧oH X.K r eQ:=fun _=>⟨_,GW.or (Ax.or GQ),fun ρ h H x y x' y' Q v h' s rx ry q P=>by
 unfold eQ at q
 split at q
 · split at q
   · rename_i hc
     cases q
     rw [rel] at rx;rw [rel] at ry
     exact .inl ⟨_,_,rx,ry,hc,P _ ρ H (.refl _ _) s (by rw [rel])⟩
   · exact nomatch q
 · rename_i xs k
   split at q
   · rename_i hc
     cases q
     have rx':=rx
     rw [rel] at rx;rw [rel] at ry
     obtain ⟨a,us,rfl,e2,e3⟩:=rx
     refine .inr (.inl ⟨a,k,us,rfl,ry,.of e2,by rw [<- e3.len];exact hc.1,hc.2.1,hc.2.2,fun z=>?_,fun z p hp=>lP s (e3.rep _) P p hp⟩)
     have:(List.replicate k.toNat xs).flatten=xs:=by
      rcases z with z | z
      · subst z
        have:xs=[]:=List.eq_nil_of_length_eq_zero e3.len
        subst this;simp
      · rw [z];simp [List.replicate]
     rw [this] at P
     exact P _ ρ H (.refl _ _) s rx'
   · exact nomatch q
 · split at q
   · rename_i xs en
     split at q
     · rename_i hc
       cases q
       rw [rel] at ry
       obtain ⟨a,us,rfl,_,e1,e2⟩:=s.lst en rx
       exact .inr (.inr ⟨a,_,us,rfl,ry,e1,hc.1.1,hc.1.2,by rw [<- e2.len];exact hc.2,fun p hp=>dX s (e2.rep _) P p hp⟩)
     · exact nomatch q
   · exact nomatch q
 · exact nomatch q⟩
end
end P3
end
section
open PySem PySem.W PyProof.Rows
namespace P3
open PySem PySem.Spec PyProof.Rows L2
section
variable {prog:Program} {w:World} {A:Around} {E:Value->Shared->Prop} {s:Shared}
theorem rH {t:Addr} {us:List Value} {R:List Value->Shared->Prop} (ht:s.heap.IsTuple t us.toArray) (fits:us.length<=sizeLine)
  (q:R us { s with heap:=(s.heap.push (seqObj "list" #[] 0)).update s.heap.objs.size (Obj.mapSeq (· ++us.toArray)) }):wpAny (model prog w) A (collect (.ref t)) R E s:=by
 obtain ⟨ob,e1,e2,m,e3⟩:=id ht
 have e1':=Heap.get?_push_of_some (seqObj "list" #[] 0) e1
 have own:(s.heap.push (seqObj "list" #[] 0)).get? s.heap.objs.size=some (seqObj "list" #[] 0):=Heap.get?_push_size _ rfl
 have sum:(#[]:Array Value)++us.toArray=us.toArray:=by simp
 unfold collect
 refine wpAny_bind (wpAny_runValue (codeAny_builtin entry_proto_collect' (show wpAny _ _ (newList [] >>= fun l=>again (.builtin "list.__iadd__" ⟨[l,.ref t],[]⟩)) _ _ s from ?_)))
 refine wpAny_bind (wpAny_newList (wpAny_pure ⟨Code.quiet_builtin _ (by decide +kernel),codeAny_builtin entry_list_iadd' (show wpAny _ _ (Builtin.List.listExtendWith _ (.ref t) _) _ _ { s with heap:=s.heap.push (seqObj "list" #[] 0) } from ?_)⟩))
 unfold PySem.Builtin.List.listExtendWith
 refine wpAny_bind (wpAny_typeOf (T:= "tuple") ⟨ob,e1',e2⟩ (Mh (by simp) (wpAny_bind (listItems_at e1' e3 (wpAny_bind (listItems_at own rfl ?_))))))
 refine M3 (by simp) (wpAny_bind (listUpdate_at own rfl (wpAny_pure ?_) (Nat.zero_le _) (by rw [sum,List.size_toArray];omega)))
 refine wpAny_bind (wpAny_load (get?_update_seq own _) ?_)
 show wpAny _ _ (pure ((#[]:Array Value)++us.toArray).toList) R E _
 rw [sum]
 exact wpAny_pure q
theorem lq {t:Addr} {us:List Value} {ss:List Str} {R:Value->Shared->Prop} (ht:s.heap.IsTuple t us.toArray) (hS:StrsAre us ss) (n64:us.length < 64)
  (q: ∀ (out:Array Value) (ss':List Str),StrsAre out.toList ss'->ss'.Perm ss->sortedS ss'=true->R (.ref (s.heap.objs.size+1)) { s with heap:=sortedAll s.heap us out }):wpAny (model prog w) A (call (.builtin "sorted") [.ref t]) R E s:=by
 refine Calls.call_function_entry kind_sorted plain_sorted entry_sorted (args_sorted1 (.ref t)) ?_
 unfold Builtin.«sorted»
 refine wpAny_bind (m:=checkCount "sorted" 1 1 [Value.ref t].length) (wpAny_pure (wpAny_bind (rH ht (L2.j2 n64) (wpAny_bind (wpAny_newList ?_ (L2.j2 n64))))))
 show wpAny _ _ _ _ _ { s with heap:=jR s.heap us }
 rw [eL]
 exact wpAny_bind (wpAny_holding (jK (il s.heap us) hS n64 fun out ss' a1 a2 a3=>wpAny_pure ⟨_,rfl,q out ss' a1 a2 a3⟩))
end
section
variable {X:Cx} {pg:Tb} {k:Nat}
noncomputable def DP (K:PySem.W.Frag):List V->Hp->VK->Prop:=fun xs H Q=> ∃ p ss,xs=[.ref p]∧fJ K H p (ss.map V.str)∧ss.length < 64∧ ∀ l ss',H l=none->ss'.Perm ss->sortedS ss'=true->Q (.ref l) (upd H l (.lst (ss'.map V.str)))
theorem rG:aW X (.builtin "sorted") (DP X.K):=by
 intro pins s σ H xs us Q I r ⟨p,ss,e,hS,h64,q⟩
 subst e
 obtain ⟨u,rfl,ru⟩:=vals1 r
 cases (show u=Value.ref p from ru)
 obtain ⟨aw,hv,hl,hz⟩:=I.tuple hS
 have sa:=jr hv
 refine lq hl sa (by rw [sa.length];exact h64) fun out ss' a1 a2 a3=>?_
 obtain ⟨e,he⟩:=sortedAll_at s.heap aw out
 have hlen:(ss'.map V.str).length<=sizeLine:=by rw [List.length_map,a2.length_eq];exact Nat.le_of_lt (Nat.lt_of_lt_of_le h64 (by decide))
 obtain ⟨hn,I'⟩:=I.kD (a:=s.heap.objs.size+1) (o:= .lst (ss'.map V.str)) (t':=s.toks) (fun b o e=>sortedAll_old e) (Heap.get?_none_of_le (Nat.le_succ _)) ⟨hlen,out.toList,e,iB a1,by simpa [seqObj] using he⟩
 exact ⟨.ref _,_,I',rfl,q _ ss' hn a2 a3⟩
noncomputable def bG:List PV->PH->RV PV:=fun xs h=>match xs with
 | [.tup ys]=>(match fG ys with
  | some ss=>if ss.length < 64 then .ok (.ref h.length) (h++[.lst ((bf ss).map PV.str)]) else .no
  | none=> .no)
 | _=>eK xs h
theorem wI:c9 X pg k-> ∃ r,aW X (.builtin "sorted") r∧xI X.K r bG:=fun A=>⟨_,rG.or (rE A.calm),fun ρ h H xs us Q v h' s r q P=>by
 unfold bG at q
 split at q
 · rename_i ys
   split at q
   · rename_i ss es
     split at q
     · rename_i hl
       cases q
       obtain ⟨u,rfl,r1⟩:=bA r
       rw [rel] at r1
       obtain ⟨a,vs,rfl,e1,e2⟩:=r1
       rw [hZ es,cO] at e2
       subst e2
       refine .inl ⟨a,ss,rfl,.of e1,hl,fun l ss' hp pm so=>?_⟩
       rw [nt pm so]
       exact dX s (cO.mpr rfl) P l hp
     · exact nomatch q
   · exact nomatch q
 · exact .inr (sI A ρ h H _ us Q v h' s r q P)⟩
end
end P3
end
section
open PySem PySem.W PyProof.Rows
namespace P3
open PySem L2
noncomputable def fin (h:PH) (r:RV Fl):RV PV:=match r with
 | .ok (.rt v) h'=>settle h v h'
 | .ok (.nx _) h'=>settle h .non h'
 | .ok _ _=> .no
 | .ex c us h'=> .ex c us h'
 | .no=> .no
theorem run_eq {pg:Tb} {k:Nat} {f:String} {d:Df} {vs:List PV} {h:PH} (hf:pg.fns f=some d) (hn:vs.length=d.ps.length):run pg (k+1) f vs h=fin h (d.body (run pg k) (vs.map some++List.replicate d.nl none) h):=by
 rw [run,hf]
 simp only [if_pos hn]
 rfl
theorem sQ {α β :Type} {a: α} {h:PH} {f: α ->PH->RV β}:(RV.ok a h).bind f=f a h:=(rfl)
theorem xX {h h':PH} {v:PV}:fin h (.ok (.rt v) h')=settle h v h':=(rfl)
theorem DB {h:PH} {c:Prop} [Decidable c] {a b:RV Fl}:fin h (if c then a else b)=if c then fin h a else fin h b:=by split<;>rfl
theorem lg {h:PH} {v:PV}:settle h v h= .ok v h:=by unfold settle;split<;>simp
theorem aN {h g:PH} {v:PV} (hv:v.flat=true):settle h v (h++g)= .ok v h:=by unfold settle;rw [hv,jt];simp
theorem uQ {h h':PH} {v:PV} (hv:v.flat=false):settle h v h'= .ok v h':=by unfold settle;rw [hv];rfl
theorem tV {h g:PH} {v:PV} {i:Nat} {o o':PO} (hv:v.flat=true) (e:h[i]?=some o) (m:o.fC=o'.fC) (hu:o'.iN h.length=true):settle h v (h.set i o'++g)= .ok v (h.set i o'):=by
 unfold settle
 have:b9 h.length h (h.set i o'++g)=true:=by
  have h1:=ng hu h (h++g) i o (jt _ h g) e m
  rwa [List.set_append_left _ _ (List.getElem?_eq_some_iff.mp e).1] at h1
 rw [hv,this]
 simp [List.take_append_of_le_length]
theorem lb {h:PH} {v:PV} {i:Nat} {o o':PO}:settle h v (h.set i o')= .ok v (h.set i o'):=by
 unfold settle;split
 · rw [<- List.length_set (as:=h) (i:=i) (a:=o'),List.take_length]
 · rfl
theorem aP {a b:String}:Str.ofString a=Str.ofString b↔a=b:=by
 refine ⟨fun e=>?_,fun e=>by rw [e]⟩
 rw [Str.ofString_eq_toList,Str.ofString_eq_toList] at e
 have e1:a.toList.map Char.toNat=b.toList.map Char.toNat:=by
  have:=congrArg (fun s:Str=>s.cps.toList) e
  simpa using this
 have inj: ∀ {l m:List Char},l.map Char.toNat=m.map Char.toNat->l=m:=by
  intro l
  induction l with
  | nil=>intro m h;cases m with | nil=>rfl | cons=>exact nomatch h
  | cons x r ih =>
   intro m h
   cases m with
   | nil=>exact nomatch h
   | cons y t =>
    simp only [List.cons.injEq,List.map_cons] at h
    have:x=y:=Char.toNat_inj.mp h.1
    rw [this,ih h.2]
 exact String.toList_inj.mp (inj e1)
end P3
end
section
open PySem PySem.W PyProof.Rows
namespace P3
open PySem L2
section
variable {c:CF} {e e1:ax} {h h1:PH} {a b d:ME} {t u:MT} {r:MA} {x y v:PV} {f g:PV->PV->PH->RV PV} {s s':MS} {i n:Nat}
noncomputable def Kr (f:PV->PV->PH->RV PV) (b:ME) (c:CF) (e:ax) (x:PV) (h1:PH):RV PV:=(b c e h1).bind fun y h2=>f x y h2
theorem K9:af f a b c e h=(a c e h).bind (Kr f b c e):=(rfl)
theorem Ga:Kr f b c e x h1=(b c e h1).bind (f x):=(rfl)
theorem LS {f:PV->PH->RV PV}:pQ f a c e h=(a c e h).bind f:=(rfl)
noncomputable def Kz (o:Option (Option PV)) (h:PH):RV PV:=match o with
 | some (some v)=> .ok v h
 | _=> .no
theorem GU:ab i c e h=Kz (e[i]?) h:=(rfl)
theorem Bf:Kz (some (some v)) h= .ok v h:=(rfl)
theorem Mx:eC v c e h= .ok v h:=(rfl)
theorem HU {p:Bool}:AY (.bl p) h= .ok p h:=(rfl)
noncomputable def GI (b:ME) (c:CF) (e:ax) (x:Bool) (h1:PH):RV PV:=if x=true then b c e h1 else .ok (.bl false) h1
theorem FQ:qb a b c e h=((a c e h).bind AY).bind (GI b c e):=(rfl)
theorem Dw:GI b c e true h=b c e h:=(rfl)
theorem Bk:GI b c e false h= .ok (.bl false) h:=(rfl)
noncomputable def Nt (b:ME) (c:CF) (e:ax) (x:Bool) (h1:PH):RV PV:=if x=true then .ok (.bl true) h1 else b c e h1
theorem Ku:Mp a b c e h=((a c e h).bind AY).bind (Nt b c e):=(rfl)
theorem He:Nt b c e true h= .ok (.bl true) h:=(rfl)
theorem F8:Nt b c e false h=b c e h:=(rfl)
noncomputable def J3 (x:Bool) (h1:PH):RV PV:= .ok (.bl (!x)) h1
theorem Iv:GL a c e h=((a c e h).bind AY).bind J3:=(rfl)
theorem CH {p:Bool}:J3 p h= .ok (.bl (!p)) h:=(rfl)
noncomputable def KG (a b:ME) (c:CF) (e:ax) (x:Bool) (h1:PH):RV PV:=if x=true then a c e h1 else b c e h1
theorem J7:AZ t a b c e h=(t c e h).bind (KG a b c e):=(rfl)
theorem Jq:KG a b c e true h=a c e h:=(rfl)
theorem HR:KG a b c e false h=b c e h:=(rfl)
theorem Fc {p:Prop} [Decidable p]:KG a b c e (decide p) h=if p then a c e h else b c e h:=by unfold KG;by_cases q:p<;>simp [q]
theorem Gz:ar a c e h=(a c e h).bind AY:=(rfl)
noncomputable def ze (u:MT) (c:CF) (e:ax) (x:Bool) (h1:PH):RV Bool:=if x=true then u c e h1 else .ok false h1
theorem Bs:kF t u c e h=(t c e h).bind (ze u c e):=(rfl)
theorem yh:ze u c e true h=u c e h:=(rfl)
theorem Av:ze u c e false h= .ok false h:=(rfl)
noncomputable def Gs (u:MT) (c:CF) (e:ax) (x:Bool) (h1:PH):RV Bool:=if x=true then .ok true h1 else u c e h1
theorem Hb:EK t u c e h=(t c e h).bind (Gs u c e):=(rfl)
theorem Cc:Gs u c e true h= .ok true h:=(rfl)
theorem BN:Gs u c e false h=u c e h:=(rfl)
noncomputable def EF (x:Bool) (h1:PH):RV Bool:= .ok (!x) h1
theorem C8:lh t c e h=(t c e h).bind EF:=(rfl)
theorem zt {p:Bool}:EF p h= .ok (!p) h:=(rfl)
theorem CA:bQ c e h= .ok true h:=(rfl)
theorem Dh:ae c e h= .ok [] h:=(rfl)
noncomputable def HJ (x:PV) (xs:List PV) (h2:PH):RV (List PV):= .ok (x::xs) h2
noncomputable def LH (r:MA) (c:CF) (e:ax) (x:PV) (h1:PH):RV (List PV):=(r c e h1).bind (HJ x)
theorem yo:aa a r c e h=(a c e h).bind (LH r c e):=(rfl)
theorem wZ:LH r c e x h=(r c e h).bind (HJ x):=(rfl)
theorem wG {xs:List PV}:HJ x xs h= .ok (x::xs) h:=(rfl)
theorem my {α :Type} {n:Nat} {r:RV α} (hn:n<=16777216):j2 n r=r:=by unfold j2;exact if_pos hn
noncomputable def LK (xs:List PV) (h:PH):RV PV:=j2 xs.length (.ok (.tup xs) h)
theorem Ft:ay r c e h=(r c e h).bind LK:=(rfl)
theorem CJ {xs:List PV}:LK xs h=j2 xs.length (.ok (.tup xs) h):=(rfl)
noncomputable def LN (xs:List PV) (h:PH):RV PV:=j2 xs.length (.ok (.ref h.length) (h++[.lst xs]))
theorem GH:aQ r c e h=(r c e h).bind LN:=(rfl)
theorem CK {xs:List PV}:LN xs h=j2 xs.length (.ok (.ref h.length) (h++[.lst xs])):=(rfl)
theorem Bg {f:String}:ah f r c e h=(r c e h).bind (c f):=(rfl)
theorem MF {f:List PV->PH->RV PV}:eB f r c e h=(r c e h).bind f:=(rfl)
noncomputable def Lh (f:PV->List PV->PH->RV PV) (ty:PV->PH->Bool) (r:MA) (c:CF) (e:ax) (x:PV) (h1:PH):RV PV:=if ty x h1=true then (r c e h1).bind (f x) else .no
theorem MW {f:PV->List PV->PH->RV PV} {ty:PV->PH->Bool}:eM f ty a r c e h=(a c e h).bind (Lh f ty r c e):=(rfl)
theorem J0 {f:PV->List PV->PH->RV PV} {ty:PV->PH->Bool} (ht:ty x h=true):Lh f ty r c e x h=(r c e h).bind (f x):=if_pos ht
noncomputable def oI (s:MS) (c:CF) (f:Fl) (h1:PH):RV Fl:=match f with
 | .nx e1=>s c e1 h1
 | f=> .ok f h1
theorem Ad:ag s s' c e h=(s c e h).bind (oI s' c):=(rfl)
theorem vW:oI s c (.nx e) h=s c e h:=(rfl)
theorem DR:oI s c (.rt v) h= .ok (.rt v) h:=(rfl)
theorem D9:oI s c (.bk e) h= .ok (.bk e) h:=(rfl)
theorem JL:bD c e h= .ok (.nx e) h:=(rfl)
noncomputable def N4 (e:ax) (_:PV) (h1:PH):RV Fl:= .ok (.nx e) h1
theorem Cj:dN a c e h=(a c e h).bind (N4 e):=(rfl)
theorem yy:N4 e x h= .ok (.nx e) h:=(rfl)
noncomputable def KH (v:PV) (h1:PH):RV Fl:= .ok (.rt v) h1
theorem Gn:aB a c e h=(a c e h).bind KH:=(rfl)
theorem Dj:KH v h= .ok (.rt v) h:=(rfl)
noncomputable def zL (s s':MS) (c:CF) (e:ax) (x:Bool) (h1:PH):RV Fl:=if x=true then s c e h1 else s' c e h1
theorem FU:bu t s s' c e h=(t c e h).bind (zL s s' c e):=(rfl)
theorem CQ:zL s s' c e true h=s c e h:=(rfl)
theorem DD:zL s s' c e false h=s' c e h:=(rfl)
theorem BQ {p:Prop} [Decidable p]:zL s s' c e (!decide p) h=if p then s' c e h else s c e h:=by unfold zL;by_cases q:p<;>simp [q]
theorem xY:j5 c e h= .ok (.bk e) h:=(rfl)
noncomputable def Dl (e1:ax) (h2:PH):RV Fl:= .ok (.nx e1) h2
noncomputable def Bj (g:MG) (e:ax) (v:PV) (h1:PH):RV Fl:=(g v e h1).bind Dl
theorem FE {g:MG}:ak a g c e h=(a c e h).bind (Bj g e):=(rfl)
theorem D2:Bj (gN i) e v h= .ok (.nx (e.set i (some v))) h:=(rfl)
theorem Bu {n:Nat} {gs:List PV->ax->PH->RV ax}:Bj (gT n gs) e v h=(gT n gs v e h).bind Dl:=(rfl)
theorem FH:Dl e h= .ok (.nx e) h:=(rfl)
theorem JV:gN i v e h= .ok (e.set i (some v)) h:=(rfl)
theorem Hn {gs:List PV->ax->PH->RV ax} {x1 x2:PV}:gT 2 gs (.tup [x1,x2]) e h=gs [x1,x2] e h:=(rfl)
theorem EW:dF [] e h= .ok e h:=(rfl)
theorem Ja {g:MG} {r:List PV->ax->PH->RV ax} {t:List PV}:aR g r (v::t) e h=(g v e h).bind (r t):=(rfl)
noncomputable def zJ (f:PV->PV->PV->PH->RV Unit) (e:ax) (v x y:PV) (h3:PH):RV Fl:=(f x y v h3).bind fun _ h4=> .ok (.nx e) h4
noncomputable def zf (f:PV->PV->PV->PH->RV Unit) (i:ME) (c:CF) (e:ax) (v x:PV) (h2:PH):RV Fl:=(i c e h2).bind (zJ f e v x)
noncomputable def Eu (f:PV->PV->PV->PH->RV Unit) (o i:ME) (c:CF) (e:ax) (v:PV) (h1:PH):RV Fl:=(o c e h1).bind (zf f i c e v)
theorem HZ {f:PV->PV->PV->PH->RV Unit} {o i:ME}:jP f o i a c e h=(a c e h).bind (Eu f o i c e):=(rfl)
theorem BI {f:PV->PV->PV->PH->RV Unit} {o i:ME}:Eu f o i c e v h=(o c e h).bind (zf f i c e v):=(rfl)
theorem Bh {f:PV->PV->PV->PH->RV Unit} {i:ME}:zf f i c e v x h=(i c e h).bind (zJ f e v x):=(rfl)
noncomputable def N2 (e:ax) (_:Unit) (h:PH):RV Fl:= .ok (.nx e) h
theorem Eb {f:PV->PV->PV->PH->RV Unit}:zJ f e v x y h=(f x y v h).bind (N2 e):=(rfl)
theorem I0 {u:Unit}:N2 e u h= .ok (.nx e) h:=(rfl)
noncomputable def iS (g:MG) (s:MS) (c:CF) (x:PV) (e:ax) (h:PH):RV Fl:=(g x e h).bind (s c)
noncomputable def fork (g:MG) (s:MS) (c:CF) (e:ax) (it:gR) (h1:PH):RV Fl:=cF it (iS g s c) it.items e h1
theorem IQ {i:MI} {g:MG}:gX i g s c e h=(i c e h).bind (fork g s c e):=(rfl)
theorem B6 {g:MG} {it:gR}:fork g s c e it h=cF it (iS g s c) it.items e h:=(rfl)
theorem An {g:MG}:iS g s c x e h=(g x e h).bind (s c):=(rfl)
theorem GO:iE a c e h=(a c e h).bind vY:=(rfl)
theorem Jl {xs:List PV}:vY (.tup xs) h= .ok ⟨none,xs⟩ h:=(rfl)
noncomputable def Mz (n:Nat) (h:PH) (o:Option PO):RV gR:=match o with
 | some (.lst xs)=> .ok ⟨some n,xs⟩ h
 | some (.j4 xs)=> .ok ⟨some n,xs⟩ h
 | _=> .no
theorem GF {n:Nat}:vY (.ref n) h=Mz n h (h[n]?):=by
 have e:vY (.ref n) h=(match cQ h n with | some xs=> .ok ⟨some n,xs⟩ h | none=> .no):=rfl
 rw [e]
 unfold cQ Mz
 generalize h[n]?=oo
 cases oo with
 | none=>rfl
 | some o=>cases o<;>rfl
theorem EZ {n:Nat} {xs:List PV}:Mz n h (some (.lst xs))= .ok ⟨some n,xs⟩ h:=(rfl)
noncomputable def Mv (vs:List PV) (h1:PH):RV gR:=match vs with
 | [.int j]=>if -(2 ^ 62)<=j∧j < 2 ^ 62 then .ok ⟨none,bF 0 j.toNat⟩ h1 else .no
 | _=> .no
theorem Gq : df r c e h = (r c e h).bind Mv := by
  unfold df
  generalize r c e h = z
  cases z with
  | ok a b =>
    rw [bR, bR]
    unfold Mv
    split
    · rfl
    · rename_i hx
      first
      | rfl
      | (split
         · exact absurd rfl (hx _)
         · rfl)
  | ex a b d => rfl
  | no => rfl
theorem Ea {j:Int} (hj: -4611686018427387904<=j∧j < 4611686018427387904):Mv [.int j] h= .ok ⟨none,bF 0 j.toNat⟩ h:=by
 unfold Mv;exact if_pos (by omega)
noncomputable def Nq (x y:PV) (h2:PH):RV gR:=match x.seq?,y.seq? with
 | some xs,some ys=> .ok ⟨none,(xs.zip ys).map fun p=> .tup [p.1,p.2]⟩ h2
 | _,_=> .no
noncomputable def N8 (b:ME) (c:CF) (e:ax) (x:PV) (h1:PH):RV gR:=(b c e h1).bind (Nq x)
theorem HS:Fq a b c e h=(a c e h).bind (N8 b c e):=(rfl)
theorem DE:N8 b c e x h=(b c e h).bind (Nq x):=(rfl)
theorem yu {xs ys:List PV}:Nq (.ktup xs) (.tup ys) h= .ok ⟨none,(xs.zip ys).map fun p=> .tup [p.1,p.2]⟩ h:=(rfl)
noncomputable def Me (it:gR) (step:PV->ax->PH->RV Fl) (xs:List PV) (f:Fl) (h1:PH):RV Fl:=match f with
 | .nx e1=>cF it step xs e1 h1
 | .ct e1=>cF it step xs e1 h1
 | .bk e1=> .ok (.nx e1) h1
 | .rt v=> .ok (.rt v) h1
theorem ku {xs:List PV} {step:PV->ax->PH->RV Fl}:cF ⟨none,xs⟩ step [] e h= .ok (.nx e) h:=(rfl)
theorem fV {xs ys:List PV} {step:PV->ax->PH->RV Fl}:cF ⟨none,xs⟩ step (y::ys) e h=(step y e h).bind (Me ⟨none,xs⟩ step ys):=(rfl)
theorem pP {it:gR} {step:PV->ax->PH->RV Fl} (hf:it.eX h=true):cF it step [] e h= .ok (.nx e) h:=by rw [cF,if_pos hf]
theorem jZ {it:gR} {ys:List PV} {step:PV->ax->PH->RV Fl} (hf:it.eX h=true):cF it step (y::ys) e h=(step y e h).bind (Me it step ys):=by rw [cF,if_pos hf];rfl
theorem cP {it:gR} {xs:List PV} {step:PV->ax->PH->RV Fl}:Me it step xs (.nx e) h=cF it step xs e h:=(rfl)
theorem lK {it:gR} {xs:List PV} {step:PV->ax->PH->RV Fl}:Me it step xs (.rt v) h= .ok (.rt v) h:=(rfl)
noncomputable def E1 (ys:List PV) (h2:PH):RV PV:= .ok (.ref h2.length) (h2++[.lst ys])
noncomputable def Kc (k:Nat) (g:MG) (t:MT) (a:ME) (c:CF) (e:ax) (it:gR) (h1:PH):RV PV:=(fY it (bj k g t a c e) it.items [] h1).bind E1
theorem K6 {k:Nat} {i:MI} {g:MG}:iA k i g t a c e h=(i c e h).bind (Kc k g t a c e):=(rfl)
theorem Ib {k:Nat} {g:MG} {it:gR}:Kc k g t a c e it h=(fY it (bj k g t a c e) it.items [] h).bind E1:=(rfl)
theorem HF {ys:List PV}:E1 ys h= .ok (.ref h.length) (h++[.lst ys]):=(rfl)
noncomputable def xT (y:PV) (h4:PH):RV (Option PV):= .ok (some y) h4
noncomputable def um (a:ME) (c:CF) (e2:ax) (b:Bool) (h3:PH):RV (Option PV):=if b=true then (a c e2 h3).bind xT else .ok none h3
noncomputable def JY (t:MT) (a:ME) (c:CF) (e2:ax) (h2:PH):RV (Option PV):=(t c e2 h2).bind (um a c e2)
theorem KZ {k:Nat} {g:MG}:bj k g t a c e x h=(g x (e++List.replicate k none) h).bind (JY t a c):=(rfl)
theorem IV:JY t a c e h=(t c e h).bind (um a c e):=(rfl)
theorem BA:um a c e true h=(a c e h).bind xT:=(rfl)
theorem Cm {p:Prop} [Decidable p]:um a c e (decide p) h=if p then (a c e h).bind xT else .ok none h:=by unfold um;by_cases q:p<;>simp [q]
theorem Dr {p:Prop} [Decidable p]:um a c e (!decide p) h=if p then .ok none h else (a c e h).bind xT:=by unfold um;by_cases q:p<;>simp [q]
theorem ER:xT y h= .ok (some y) h:=(rfl)
theorem jw {xs0:List PV} {step:PV->PH->RV (Option PV)} {f:PV->Option PV}: ∀ (xs ys:List PV),(∀ x∈xs,step x h= .ok (f x) h)->xs.length+ys.length<=16777216->fY ⟨none,xs0⟩ step xs ys h= .ok (ys++xs.filterMap f) h
 | [],ys,_,_=>by rw [fY,if_pos (show gR.eX ⟨none,xs0⟩ h=true from rfl)];simp
 | x::xs,ys,hs,hl=>by
  have hl':ys.length < sizeLine:=by rw [List.length_cons] at hl;show ys.length < 16777216;omega
  rw [fY,if_pos ⟨show gR.eX ⟨none,xs0⟩ h=true from rfl,hl'⟩,hs x List.mem_cons_self,bR]
  cases q:f x with
  | none=>exact (jw xs ys (fun y m=>hs y (List.mem_cons_of_mem _ m)) (by rw [List.length_cons] at hl;omega)).trans (by rw [List.filterMap_cons_none q])
  | some y=>exact (jw xs (ys++[y]) (fun z m=>hs z (List.mem_cons_of_mem _ m)) (by rw [List.length_cons] at hl;simp;omega)).trans (by rw [List.filterMap_cons_some q];simp)
theorem dA {α :Type} {it:gR} (hf:it.eX h=true) {step:PV->PH->RV (Option PV)} {f: α ->Option PV} {g: α ->PV}: ∀ (l:List α) (ys:List PV),(∀ x∈l,step (g x) h= .ok (f x) h)->l.length+ys.length<=16777216->fY it step (l.map g) ys h= .ok (ys++l.filterMap f) h
 | [],ys,_,_=>by rw [List.map_nil,fY,if_pos hf];simp
 | x::xs,ys,hs,hl=>by
  have hl':ys.length < sizeLine:=by rw [List.length_cons] at hl;show ys.length < 16777216;omega
  rw [List.map_cons,fY,if_pos ⟨hf,hl'⟩,hs x List.mem_cons_self,bR]
  cases q:f x with
  | none=>exact (dA hf xs ys (fun y m=>hs y (List.mem_cons_of_mem _ m)) (by rw [List.length_cons] at hl;omega)).trans (by rw [List.filterMap_cons_none q])
  | some y=>exact (dA hf xs (ys++[y]) (fun z m=>hs z (List.mem_cons_of_mem _ m)) (by rw [List.length_cons] at hl;simp;omega)).trans (by rw [List.filterMap_cons_some q];simp)
end
section
variable {h:PH} {i j:Int} {a b:Str} {x y z w u v:PV} {r xs ys:List PV} {p q:Bool} {n m:Nat}
theorem BD:sF (.int i) (.int j) h= .ok (.int (i - j)) h:=(rfl)
theorem Ck:aG (.int i) (.int j) h= .ok (.int (i+j)) h:=(rfl)
theorem Bw (hl:a.length+b.length<=16777216):aG (.str a) (.str b) h= .ok (.str (a++b)) h:=my hl
theorem iF (hl:xs.length+ys.length<=16777216):aG (.tup xs) (.tup ys) h= .ok (.tup (xs++ys)) h:=my hl
theorem lH (e1:h[n]?=some (.lst xs)) (e2:h[m]?=some (.lst ys)) (hl:xs.length+ys.length<=16777216):aG (.ref n) (.ref m) h= .ok (.ref h.length) (h++[.lst (xs++ys)]):=by
 unfold aG;simp only [e1,e2];exact my (by simpa using hl)
theorem C1 (hj:0 < j):fw (.int i) (.int j) h= .ok (.int (i % j)) h:=by unfold fw p2;simp [hj,BU,bR]
theorem AK (hj:0 < j∧j < 1073741824):nO (.int i) (.int j) h= .ok (.int (i / j)) h:=by unfold nO p2;simp [hj,BU,bR]
theorem CU (hj:0<=j∧j<=1000000∧i.natAbs < 18446744073709551616):Bx (.int i) (.int j) h= .ok (.int (i ^ j.toNat)) h:=by
 unfold Bx p2;simp only;rw [if_pos (by exact ⟨hj.1,hj.2.1,by have:=hj.2.2;omega⟩)];rfl
theorem BV (hi: -18446744073709551616 < i∧i < 18446744073709551616):eQ (.int i) (.int j) h= .ok (.int (i*j)) h:=if_pos (.inl (by omega))
theorem lI (hj: -18446744073709551616 < j∧j < 18446744073709551616):eQ (.int i) (.int j) h= .ok (.int (i*j)) h:=if_pos (.inr (by omega))
theorem vD (hl:(xs.length:Int)*i<=100000∧ -100000<=i∧i<=100000):eQ (.tup xs) (.int i) h= .ok (.tup (List.replicate i.toNat xs).flatten) h:=if_pos hl
theorem Ih:xG (.int i) (.int j) h= .ok (.bl (decide (i < j))) h:=(rfl)
theorem Jn:uh (.int i) (.int j) h= .ok (.bl (decide (j < i))) h:=(rfl)
theorem IW:Nk (.int i) (.int j) h= .ok (.bl (decide (j<=i))) h:=(rfl)
theorem BS:cu (.str a) (.str b) h= .ok (.bl (decide (a=b))) h:=by simp [cu,alike,ic]
theorem CW:cu (.int i) (.int j) h= .ok (.bl (decide (i=j))) h:=by simp [cu,alike,ic]
theorem Cw:cu (.bl p) (.bl q) h= .ok (.bl (decide (p=q))) h:=by simp [cu,alike,ic]
theorem DT:gS (.str a) (.str b) h= .ok (.bl (!decide (a=b))) h:=by simp [gS,alike,ic,gh]
theorem Dc:gS (.int i) (.int j) h= .ok (.bl (!decide (i=j))) h:=by simp [gS,alike,ic,gh]
theorem DX:gS (.bl p) (.bl q) h= .ok (.bl (!decide (p=q))) h:=by simp [gS,alike,ic,gh]
theorem K0:aq (.tup (x::r)) (.int 0) h= .ok x h:=by
 simp only [aq,eJ,oO];rw [if_pos (by decide),if_pos (by simp only [List.length_cons];omega)];rfl
theorem Jf:aq (.tup (x::y::r)) (.int 1) h= .ok y h:=by
 simp only [aq,eJ,oO];rw [if_pos (by decide),if_pos (by simp only [List.length_cons];omega)];rfl
theorem IF:aq (.tup (x::y::z::r)) (.int 2) h= .ok z h:=by
 simp only [aq,eJ,oO];rw [if_pos (by decide),if_pos (by simp only [List.length_cons];omega)];rfl
theorem J4:aq (.tup (x::y::z::w::r)) (.int 3) h= .ok w h:=by
 simp only [aq,eJ,oO];rw [if_pos (by decide),if_pos (by simp only [List.length_cons];omega)];rfl
theorem Nj:aq (.tup (x::y::z::w::u::r)) (.int 4) h= .ok u h:=by
 simp only [aq,eJ,oO];rw [if_pos (by decide),if_pos (by simp only [List.length_cons];omega)];rfl
theorem kf (e:eJ xs i=some v):aq (.tup xs) (.int i) h= .ok v h:=by simp only [aq,e]
theorem d6 {α :Type} {xs:List α} {i:Int} {n:Nat} (e:i=(n:Int)) {v: α} (q:xs[n]?=some v):eJ xs i=some v:=by
 have hl:n < xs.length:=(List.getElem?_eq_some_iff.mp q).1
 subst e
 unfold eJ oO
 rw [if_pos (by omega),if_pos (by omega)]
 simpa using q
noncomputable def EL (y:PV) (h:PH) (o:Option PO):RV PV:=match o with
 | some (.dct kvs)=>(match gp y with
  | some k=>(match bo kvs k with | some v=> .ok v h | none=> .no)
  | none=> .no)
 | some (.lst xs)=>(match y with
  | .int i=>(match eJ xs i with | some v=> .ok v h | none=> .no)
  | _=> .no)
 | some (.j4 xs)=>(match y with
  | .int i=>(match eJ xs i with | some v=> .ok v h | none=> .no)
  | _=> .no)
 | none=> .no
theorem NJ:aq (.ref n) y h=EL y h (h[n]?):=by
 unfold EL
 simp only [aq]
 all_goals (generalize h[n]?=oo;rcases oo with _ | o<;>first | rfl | (cases o<;>rfl))
noncomputable def KC (h:PH) (o:Option PV):RV PV:=match o with
 | some v=> .ok v h
 | none=> .no
theorem Cd {kvs:List (Key × PV)}:EL (.str a) h (some (.dct kvs))=KC h (bo kvs (.inr a)):=(rfl)
theorem Nv:EL (.int i) h (some (.lst xs))=KC h (eJ xs i):=(rfl)
theorem NA:EL (.int i) h (some (.j4 xs))=KC h (eJ xs i):=(rfl)
theorem lQ:KC h (some v)= .ok v h:=(rfl)
theorem qJ {k:Key} {kvs:List (Key × PV)}:bo ((k,v)::kvs) k=some v:=by simp [bo]
theorem sy {k k':Key} {kvs:List (Key × PV)} (ne:k'≠k):bo ((k',v)::kvs) k=bo kvs k:=by simp [bo,ne]
noncomputable def zF (n:Nat) (y v:PV) (h:PH) (o:Option PO):RV Unit:=match o with
 | some (.dct kvs)=>(match gp y with
  | some k=>if kvs.length < sizeLine then .ok () (h.set n (.dct (er kvs k v))) else .no
  | none=> .no)
 | some (.lst xs)=>(match y with
  | .int i=>(match oO xs.length i with | some j=> .ok () (h.set n (.lst (xs.set j v))) | none=> .no)
  | _=> .no)
 | _=> .no
theorem Kl:iP (.ref n) y v h=zF n y v h (h[n]?):=by
 unfold zF
 simp only [iP]
 all_goals (generalize h[n]?=oo;rcases oo with _ | o<;>first | rfl | (cases o<;>rfl))
theorem hU {kvs:List (Key × PV)} (hl:kvs.length < 16777216):zF n (.str a) v h (some (.dct kvs))= .ok () (h.set n (.dct (er kvs (.inr a) v))):=if_pos hl
noncomputable def Ng (n:Nat) (v:PV) (h:PH) (o:Option PO):RV PV:=match o with
 | some (.lst xs)=>if xs.length < sizeLine then .ok .non (h.set n (.lst (xs++[v]))) else .no
 | _=> .no
theorem M5:bT (.ref n) [v] h=Ng n v h (h[n]?):=by
 unfold Ng
 simp only [bT]
 all_goals (generalize h[n]?=oo;rcases oo with _ | o<;>first | rfl | (cases o<;>rfl))
theorem ko (hl:xs.length < 16777216):Ng n v h (some (.lst xs))= .ok .non (h.set n (.lst (xs++[v]))):=if_pos hl
theorem len_T:bE [.tup xs] h= .ok (.int xs.length) h:=(rfl)
theorem F7:oQ [.tup xs] h= .ok (.ref h.length) (h++[.lst xs]):=(rfl)
theorem KY:yA [.bl p] h= .ok (.int (if p then 1 else 0)) h:=(rfl)
theorem Ki:cZ false .non h= .ok (.bl true) h:=(rfl)
theorem Lg:cZ false (.int i) h= .ok (.bl false) h:=by simp [cZ]
theorem KQ:cZ false (.str a) h= .ok (.bl false) h:=by simp [cZ]
theorem LB:cZ false (.bl p) h= .ok (.bl false) h:=by simp [cZ]
theorem Mb:cZ false (.tup xs) h= .ok (.bl false) h:=by simp [cZ]
theorem IE:cZ true .non h= .ok (.bl false) h:=(rfl)
theorem Hu:cZ true (.int i) h= .ok (.bl true) h:=by simp [cZ]
theorem Jp:cZ true (.tup xs) h= .ok (.bl true) h:=by simp [cZ]
section
variable {c:CF} {e:ax} {d k1 k2:ME} {rr:MA} {kvs:List (Key × PV)} {ff:PV->List PV->PH->RV PV}
noncomputable def NH (a:Str) (z:PV) (h:PH) (o:Option PO):RV PV:=match o with
 | some (.dct kvs)=> .ok ((bo kvs (.inr a)).getD z) h
 | _=> .no
noncomputable def Mm (x y z:PV) (h3:PH):RV PV:=match x,gp y with
 | .ref n,some key=>(match h3[n]? with
  | some (.dct kvs)=> .ok ((bo kvs key).getD z) h3
  | _=> .no)
 | _,_=> .no
noncomputable def Mt (b:ME) (c:CF) (e:ax) (x y:PV) (h2:PH):RV PV:=(b c e h2).bind (Mm x y)
noncomputable def Nd (a b:ME) (c:CF) (e:ax) (x:PV) (h1:PH):RV PV:=if gh h1 x=true then (a c e h1).bind (Mt b c e x) else .no
noncomputable def Nm (a b:ME) (c:CF) (e:ax) (n:Nat) (h:PH) (o:Option PO):RV PV:=match o with
 | some (.dct _)=>(a c e h).bind (Mt b c e (.ref n))
 | _=> .no
theorem IH:uT d k1 k2 c e h=(d c e h).bind (Nd k1 k2 c e):=(rfl)
theorem CL:Nd k1 k2 c e (.ref n) h=Nm k1 k2 c e n h (h[n]?):=by
 unfold Nd Nm gh
 cases q:h[n]? with
 | none=>simp [q]
 | some o=>cases o<;>simp [q]
theorem yd:Nm k1 k2 c e n h (some (.dct kvs))=(k1 c e h).bind (Mt k2 c e (.ref n)):=(rfl)
theorem D7:Mt k2 c e x y h=(k2 c e h).bind (Mm x y):=(rfl)
theorem BC:Mm (.ref n) (.str a) z h=NH a z h (h[n]?):=by
 unfold Mm NH gp
 simp only
theorem yS:NH a z h (some (.dct kvs))= .ok ((bo kvs (.inr a)).getD z) h:=(rfl)
noncomputable def MC (f:PV->List PV->PH->RV PV) (r:MA) (c:CF) (e:ax) (n:Nat) (h:PH) (o:Option PO):RV PV:=match o with
 | some (.lst _)=>(r c e h).bind (f (.ref n))
 | _=> .no
theorem KP:Lh ff cC rr c e (.ref n) h=MC ff rr c e n h (h[n]?):=by
 unfold Lh MC cC
 cases q:h[n]? with
 | none=>simp [q]
 | some o=>cases o<;>simp [q]
theorem E9:MC ff rr c e n h (some (.lst xs))=(rr c e h).bind (ff (.ref n)):=(rfl)
noncomputable def GY (ys:List PV) (h:PH) (o:Option (List (Key × PV))):RV PV:=match o with
 | some kvs=>if ys.length < sizeLine then .ok (.ref h.length) (h++[.dct (bJ [] kvs)]) else .no
 | none=> .no
theorem uP:eF [.tup ys] h=GY ys h (hV ys):=by
 unfold eF GY
 cases q:hV ys<;>simp [q]
theorem qA (hl:ys.length < 16777216):GY ys h (some kvs)= .ok (.ref h.length) (h++[.dct (bJ [] kvs)]):=if_pos hl
theorem zO:m6 c e h= .ok (.ref h.length) (h++[.dct []]):=(rfl)
end
noncomputable def MH (h:PH) (o:Option PO):RV PV:=match o with
 | some (.lst xs)=> .ok (.tup xs) h
 | some (.j4 xs)=> .ok (.tup xs) h
 | _=> .no
theorem DU:aJ [.ref n] h=MH h (h[n]?):=by
 unfold MH
 cases q:h[n]? with
 | none=>simp [aJ,cQ,q]
 | some o=>cases o<;>simp [aJ,cQ,q]
theorem Ao:MH h (some (.lst xs))= .ok (.tup xs) h:=(rfl)
noncomputable def Mr (h:PH) (o:Option PO):RV PV:=match o with
 | some (.lst xs)=> .ok (.int xs.length) h
 | some (.j4 xs)=> .ok (.int xs.length) h
 | some (.dct kvs)=> .ok (.int kvs.length) h
 | _=> .no
theorem K7:bE [.ref n] h=Mr h (h[n]?):=by
 unfold Mr
 cases q:h[n]? with
 | none=>simp [bE,itemsOf,cQ,q]
 | some o=>cases o<;>simp [bE,itemsOf,cQ,q]
theorem IY:Mr h (some (.lst xs))= .ok (.int xs.length) h:=(rfl)
theorem HV:Mr h (some (.j4 xs))= .ok (.int xs.length) h:=(rfl)
theorem jQ {a:Str}: ∀ {ss:List Str},((ss.map PV.str).any fun z=>Jt z (.str a))=decide (a∈ss)
 | []=>by simp
 | x::t=>by
  rw [List.map_cons,List.any_cons,jQ]
  by_cases e:x=a
  · subst e;simp [Jt]
  · have e': ¬ a=x:=fun z=>e z.symm
    simp [Jt,e,e']
theorem all_strs: ∀ {ss:List Str},((ss.map PV.str).all fF)=true
 | []=>rfl
 | x::t=>by rw [List.map_cons,List.all_cons,all_strs];rfl
theorem we {ss:List Str}:ju (.str a) (.tup (ss.map PV.str)) h= .ok (.bl (decide (a∈ss))) h:=by
 have:isIn (.str a) (.tup (ss.map PV.str)) h=some (decide (a∈ss)):=by
  unfold isIn
  simp only [itemsOf,all_strs,fF,Bool.and_self,if_true,jQ]
 unfold ju;rw [this]
theorem vU {ss:List Str}:gE (.str a) (.tup (ss.map PV.str)) h= .ok (.bl (!decide (a∈ss))) h:=by
 have:isIn (.str a) (.tup (ss.map PV.str)) h=some (decide (a∈ss)):=by
  unfold isIn
  simp only [itemsOf,all_strs,fF,Bool.and_self,if_true,jQ]
 unfold gE;rw [this]
theorem in_K {ss:List Str}:ju (.str a) (.ktup (ss.map PV.str)) h= .ok (.bl (decide (a∈ss))) h:=by
 have:isIn (.str a) (.ktup (ss.map PV.str)) h=some (decide (a∈ss)):=by
  unfold isIn
  simp only [itemsOf,all_strs,fF,Bool.and_self,if_true,jQ]
 unfold ju;rw [this]
section
variable {c:CF} {e:ax} {d:ME} {kvs:List (Key × PV)}
noncomputable def NV (kvs:List (Key × PV)) (x:PV) (h:PH):RV PV:=match gp x with
 | some key=>(match bo kvs key with
  | some v=> .ok v h
  | none=> .no)
 | none=> .no
theorem Lp:y6 kvs d c e h=(d c e h).bind (NV kvs):=(rfl)
theorem Fv:NV kvs (.str a) h=KC h (bo kvs (.inr a)):=(rfl)
end
section
variable {c:CF} {e:ax} {d:ME} {l uu:MO}
noncomputable def ET (uu:MO) (c:CF) (e:ax) (x:PV) (lo:Option Int) (h:PH):RV PV:=(uu c e h).bind (Ew x lo)
noncomputable def LV (l uu:MO) (c:CF) (e:ax) (x:PV) (h:PH):RV PV:=(l c e h).bind (ET uu c e x)
theorem LY:kO d l uu c e h=(d c e h).bind (LV l uu c e):=(rfl)
theorem ES:LV l uu c e x h=(l c e h).bind (ET uu c e x):=(rfl)
theorem Gd {lo:Option Int}:ET uu c e x lo h=(uu c e h).bind (Ew x lo):=(rfl)
theorem Md:bY c e h= .ok none h:=(rfl)
noncomputable def N9 (v:PV) (h1:PH):RV (Option Int):=match v with
 | .int i=> .ok (some i) h1
 | _=> .no
theorem JJ:bX d c e h=(d c e h).bind N9:=(rfl)
theorem Hf:N9 (.int i) h= .ok (some i) h:=(rfl)
theorem MX {lo hi:Option Int}:Ew (.tup xs) lo hi h= .ok (.tup (dy xs lo hi)) h:=(rfl)
noncomputable def M9 (lo hi:Option Int) (h:PH) (o:Option PO):RV PV:=match o with
 | some (.lst xs)=> .ok (.ref h.length) (h++[.lst (dy xs lo hi)])
 | some (.j4 xs)=> .ok (.ref h.length) (h++[.lst (dy xs lo hi)])
 | _=> .no
theorem Nw {lo hi:Option Int}:Ew (.ref n) lo hi h=M9 lo hi h (h[n]?):=by
 unfold M9
 cases q:h[n]? with
 | none=>simp [Ew,cQ,q]
 | some o=>cases o<;>simp [Ew,cQ,q]
theorem J6 {lo hi:Option Int}:M9 lo hi h (some (.lst xs))= .ok (.ref h.length) (h++[.lst (dy xs lo hi)]):=(rfl)
theorem eS {lo:Int} (h0:0<=lo):dy xs (some lo) none=xs.drop lo.toNat:=by
 have e:lo=((lo.toNat:Nat):Int):=by omega
 unfold dy
 rw [e,HT.lU,HT.jv]
 simp only [Int.toNat_natCast]
 rcases Nat.le_total lo.toNat xs.length with z | z
 · rw [Nat.min_eq_left z];exact List.take_of_length_le (by rw [List.length_drop];omega)
 · rw [Nat.min_eq_right z,List.drop_eq_nil_of_le (Nat.le_refl _),List.drop_eq_nil_of_le z];simp
theorem jl {hi:Int} (h0:0<=hi):dy xs none (some hi)=xs.take hi.toNat:=by
 have e:hi=((hi.toNat:Nat):Int):=by omega
 unfold dy
 rw [e,HT.lU,HT.jv]
 simp only [Int.toNat_natCast,List.drop_zero,Nat.sub_zero]
 rcases Nat.le_total hi.toNat xs.length with z | z
 · rw [Nat.min_eq_left z]
 · rw [Nat.min_eq_right z,List.take_of_length_le (Nat.le_refl _),List.take_of_length_le z]
end
variable {o o':PO} {g:PH} {k:Nat}
theorem bp:(h++(o::g))[h.length]?=some o:=by rw [List.getElem?_append_right (Nat.le_refl _)];simp
theorem aH:(h++g)[h.length+k]?=g[k]?:=by rw [List.getElem?_append_right (by omega)];congr 1;omega
theorem aM (hn:n < h.length):(h++g)[n]?=h[n]?:=List.getElem?_append_left hn
theorem eN:(h++g).set h.length o=h++g.set 0 o:=by rw [List.set_append_right _ _ (Nat.le_refl _)];simp
theorem uj:(h++g).set (h.length+k) o=h++g.set k o:=by rw [List.set_append_right _ _ (by omega)];congr 2;omega
theorem bq (e:h[n]?=some o):n < h.length:=(List.getElem?_eq_some_iff.mp e).1
end
end P3
end
section
open PySem PySem.W PyProof.Rows
namespace P3
open PySem L2
section
variable {h:PH} {i j:Int} {a b:Str} {x y z w u v:PV} {r xs ys:List PV} {p q:Bool} {n m:Nat}
theorem EV:dM [.tup xs,.ty "tuple"] h= .ok (.bl true) h:=(rfl)
theorem Fi:dM [.tup xs,.ty "list"] h= .ok (.bl false) h:=(rfl)
theorem F4:dM [.tup xs,.tup [.ty "tuple",.ty "list"]] h= .ok (.bl true) h:=(rfl)
theorem yM:dM [.int i,.ty "bool"] h= .ok (.bl false) h:=(rfl)
theorem ya:dM [.int i,.ty "int"] h= .ok (.bl true) h:=(rfl)
theorem zE:dM [.int i,.tup [.ty "tuple",.ty "list"]] h= .ok (.bl false) h:=(rfl)
theorem yJ:dM [.str a,.ty "bool"] h= .ok (.bl false) h:=(rfl)
theorem xV:dM [.str a,.ty "int"] h= .ok (.bl false) h:=(rfl)
theorem yz:dM [.str a,.ty "str"] h= .ok (.bl true) h:=(rfl)
theorem zM:dM [.str a,.tup [.ty "tuple",.ty "list"]] h= .ok (.bl false) h:=(rfl)
theorem yR:dM [.bl p,.ty "bool"] h= .ok (.bl true) h:=(rfl)
theorem yq:dM [.bl p,.tup [.ty "tuple",.ty "list"]] h= .ok (.bl false) h:=(rfl)
theorem As:dM [.non,.ty "tuple"] h= .ok (.bl false) h:=(rfl)
theorem Ai:dM [.non,.tup [.ty "tuple",.ty "list"]] h= .ok (.bl false) h:=(rfl)
theorem vQ: ∀ bs:List Bool,tX (bs.map PV.bl)=some bs
 | []=>rfl
 | b::r=>by rw [List.map_cons,tX,vQ r];rfl
theorem Lu {bs:List Bool} (e:h[n]?=some (.lst (bs.map PV.bl))):Cn [.ref n] h= .ok (.bl (bs.all id)) h:=by
 simp [Cn,vC,cQ,e,vQ]
theorem wJ:eJ (x::r) 0=some x:=by simp only [eJ,oO];rw [if_pos (by decide),if_pos (by simp only [List.length_cons];omega)];rfl
theorem B9:eJ (x::y::r) 1=some y:=by simp only [eJ,oO];rw [if_pos (by decide),if_pos (by simp only [List.length_cons];omega)];rfl
theorem IL:eJ (x::y::z::r) 2=some z:=by simp only [eJ,oO];rw [if_pos (by decide),if_pos (by simp only [List.length_cons];omega)];rfl
theorem LI:eJ (x::y::z::w::r) 3=some w:=by simp only [eJ,oO];rw [if_pos (by decide),if_pos (by simp only [List.length_cons];omega)];rfl
theorem F6:dy (x::xs) (some 1) none=xs:=by rw [P3.eS (by decide)];rfl
end
section
variable {c:CF} {e:ax} {h h1:PH} {a b:ME} {r:MP} {x y v:PV} {kvs:List (Key × PV)} {key:Key} {s:Str} {i:Int} {n:Nat}
noncomputable def Fm (n:Nat) (kvs:List (Key × PV)) (h1:PH):RV PV:=if h1[n]?=some (.dct [])∧kvs.length<=15 then .ok (.ref n) (h1.set n (.dct (bJ [] kvs))) else .no
noncomputable def Nb (key:Key) (v:PV) (kvs:List (Key × PV)) (h3:PH):RV (List (Key × PV)):= .ok ((key,v)::kvs) h3
noncomputable def MB (key:Key) (r:MP) (c:CF) (e:ax) (v:PV) (h2:PH):RV (List (Key × PV)):=(r c e h2).bind (Nb key v)
noncomputable def NR (b:ME) (r:MP) (c:CF) (e:ax) (x:PV) (h1:PH):RV (List (Key × PV)):=match gp x with
 | some key=>(b c e h1).bind (MB key r c e)
 | none=> .no
theorem lJ:pO r c e h=(r c e (h++[.dct []])).bind (Fm h.length):=(rfl)
theorem pU:xi c e h= .ok [] h:=(rfl)
theorem qm:eV a b r c e h=(a c e h).bind (NR b r c e):=(rfl)
theorem lX:NR b r c e (.str s) h=(b c e h).bind (MB (.inr s) r c e):=(rfl)
theorem qL:MB key r c e v h=(r c e h).bind (Nb key v):=(rfl)
theorem qK:Nb key v kvs h= .ok ((key,v)::kvs) h:=(rfl)
theorem zp (h1:h[n]?=some (.dct [])) (h2:kvs.length<=15):Fm n kvs h= .ok (.ref n) (h.set n (.dct (bJ [] kvs))):=if_pos ⟨h1,h2⟩
theorem pT (h2:kvs.length<=15):Fm h.length kvs (h++[.dct []])= .ok (.ref h.length) (h++[.dct (bJ [] kvs)]):=by
 rw [zp bp h2,eN];rfl
end
end P3
end
section
open PySem PySem.W PyProof.Rows
namespace P3
open PySem PySem.Spec PyProof.Rows L2
section
variable {X:Cx} {pg:Tb} {k:Nat}
noncomputable def Bq:V->List V->Hp->VK->Prop:=fun x vs H Q=> ∃ l b kvs more,x= .ref l∧vs=[.ref b]∧l≠b∧H l=some (.dK kvs)∧H b=some (.dK more)∧kvs.length+more.length<=sizeLine∧Q .non (upd H l (.dK (cA kvs more)))
theorem xj:DI X "dict.update" Bq:=by
 intro pins s σ H x vs v us Q I rx rv h
 obtain ⟨l,b,kvs,more,rfl,rfl,hlb,hH,hB,hz,q⟩:=h
 cases rx
 obtain ⟨u,rfl,ru⟩:=vals1 rv
 cases (show u=Value.ref b from ru)
 obtain ⟨z1,n1,vs1,r1,d1⟩:=mD I.bz hH
 obtain ⟨z2,n2,vs2,r2,d2⟩:=mD I.bz hB
 refine call_meetsIn PySem.F.slot_dict_update d1.typeIs PySem.F.entry_dict_update (PySem.F.args_dict_update_2 _ _) (meets_dict_update (aI X.prog X.w) l b hlb n2) ⟨vs1,vs2,d1,d2,by rw [<- r1.length,<- r2.length];exact hz,fun h' d' _ sb=>?_⟩
 have ln:=cX more kvs
 exact ⟨.non,_,lY I (by rw [hH];exact trivial) sb (let ⟨q,_,_,hq,_⟩:=d';⟨q,hq⟩) (mQ (by omega) n1 (KV.merge r2 r1) d'),rfl,q⟩
noncomputable def jb:PV->PH->Bool:=fun x h=>match x with
 | .ref n=>(match h[n]? with
  | some (.dct _)=>true
  | _=>false)
 | _=>false
theorem xx {ρ :List Addr} {h:PH} {H:Hp} {x:PV} {v:V} (s:cW X.K ρ h H) (r:rel X.K ρ H x v) (e:jb x h=true):Lw X.K "dict" v H:=by
 cases x with
 | ref n =>
  simp only [jb] at e
  split at e
  · rename_i kvs en
    rw [rel] at r
    obtain ⟨a,ea,rfl⟩:=r
    obtain ⟨kws,e1,_⟩:=s.ob n _ a en ea
    exact .inr (.inr (.inl ⟨rfl,.inl ⟨kws,e1⟩⟩))
  · exact nomatch e
 | _=>exact nomatch e
noncomputable def fM:PV->List PV->PH->RV PV:=fun x vs h=>match x,vs with
 | .ref n,[.ref m]=>(match h[n]?,h[m]? with
  | some (.dct kvs),some (.dct more)=>if n≠m∧kvs.length+more.length<=sizeLine then .ok .non (h.set n (.dct (bJ kvs more))) else .no
  | _,_=> .no)
 | _,_=> .no
theorem Ay:c9 X pg k-> ∃ r,DI X "dict.update" r∧Kj X.K "dict" r fM jb:=fun A=>⟨_,xj,fun ρ h H x x' s r e=>xx s r e,fun ρ h H x x' xs us Q v h' s rx rs q P=>by
 unfold fM at q
 split at q
 · rename_i n m
   split at q
   · rename_i kvs more en em
     split at q
     · rename_i hl
       cases q
       rw [rel] at rx
       obtain ⟨a,ea,rfl⟩:=rx
       obtain ⟨kws,e1,e2⟩:=s.ob n _ a en ea
       obtain ⟨u,rfl,r⟩:=bA rs
       rw [rel] at r
       obtain ⟨b,eb,rfl⟩:=r
       obtain ⟨mws,d1,d2⟩:=s.ob m _ b em eb
       have hab:a≠b:=fun e=>hl.1 (s.nd n m a _ _ en em rfl rfl ea (e ▸ eb))
       have g:Gr ρ H ρ (upd H a (.dK (cA kws mws))):=Gr.write (.inr ⟨_,e1⟩)
       exact ⟨a,b,kws,mws,rfl,rfl,hab,e1,d1,by rw [<- RK.len e2,<- RK.len d2];exact hl.2,P _ ρ _ g (s.write en ea rfl rfl ⟨_,aY,RK.merge (Paired.eP g d2) (Paired.eP g e2)⟩) (by rw [rel])⟩
     · exact nomatch q
   · exact nomatch q
 · exact nomatch q⟩
end
section
variable {h:PH} {n m:Nat} {kvs more:List (Key × PV)}
theorem Na (e1:h[n]?=some (.dct kvs)) (e2:h[m]?=some (.dct more)) (hn:n≠m) (hl:kvs.length+more.length<=1000):fM (.ref n) [.ref m] h= .ok .non (h.set n (.dct (bJ kvs more))):=by
 have z:kvs.length+more.length<=sizeLine:=Nat.le_trans hl (by decide)
 simp only [fM,e1,e2,if_pos (And.intro hn z)]
theorem L5 (e1:h[n]?=some (.dct kvs)):jb (.ref n) h=true:=by simp only [jb,e1]
end
section
variable {prog:Program} {w:World} {A:Around} {E:Value->Shared->Prop}
theorem rT {g g':Heap} {l b:Addr} {us:Array Value} (h:g.IsList l us) (ne:l≠b) (sb:Heap.SameBut b g g'):g'.IsList l us :=
 let ⟨o,e1,e2,e3⟩:=h;⟨o,(sb.2 l ne).trans e1,e2,e3⟩
theorem zH {b l : Addr} {us : Array Value} (ne : l ≠ b) : ∀ (n i : Nat) (s : Shared) (R : List Value -> Shared -> Prop), s.heap.IsListIter b l i -> s.heap.IsList l us -> i + n <= us.size ->
    (∀ g, g.IsListIter b l (i + n) -> Heap.SameBut b s.heap g -> R ((us.toList.drop i).take n) { s with heap := g }) -> wpAny (model prog w) A (draw (.ref b) n) R E s := by
  intro n
  induction n with
  | zero => intro i s R h1 _ _ q; exact wpAny_pure (q s.heap h1 (Heap.SameBut.refl _ _))
  | succ n ih =>
    intro i s R h1 h2 hn q
    have hi : i < us.size := by omega
    unfold draw
    refine wpAny_bind (wpAny_pyNext_list_item h1 h2 (x := us[i]) (by simp [hi]) fun g g1 gs => ?_)
    refine wpAny_bind (wpAny_holding (ih (i + 1) _ _ g1 (rT h2 ne gs) (by omega) fun g' g1' gs' => wpAny_pure ?_))
    have e : us.toList.drop i = us[i] :: us.toList.drop (i + 1) := by rw [List.drop_eq_getElem_cons (by simpa using hi)]; simp
    have r := q g' (by have e2 : i + (n + 1) = i + 1 + n := by omega
                       rw [e2]; exact g1') (gs.trans gs')
    rw [e, List.take_succ_cons] at r
    exact r
theorem ua {env:Env} {es:List Expr} {j:Nat} {pos:Pos} {l:Addr} {us:Array Value} {s:Shared} {R:Unit->Shared->Prop} (hh:A.handled=none) (hl:s.heap.IsList l us) (hn:(assignEach es env).length=us.size) (hst:(assignEach es env).findIdx? (·.1)=none)
  (q: ∀ g,(∀ b o,s.heap.get? b=some o->g.get? b=some o)->wpAny (model prog w) A (assignInOrder ((assignEach es env).map (·.2)) us.toList) R E { s with heap:=g }):wpAny (model prog w) A (assign (.Tuple es j pos) env (.ref l)) R E s:=by
 have ne:l≠s.heap.objs.size:=by obtain ⟨o,ho,_⟩:=hl;exact Nat.ne_of_lt (Heap.lt_size ho)
 rw [assign_Tuple]
 refine wpAny_bind (wpAny_standAt ?_)
 unfold unpack
 rw [hn,hst]
 refine wpAny_bind ?_;refine wpAny_holding ?_
 unfold unpackItems notIterableAtAll
 refine wpAny_bind (wpAny_bind (wpAny_specialOf hl.typeIs slot_list_iter.lookup (wpAny_pure ?_)))
 simp only [if_false,Bool.false_eq_true]
 refine wpAny_bind ?_;refine wpAny_holding (wpAny_pyIter_list hl ?_)
 have l1:(s.heap.push { cls:= .type "list_iterator",data:= .fields #[.ref l,.int 0 0] }).IsList l us:=let ⟨o,e1,e2,e3⟩:=hl;⟨o,Heap.get?_push_of_some _ e1,e2,e3⟩
 refine wpAny_bind (wpAny_holding (zH ne us.size 0 _ _ ⟨_,Heap.get?_push_size _ rfl,rfl,rfl⟩ l1 (by omega) fun g g1 gs=>?_))
 have al:(us.toList.drop 0).take us.size=us.toList:=by rw [List.drop_zero,List.take_of_length_le (by simp)]
 rw [al,if_neg (by simp)]
 refine wpAny_bind (wpAny_holding (wpAny_pyNext_list_end hh g1 (rT l1 ne gs) (by simp) fun g' ge=>?_))
 simp only [if_false,Option.isSome_none,Bool.false_eq_true]
 refine wpAny_pure (q g' fun b o e=>?_)
 have hb:b≠s.heap.objs.size:=Nat.ne_of_lt (Heap.lt_size e)
 exact ge b o hb ((gs.2 b hb).trans (Heap.get?_push_of_some _ e))
end
section
variable {X:Cx} {pg:Tb} {k:Nat} {pos:Pos} {es:List Expr} {gs:List PV->ax->PH->RV ax}
noncomputable def Lb (K:PySem.W.Frag) (n:Nat) (t:oV):TG:=fun v σ H Q=>sZ K n t v σ H Q∨ ∃ a xs,v= .ref a∧gm K H a xs∧xs.length=n∧t xs σ H Q
theorem Dv {j:Nat} {t:oV} {n:Nat} (hc:X.calm=true) (h:Er X es t) (hn:(assignEach es X.env).length=n:=by rfl) (hst:(assignEach es X.env).findIdx? (·.1)=none:=by rfl):QG X (.Tuple es j pos) (Lb X.K n t):=⟨by
 intro pins s σ H v u Q I r hw
 rcases hw with hw | ⟨a,xs,e1,hq,hl,hw⟩
 · exact (uO hc h hn hst).h pins s σ H v u Q I r hw
 · subst e1
   cases r
   obtain ⟨aw,rv,pl,hz⟩:=I.list hq
   refine ua (I.ok.hd hc) pl.isList (by simp [hn,<- hl,rv.length]) hst fun g kp=>?_
   have I1:Inv X pins σ H { s with heap:=g }:=I.kept (t':=s.toks) kp
   exact h.h pins _ σ H xs _ Q I1 (by simpa using rv) hw⟩
noncomputable def GZ (n:Nat) (g:List PV->ax->PH->RV ax):MG:=fun v e h=>match v with
 | .ref m=>(match h[m]? with
  | some (.lst xs)=>if xs.length=n then g xs e h else .no
  | _=> .no)
 | v=>gT n g v e h
theorem BX {j:Nat} {n:Nat} (h:Js X pg k es gs) (hn:(assignEach es X.env).length=n:=by rfl) (hst:(assignEach es X.env).findIdx? (·.1)=none:=by rfl):JG X pg k (.Tuple es j pos) (GZ n gs):=⟨fun A =>
 let ⟨_,q1,s1⟩:=h.h A;⟨_,Dv A.calm q1 hn hst,fun ρ h H e σ Q v v' e' h' s r rv q P=>by
 unfold GZ at q
 split at q
 · rename_i m
   split at q
   · rename_i xs em
     split at q
     · rename_i hl
       obtain ⟨a,vs,rfl,ea,e1,rr⟩:=s.lst em rv
       exact .inr ⟨a,vs,rfl,.of e1,by rw [<- rr.len];exact hl,s1 ρ h H e σ Q xs vs e' h' s r rr q P⟩
     · exact nomatch q
   · exact nomatch q
 · unfold gT at q
   split at q
   · rename_i xs ex
     obtain ⟨a,vs,rfl,z,rr⟩:=rel.seq ex rv
     split at q
     · rename_i hl
       exact .inl ⟨a,vs,rfl,z,by rw [<- rr.len];exact hl,s1 ρ h H e σ Q xs vs e' h' s r rr q P⟩
     · exact nomatch q
   · exact nomatch q⟩⟩
end
section
variable {n m:Nat} {e:ax} {h:PH} {v:PV} {xs:List PV} {gs:List PV->ax->PH->RV ax}
noncomputable def MM (n:Nat) (gs:List PV->ax->PH->RV ax) (e:ax) (h:PH):Option PO->RV ax
 | some (.lst xs)=>if xs.length=n then gs xs e h else .no
 | _=> .no
theorem vt:Bj (GZ n gs) e v h=(GZ n gs v e h).bind Dl:=(rfl)
theorem yN : GZ n gs (.ref m) e h = MM n gs e h (h[m]?) := by
  unfold GZ MM
  first
    | rfl
    | (simp only; done)
    | (cases h[m]? with
       | none => rfl
       | some o => cases o <;> rfl)
theorem vv {x y:PV}:MM 2 gs e h (some (.lst [x,y]))=gs [x,y] e h:=(rfl)
end
end P3
end
section
open PySem PySem.W PyProof.Rows
namespace P3
open PySem PySem.Spec PyProof.Rows L2
section
variable {α :Type} {p:List α ->Prop}
theorem Ol (h:p []): ∀ us:List α,us.length=0->p us:=fun us e=>by rw [List.length_eq_zero_iff.mp e];exact h
theorem KI {n:Nat} (h: ∀ a: α,∀ us:List α,us.length=n->p (a::us)): ∀ us:List α,us.length=n+1->p us:=fun us e=>by
 cases us with
 | nil=>simp at e
 | cons a r=>exact h a r (by simpa using e)
theorem Mw (h: ∀ a,p [a]): ∀ us:List α,us.length=1->p us:=KI fun a=>Ol (h a)
theorem uY (h: ∀ a b,p [a,b]): ∀ us:List α,us.length=2->p us:=KI fun a=>Mw (h a)
theorem Ba (h: ∀ a b c,p [a,b,c]): ∀ us:List α,us.length=3->p us:=KI fun a=>uY (h a)
theorem Jr (h: ∀ a b c d,p [a,b,c,d]): ∀ us:List α,us.length=4->p us:=KI fun a=>Ba (h a)
theorem Og (h: ∀ a b c d e,p [a,b,c,d,e]): ∀ us:List α,us.length=5->p us:=KI fun a=>Jr (h a)
end
section
variable {X:Cx} {pg:Tb} {k:Nat} {e iter:Expr} {ma:ME} {mt:MT} {mI:MI} {scope:Scope} {ifs:List Expr} {pos spos py vp wp tp:Pos} {y v w:Str} {i j m n:Nat}
theorem GC.of {K:PySem.W.Frag} (h:Nat.ble n i=true):GC K n (fq i) (gN i):=C9 (Nat.le_of_ble_eq_true h)
theorem Hz (hi:JI X pg k (.Name v vp) iter mI)
  (hb: ∀ cl C s₀ H₀ ex pn,(c9 X pg k->QG (eG X [v] scope cl C s₀ H₀ ex pn) (.Name v vp) (fq m))∧JF (eG X [v] scope cl C s₀ H₀ ex pn) pg k ifs mt∧JE (eG X [v] scope cl C s₀ H₀ ex pn) pg k e ma)
  (hm:Nat.ble X.N.length m=true:=by rfl) (hkind:scope.kind= .function:=by rfl) (hlc:gO scope.names X.env.scope.names X.N [v]=true:=by rfl) (hs: ∀ x,foldedSetIterable iter X.env x=pure x:=by intro _;rfl) :
  JE X pg k (.ListComp e [⟨.Name v vp,iter,ifs,0⟩] scope pos) (iA 1 mI (gN m) mt ma):=rL [v] hkind hlc hi hb (GC.of hm) hs
theorem Gg (hi:JI X pg k (.Tuple [.Name v vp,.Name w wp] j tp) iter mI)
  (hb: ∀ cl C s₀ H₀ ex pn,(c9 X pg k->QG (eG X [v,w] scope cl C s₀ H₀ ex pn) (.Tuple [.Name v vp,.Name w wp] j tp) (sZ X.K 2 (kP (fq m) (kP (fq n) wA))))∧JF (eG X [v,w] scope cl C s₀ H₀ ex pn) pg k ifs mt∧JE (eG X [v,w] scope cl C s₀ H₀ ex pn) pg k e ma)
  (hm:Nat.ble X.N.length m=true:=by rfl) (hn:Nat.ble X.N.length n=true:=by rfl) (hkind:scope.kind= .function:=by rfl) (hlc:gO scope.names X.env.scope.names X.N [v,w]=true:=by rfl) (hs: ∀ x,foldedSetIterable iter X.env x=pure x:=by intro _;rfl) :
  JE X pg k (.ListComp e [⟨.Tuple [.Name v vp,.Name w wp] j tp,iter,ifs,0⟩] scope pos) (iA 2 mI (gT 2 (aR (gN m) (aR (gN n) dF))) mt ma):=rL [v,w] hkind hlc hi hb (zQ (jE (GC.of hm) (jE (GC.of hn) vg))) hs
theorem F3 (hN:X.N.Nodup) (hi:JI X pg k (.Name v vp) iter mI)
  (hb: ∀ cl C s₀ H₀ ex pn,(c9 X pg k->QG (eG X [v] scope cl C s₀ H₀ ex pn) (.Name v vp) (fq m))∧JF (eG X [v] scope cl C s₀ H₀ ex pn) pg k ifs mt∧JE (eG X [v] scope cl C s₀ H₀ ex pn) pg k e ma)
  (hm:Nat.ble X.N.length m=true:=by rfl) (hiy:X.N[i]?=some y:=by rfl) (hy:Loc X.env.scope y:=by first | exact Or.inl rfl | exact Or.inr rfl) (hkind:scope.kind= .function:=by rfl) (hlc:gO scope.names X.env.scope.names X.N [v]=true:=by rfl)
  (hsw:swapsWith (.ListComp e [⟨.Name v vp,iter,ifs,0⟩] scope pos) (some (.Name y py)) spos.line X.env=pure true:=by rfl) (hs: ∀ x,foldedSetIterable iter X.env x=pure x:=by intro _;rfl)
  (hf:X.fn y=true∨X.env.scope.names.lookup y=some .local:=by first | exact .inl rfl | exact .inr rfl | assumption) :
  JS X pg k (.Assign [.Name y py] (.ListComp e [⟨.Name v vp,iter,ifs,0⟩] scope pos) spos) (ak (iA 1 mI (gN m) mt ma) (gN i)):=sX [v] i hkind hlc hN hiy hy hi hb (GC.of hm) hsw hs hf
theorem FA (hN:X.N.Nodup) (hi:JI X pg k (.Tuple [.Name v vp,.Name w wp] j tp) iter mI)
  (hb: ∀ cl C s₀ H₀ ex pn,(c9 X pg k->QG (eG X [v,w] scope cl C s₀ H₀ ex pn) (.Tuple [.Name v vp,.Name w wp] j tp) (sZ X.K 2 (kP (fq m) (kP (fq n) wA))))∧JF (eG X [v,w] scope cl C s₀ H₀ ex pn) pg k ifs mt∧JE (eG X [v,w] scope cl C s₀ H₀ ex pn) pg k e ma)
  (hm:Nat.ble X.N.length m=true:=by rfl) (hn:Nat.ble X.N.length n=true:=by rfl) (hiy:X.N[i]?=some y:=by rfl) (hy:Loc X.env.scope y:=by first | exact Or.inl rfl | exact Or.inr rfl) (hkind:scope.kind= .function:=by rfl) (hlc:gO scope.names X.env.scope.names X.N [v,w]=true:=by rfl)
  (hsw:swapsWith (.ListComp e [⟨.Tuple [.Name v vp,.Name w wp] j tp,iter,ifs,0⟩] scope pos) (some (.Name y py)) spos.line X.env=pure true:=by rfl) (hs: ∀ x,foldedSetIterable iter X.env x=pure x:=by intro _;rfl)
  (hf:X.fn y=true∨X.env.scope.names.lookup y=some .local:=by first | exact .inl rfl | exact .inr rfl | assumption) :
  JS X pg k (.Assign [.Name y py] (.ListComp e [⟨.Tuple [.Name v vp,.Name w wp] j tp,iter,ifs,0⟩] scope pos) spos) (ak (iA 2 mI (gT 2 (aR (gN m) (aR (gN n) dF))) mt ma) (gN i)):=sX [v,w] i hkind hlc hN hiy hy hi hb (zQ (jE (GC.of hm) (jE (GC.of hn) vg))) hsw hs hf
end
end P3
end
section
open PySem PySem.W PyProof.Rows
namespace L2
open PySem PySem.Spec PyProof.Rows
theorem qj {a:Str}: ∀ {us:List Value} {ss:List Str},StrsAre us ss-> ∀ (i:Nat) (hu:i < us.length) (hs:i < ss.length),isStrOf a us[i]=(ss[i] == a)
 | _,_,.nil,i,hu,_=>absurd hu (Nat.not_lt_zero i)
 | _,_,.cons x t h,0,_,_=>rfl
 | _,_,.cons x t h,i+1,hu,hs=>qj h i (Nat.lt_of_succ_lt_succ hu) (Nat.lt_of_succ_lt_succ hs)
theorem Jo {a:Str} {ss:List Str} (h:a∈ss):ss.idxOf a < ss.length:=List.idxOf_lt_length_iff.mpr h
section
variable {X:Cx}
noncomputable def Dg:V->List V->Hp->VK->Prop:=fun x vs H Q=> ∃ (l:Addr) (ss:List Str) (a:Str),x= .ref l∧vs=[.str a]∧H l=some (.lst (ss.map V.str))∧a∈ss∧Q .non (upd H l (.lst ((ss.map V.str).eraseIdx (ss.idxOf a))))
theorem wW:NC X "list.remove" Dg:=by
 intro pins s σ H x vs v us Q I rx rv h
 obtain ⟨l,ss,a,rfl,rfl,hH,ha,q⟩:=h
 cases rx
 obtain ⟨u,rfl,t,rfl⟩:=rv.one
 obtain ⟨z,aw,n,r,hl,e⟩:=I.xr hH
 have sa:=jr r
 have ln:aw.length=ss.length:=by rw [<- hl,List.length_map]
 have hj:=Jo ha
 refine call_meets F.slot_list_remove ⟨_,e,rfl⟩ F.entry_list_remove (F.args_list_remove_2 _ _)
  (MeetsSeq.list_remove l aw.toArray n (.str a t) (isStrOf a) (fun y hy=>eq_isStrOf a t sa y (by simpa using hy)) (ss.idxOf a) (by rw [List.size_toArray,ln];exact hj) ?_ ?_ (by rw [List.size_toArray,<- hl];exact z)) ⟨e,?_⟩
 · show isStrOf a (aw[ss.idxOf a]'(by rw [ln];exact hj))=true
   rw [qj sa _ _ hj,List.getElem_idxOf hj,beq_self_eq_true]
 · intro m hm hlt
   have hm':m < ss.length:=by rw [List.size_toArray,ln] at hm;exact hm
   show isStrOf a (aw[m]'(by rw [ln];exact hm'))=false
   rw [qj sa _ _ hm']
   have:=List.not_of_lt_findIdx (p:=(· == a)) (xs:=ss) (i:=m) hlt
   simpa using this
 · refine ⟨.non,_,I.Jj (its':=aw.eraseIdx (ss.idxOf a)) hH e ?_ (r.eraseIdx _) ?_,rfl,q⟩
   · show aw.toArray.eraseIdxIfInBounds (ss.idxOf a)=(aw.eraseIdx (ss.idxOf a)).toArray
     rw [List.eraseIdxIfInBounds_toArray]
   · have:=kc (ss.map V.str) (ss.idxOf a)
     omega
end
end L2
namespace P3
open PySem PySem.Spec PyProof.Rows L2
section
variable {X:Cx} {pg:Tb} {k:Nat}
theorem oT {α β :Type} (f: α -> β): ∀ (l:List α) (i:Nat),(l.map f).eraseIdx i=(l.eraseIdx i).map f
 | [],i=>by simp
 | a::r,0=>rfl
 | a::r,i+1=>by simp [oT f r i]
noncomputable def wu (ss:List Str) (a:Str):List Str:=ss.eraseIdx (ss.idxOf a)
noncomputable def iG:PV->List PV->PH->RV PV:=fun x vs h=>match x,vs with
 | .ref n,[.str a]=>(match h[n]? with
  | some (.lst xs)=>(match fG xs with
   | some ss=>if a∈ss then .ok .non (h.set n (.lst ((wu ss a).map PV.str))) else .no
   | none=> .no)
  | _=> .no)
 | _,_=> .no
theorem zK:c9 X pg k-> ∃ r,DI X "list.remove" r∧Kj X.K "list" r iG cC:=fun A=>⟨_,wW,fun ρ h H x x' s r e=>mn s r e,fun ρ h H x x' xs us Q v h' s rx rs q P=>by
 unfold iG at q
 split at q
 · rename_i n a
   split at q
   · rename_i ys en
     split at q
     · rename_i ss es
       split at q
       · rename_i ha
         cases q
         obtain ⟨b,vs,rfl,ea,e1,e2⟩:=s.lst en rx
         obtain ⟨u,rfl,r⟩:=bA rs
         rw [rel] at r
         subst r
         rw [hZ es,cO] at e2
         subst e2
         have g:Gr ρ H ρ (upd H b (.lst ((ss.map V.str).eraseIdx (ss.idxOf a)))):=Gr.write (.inl ⟨_,e1⟩)
         refine ⟨b,ss,a,rfl,rfl,e1,ha,P _ ρ _ g (s.write en ea rfl rfl ⟨_,aY,?_⟩) (by rw [rel])⟩
         rw [cO,wu,oT]
       · exact nomatch q
     · exact nomatch q
   · exact nomatch q
 · exact nomatch q⟩
noncomputable def oX:PV->List PV->PH->RV PV:=fun x vs h=>match x,vs with
 | .ref n,[.int 0]=>(match h[n]? with
  | some (.lst (y::r))=> .ok y (h.set n (.lst r))
  | _=> .no)
 | _,_=> .no
theorem Ho:c9 X pg k-> ∃ r,DI X "list.pop" r∧Kj X.K "list" r oX cC:=fun A=>⟨_,yG,fun ρ h H x x' s r e=>mn s r e,fun ρ h H x x' xs us Q v h' s rx rs q P=>by
 unfold oX at q
 split at q
 · rename_i n
   split at q
   · rename_i y r en
     cases q
     obtain ⟨b,vs,rfl,ea,e1,e2⟩:=s.lst en rx
     obtain ⟨u,rfl,ru⟩:=bA rs
     rw [rel] at ru
     subst ru
     obtain ⟨v',t,rfl,r1,r2⟩:=aD.mp e2
     have g:Gr ρ H ρ (upd H b (.lst t)):=Gr.write (.inl ⟨_,e1⟩)
     exact ⟨b,v'::t,0,0,v',rfl,rfl,e1,by decide,by decide,by simp [seqIndex?],rfl,P _ ρ _ g (s.write en ea rfl rfl ⟨_,aY,au.gr g _ _ r2⟩) (rel.gr g _ _ r1)⟩
   · exact nomatch q
 · exact nomatch q⟩
end
section
variable {h:PH} {n:Nat} {ss:List Str} {a:Str} {y:PV} {r:List PV}
theorem ML (e:h[n]?=some (.lst (ss.map PV.str))) (ha:a∈ss):iG (.ref n) [.str a] h= .ok .non (h.set n (.lst ((wu ss a).map PV.str))):=by
 simp only [iG,e,dR,if_pos ha]
theorem Ks (e:h[n]?=some (.lst (y::r))):oX (.ref n) [.int 0] h= .ok y (h.set n (.lst r)):=by
 simp only [oX,e]
end
section
variable {X:Cx} {pg:Tb} {k i:Nat} {e:Expr} {x:Str} {ma:ME} {pos pos':Pos}
noncomputable def rA:PV->PV->PH->RV PV:=fun x y h=>match x,y with
 | .int a,.int b=> .ok (.int (a+b)) h
 | _,_=> .no
theorem HW (hN:X.N.Nodup) (he:JE X pg k e ma) (hi:X.N[i]?=some x:=by rfl) (hx:Loc X.env.scope x:=by first | exact Or.inl rfl | exact Or.inr rfl) (hf:X.fn x=true∨X.env.scope.names.lookup x=some .local:=by first | exact .inl rfl | exact .inr rfl | assumption) :
  JS X pg k (.AugAssign (.Name x pos') .Add e pos) (ak (af rA (ab i) ma) (gN i)):=⟨fun A=>by
 obtain ⟨_,q1,s1⟩:=he.h A
 refine ⟨_,⟨FG hN hi hx q1.h E6 hf⟩,fun ρ h H e σ D f h' s r q P=>?_⟩
 obtain ⟨v,h1,e1,q⟩:=bind_eq.mp q
 obtain ⟨e2,h2,e3,q⟩:=bind_eq.mp q
 cases q
 cases e3
 obtain ⟨a,h3,e4,e8⟩:=bind_eq.mp e1
 obtain ⟨b,h4,e5,e9⟩:=bind_eq.mp e8
 unfold ab at e4
 split at e4
 · cases e4
   rename_i en
   obtain ⟨v',e6,e7⟩:=r.get i a en
   unfold rA at e9
   split at e9
   · cases e9
     skip
     rw [rel] at e7
     subst e7
     refine ⟨_,e6,s1 ρ h H e σ _ _ _ s r e5 fun w ρ1 H1 g1 z1 r1=>?_⟩
     rw [rel] at r1
     subst r1
     exact ⟨_,_,rfl,rfl,P _ ρ1 H1 g1 z1 ((r.gr g1).set i (by rw [rel]))⟩
   · exact nomatch e9
 · exact nomatch e4⟩
theorem B7 {a b:Int} {h:PH}:rA (.int a) (.int b) h= .ok (.int (a+b)) h:=(rfl)
end
section
variable {X:Cx} {pg:Tb} {k j n:Nat} {es:List Expr} {t:oV} {pos:Pos} {vars:List Str} {scope:Scope} {cl:List (Str × Addr)} {C:Addr} {s0:Shared} {H0:Hp} {ex:List Addr} {pn:List (Addr × Obj)}
theorem C6 (A:c9 X pg k) (h:Er (eG X vars scope cl C s0 H0 ex pn) es t) (hn:(assignEach es (eG X vars scope cl C s0 H0 ex pn).env).length=n:=by rfl) (hst:(assignEach es (eG X vars scope cl C s0 H0 ex pn).env).findIdx? (·.1)=none:=by rfl):QG (eG X vars scope cl C s0 H0 ex pn) (.Tuple es j pos) (sZ X.K n t):=uO A.calm h hn hst
end
end P3
end
section
open PySem PySem.W PyProof.Rows
set_option maxHeartbeats 5000000
namespace K12
open PySem L2 P3 PyProof.Rows
noncomputable def top (i:Nat):Stmt:=PySem.Challenge.pw_leastrecord_k12_whole_hands_alone.main.body.getD i (.Pass ⟨0,0,0,0⟩)
noncomputable def aL:List (Key × PV):=[(.inr "let",(.ktup [(.str "pocket"),(.str "sum")])),(.inr "leap",(.ktup [(.str "target"),(.str "sum")])),(.inr "get",(.ktup [(.str "pocket"),(.str "box")])),(.inr "put",(.ktup [(.str "box"),(.str "sum")])),(.inr "take",(.ktup [(.str "lock")])),(.inr "free",(.ktup [(.str "lock")])),(.inr "send",(.ktup [(.str "lane"),(.str "sum")])),(.inr "fetch",(.ktup [(.str "pocket"),(.str "lane")])),(.inr "say",(.ktup [(.str "door"),(.str "sum")])),(.inr "clock",(.ktup [(.str "pocket")])),(.inr "lot",(.ktup [(.str "pocket"),(.str "chances")])),(.inr "hear",(.ktup [(.str "pocket"),(.str "door")]))]
noncomputable def ir:MS :=
  (ag (ak (af aq (ab 0) (eC (.int 0))) (gN 2))
  (ag (bu (ar (af cu (ab 2) (eC (.str "num")))) (aB (af aq (ab 0) (eC (.int 1)))) bD)
  (ag (bu (ar (af cu (ab 2) (eC (.str "of")))) (aB (uT (eB eF (aa (ab 1) ae)) (af aq (ab 0) (eC (.int 1))) (eC (.int 0)))) bD)
  (ag (ak (ah "worth" (aa (af aq (ab 0) (eC (.int 1))) (aa (ab 1) ae))) (gN 3))
  (ag (bu (ar (af cu (ab 2) (eC (.str "not")))) (aB (AZ (ar (af cu (ab 3) (eC (.int 0)))) (eC (.int 1)) (eC (.int 0)))) bD)
  (aB (ah "joined_worth" (aa (ab 2) (aa (ab 3) (aa (ah "worth" (aa (af aq (ab 0) (eC (.int 2))) (aa (ab 1) ae))) ae))))))))))
noncomputable def fK:Df:=⟨["tree", "pockets"],2,ir⟩
noncomputable def fk:MS :=
  (ag (bu (ar (af cu (ab 0) (eC (.str "add")))) (aB (af fw (af aG (ab 1) (ab 2)) (eC (.int 1000)))) bD)
  (ag (bu (ar (af cu (ab 0) (eC (.str "sub")))) (aB (af fw (af sF (ab 1) (ab 2)) (eC (.int 1000)))) bD)
  (ag (bu (ar (af cu (ab 0) (eC (.str "mul")))) (aB (af fw (af eQ (ab 1) (ab 2)) (eC (.int 1000)))) bD)
  (ag (bu (ar (af cu (ab 0) (eC (.str "less")))) (aB (AZ (ar (af xG (ab 1) (ab 2))) (eC (.int 1)) (eC (.int 0)))) bD)
  (aB (AZ (ar (af cu (ab 1) (ab 2))) (eC (.int 1)) (eC (.int 0))))))))
noncomputable def cG:Df:=⟨["word", "one", "other"],0,fk⟩
noncomputable def kC:MS :=
  (aB (af aq (af aq (af aq (ab 0) (eC (.int 4))) (ab 1)) (eC (.int 1))))
noncomputable def gc:Df:=⟨["program", "hand"],0,kC⟩
noncomputable def gG:MS :=
  (aB (ah "rested" (aa (ab 0) (aa (ab 1) (aa (ay (aa (eC (.int 0)) (aa (ay ae) (aa (ay ae) ae)))) ae)))))
noncomputable def dz:Df:=⟨["program", "hand"],0,gG⟩
noncomputable def mX:MS :=
  (ag (ak (ah "rows_of" (aa (ab 0) (aa (ab 1) ae))) (gN 3))
  (ag (ak (ab 2) (gN 4))
  (ag (gX (df (aa (eC (.int 200)) ae)) (gN 5) (ag (bu (ar (ah "is_rested" (aa (ab 3) (aa (ab 4) ae)))) (aB (ab 4)) bD)
  (ak (ah "behind_own_row" (aa (af aq (ab 3) (af aq (ab 4) (eC (.int 0)))) (aa (ab 4) ae))) (gN 4))))
  (ag (bu (ar (ah "is_rested" (aa (ab 3) (aa (ab 4) ae)))) (aB (ab 4)) bD)
  (aB (ay (aa (eB bE (aa (ab 3) ae)) (aa (af aq (ab 4) (eC (.int 1))) (aa (af aq (ab 4) (eC (.int 2))) ae)))))))))
noncomputable def g7:Df:=⟨["program", "hand", "seat"],3,mX⟩
noncomputable def fE:MS :=
  (aB (Mp (af cu (af aq (ab 1) (eC (.int 0))) (eB bE (aa (ab 0) ae))) (GL (ah "is_own_row" (aa (af aq (ab 0) (af aq (ab 1) (eC (.int 0)))) (aa (af aq (ab 1) (eC (.int 2))) ae))))))
noncomputable def dj:Df:=⟨["rows", "seat"],0,fE⟩
noncomputable def gC:MS :=
  (ag (bu (ar (af cu (af aq (ab 0) (eC (.int 0))) (eC (.str "take")))) (aB (af ju (af aq (ab 0) (eC (.int 1))) (ab 1))) bD)
  (ag (bu (ar (af cu (af aq (ab 0) (eC (.int 0))) (eC (.str "free")))) (aB (af gE (af aq (ab 0) (eC (.int 1))) (ab 1))) bD)
  (aB (Mp (af cu (af aq (ab 0) (eC (.int 0))) (eC (.str "let"))) (af cu (af aq (ab 0) (eC (.int 0))) (eC (.str "leap")))))))
noncomputable def dv:Df:=⟨["row", "held"],0,gC⟩
noncomputable def bZ:MS :=
  (ag (ak (af aG (af aq (ab 1) (eC (.int 0))) (eC (.int 1))) (gN 2))
  (ag (bu (ar (af cu (af aq (ab 0) (eC (.int 0))) (eC (.str "let")))) (aB (ay (aa (ab 2) (aa (ah "laid" (aa (af aq (ab 1) (eC (.int 1))) (aa (af aq (ab 0) (eC (.int 1))) (aa (ah "worth" (aa (af aq (ab 0) (eC (.int 2))) (aa (af aq (ab 1) (eC (.int 1))) ae))) ae)))) (aa (af aq (ab 1) (eC (.int 2))) ae))))) bD)
  (ag (bu (kF (ar (af cu (af aq (ab 0) (eC (.int 0))) (eC (.str "leap")))) (ar (af gS (ah "worth" (aa (af aq (ab 0) (eC (.int 2))) (aa (af aq (ab 1) (eC (.int 1))) ae))) (eC (.int 0))))) (aB (ay (aa (af aq (ab 0) (eC (.int 1))) (aa (af aq (ab 1) (eC (.int 1))) (aa (af aq (ab 1) (eC (.int 2))) ae))))) bD)
  (aB (ay (aa (ab 2) (aa (af aq (ab 1) (eC (.int 1))) (aa (af aq (ab 1) (eC (.int 2))) ae))))))))
noncomputable def br:Df:=⟨["row", "seat"],1,bZ⟩
noncomputable def qx:MS :=
  (ag (ak (iA 1 (iE (ab 0)) (gN 4) (ar (af gS (af aq (ab 4) (eC (.int 0))) (ab 1))) (ab 4)) (gN 3))
  (ag (bu (ar (af gS (ab 2) (eC (.int 0)))) (dN (eM bT cC (ab 3) (aa (ay (aa (ab 1) (aa (ab 2) ae))) ae))) bD)
  (aB (eB aJ (aa (eB bG (aa (ab 3) ae)) ae)))))
noncomputable def kr:Df:=⟨["pockets", "name", "value"],1,qx⟩
noncomputable def ft:MS :=
  (ag (ak (ah "rows_of" (aa (ab 0) (aa (ab 1) ae))) (gN 3))
  (ag (bu (ar (af cu (af aq (ab 2) (eC (.int 0))) (eB bE (aa (ab 3) ae)))) (aB (eC .non)) bD)
  (ag (ak (af aq (ab 3) (af aq (ab 2) (eC (.int 0)))) (gN 4))
  (ag (ak (eC (.str "")) (gN 5))
  (ag (ak (eC .non) (gN 6))
  (ag (gX (Fq (y6 aL (af aq (ab 4) (eC (.int 0)))) (kO (ab 4) (bX (eC (.int 1))) bY)) (gT 2 (aR (gN 7) (aR (gN 8) dF))) (bu (ar (af cu (ab 7) (eC (.str "sum")))) (ak (ah "worth" (aa (ab 8) (aa (af aq (ab 2) (eC (.int 1))) ae))) (gN 6)) (bu (ar (af cu (ab 7) (eC (.str "chances")))) (ak (ab 8) (gN 6)) (bu (ar (af gS (ab 7) (eC (.str "pocket")))) (ak (ab 8) (gN 5)) bD))))
  (aB (ay (aa (af aq (ab 4) (eC (.int 0))) (aa (ab 5) (aa (ab 6) ae)))))))))))
noncomputable def di:Df:=⟨["program", "hand", "seat"],6,ft⟩
noncomputable def bc:MS :=
  (ag (ak (af aq (ah "rows_of" (aa (ab 0) (aa (ab 1) ae))) (af aq (ab 2) (eC (.int 0)))) (gN 4))
  (ag (ak (af aq (ab 2) (eC (.int 1))) (gN 5))
  (ag (ak (af aq (ab 2) (eC (.int 2))) (gN 6))
  (ag (bu (ar (af ju (af aq (ab 4) (eC (.int 0))) (eC (.ktup [(.str "get"),(.str "fetch"),(.str "clock"),(.str "lot"),(.str "hear")])))) (ak (ah "laid" (aa (ab 5) (aa (af aq (ab 4) (eC (.int 1))) (aa (ab 3) ae)))) (gN 5)) (bu (ar (af cu (af aq (ab 4) (eC (.int 0))) (eC (.str "take")))) (ak (eB aJ (aa (eB bG (aa (af aG (ab 6) (ay (aa (af aq (ab 4) (eC (.int 1))) ae))) ae)) ae)) (gN 6)) (bu (ar (af cu (af aq (ab 4) (eC (.int 0))) (eC (.str "free")))) (ak (eB aJ (aa (iA 1 (iE (ab 6)) (gN 7) (ar (af gS (ab 7) (af aq (ab 4) (eC (.int 1))))) (ab 7)) ae)) (gN 6)) bD)))
  (aB (ah "rested" (aa (ab 0) (aa (ab 1) (aa (ay (aa (af aG (af aq (ab 2) (eC (.int 0))) (eC (.int 1))) (aa (ab 5) (aa (ab 6) ae)))) ae)))))))))
noncomputable def aS:Df:=⟨["program", "hand", "seat", "value"],3,bc⟩
noncomputable def mB:MS :=
  (ag (ak (ab 2) (gN 4))
  (ag (ak (aQ ae) (gN 5))
  (ag (ak (eC (.int 0)) (gN 6))
  (ag (mO (ar (af xG (eB bE (aa (ab 5) ae)) (eC (.int 60)))) (ag (ak (ah "touch_of" (aa (ab 0) (aa (ab 1) (aa (ab 4) ae)))) (gN 7))
  (ag (bu (ar (pQ (cZ false) (ab 7))) j5 bD)
  (ag (ak (af aq (ab 7) (eC (.int 2))) (gN 8))
  (ag (bu (ar (af ju (af aq (ab 7) (eC (.int 0))) (eC (.ktup [(.str "get"),(.str "fetch"),(.str "clock"),(.str "lot"),(.str "hear")])))) (ag (bu (ar (af cu (ab 6) (eB bE (aa (ab 3) ae)))) j5 bD)
  (ag (ak (af aq (ab 3) (ab 6)) (gN 8))
  (ak (af rA (ab 6) (eC (.int 1))) (gN 6)))) bD)
  (ag (dN (eM bT cC (ab 5) (aa (ay (aa (af aq (ab 7) (eC (.int 0))) (aa (af aq (ab 7) (eC (.int 1))) (aa (ab 8) ae)))) ae)))
  (ak (ah "seat_behind" (aa (ab 0) (aa (ab 1) (aa (ab 4) (aa (ab 8) ae))))) (gN 4))))))))
  (aB (ay (aa (eB aJ (aa (ab 5) ae)) (aa (ab 4) ae))))))))
noncomputable def gU:Df:=⟨["program", "hand", "seat", "values"],5,mB⟩
noncomputable def dm:MS :=
  (ag (ak (AZ (ar (af uh (eB bE (aa (ab 0) ae)) (eC (.int 0)))) (af aq (ab 0) (af fw (ab 1) (eB bE (aa (ab 0) ae)))) (eC (.int 0))) (gN 3))
  (ag (ak (ab 3) (gN 4))
  (ag (bu (ar (af Nk (ab 3) (af Bx (eC (.int 10)) (eC (.int 18))))) (ag (gX (df (aa (af fw (af nO (ab 1) (eB bE (aa (ab 0) ae))) (eC (.int 60))) ae)) (gN 5) (ak (af nO (ab 4) (eC (.int 1000003))) (gN 4)))
  (bu (ar (af uh (ab 4) (eC (.int 0)))) (aB (af fw (af fw (af nO (ab 4) (eC (.int 2))) (eC (.int 500009))) (ab 2))) bD)) bD)
  (ag (ak (af aG (af aG (af fw (ab 3) (eC (.int 1000003))) (af eQ (af eQ (eC (.int 31)) (ab 1)) (ab 1))) (eC (.int 1))) (gN 6))
  (aB (af fw (af fw (af eQ (af fw (af eQ (ab 6) (eC (.int 48271))) (eC (.int 999983))) (eC (.int 7919))) (eC (.int 524287))) (ab 2)))))))
noncomputable def cg:Df:=⟨["_law_script", "_law_k", "_law_many"],4,dm⟩
noncomputable def gY:MS :=
  (ag (jP iP (ab 0) (eC (.str "k")) (af aG (af aq (ab 0) (eC (.str "k"))) (eC (.int 1))))
  (aB (ah "_law_draw" (aa (af aq (ab 0) (eC (.str "script"))) (aa (af aq (ab 0) (eC (.str "k"))) (aa (ab 1) ae))))))
noncomputable def d9:Df:=⟨["_law_state", "_law_many"],0,gY⟩
noncomputable def gu:MS :=
  (ag (ak (aQ (aa (eC (.str "a")) (aa (eC (.str "ab")) (aa (eC (.str "abc")) (aa (eC (.str "lets")) (aa (eC (.str "leaper")) (aa (eC (.str "getit")) (aa (eC (.str "puts")) (aa (eC (.str "taken")) (aa (eC (.str "freed")) (aa (eC (.str "sender")) (aa (eC (.str "fetched")) (aa (eC (.str "says")) ae))))))))))))) (gN 1))
  (ag (ak (af aG (ab 1) (aQ (aa (eC (.str "clocks")) (aa (eC (.str "lots")) (aa (eC (.str "hearth")) (aa (eC (.str "added")) (aa (eC (.str "subway")) (aa (eC (.str "mulled")) (aa (eC (.str "lesser")) (aa (eC (.str "samey")) (aa (eC (.str "nothing")) ae))))))))))) (gN 1))
  (ag (ak (af aG (ab 1) (aQ (aa (eC (.str "boxes")) (aa (eC (.str "locker")) (aa (eC (.str "lanes")) (aa (eC (.str "doors")) (aa (eC (.str "hands")) (aa (eC (.str "b")) (aa (eC (.str "zzzzzzzz")) (aa (eC (.str "of")) (aa (eC (.str "num")) ae))))))))))) (gN 1))
  (ag (ak (ah "_law_pick" (aa (ab 0) (aa (eB bE (aa (ab 1) ae)) ae))) (gN 2))
  (aB (af aG (kO (ab 1) (bX (ab 2)) bY) (kO (ab 1) bY (bX (ab 2)))))))))
noncomputable def dC:Df:=⟨["_law_state"],2,gu⟩
noncomputable def bM:MS :=
  (ag (ak (ah "_law_pick" (aa (ab 0) (aa (eC (.int 9)) ae))) (gN 3))
  (ag (bu (kF (ar (af xG (ab 2) (eC (.int 5)))) (kF (ar (af uh (ab 3) (eC (.int 2)))) (ar (af uh (af aq (ab 0) (eC (.str "left"))) (eC (.int 1)))))) (ag (jP iP (ab 0) (eC (.str "left")) (af sF (af aq (ab 0) (eC (.str "left"))) (eC (.int 2))))
  (ag (ak (af aq (aQ (aa (eC (.str "add")) (aa (eC (.str "sub")) (aa (eC (.str "mul")) (aa (eC (.str "less")) (aa (eC (.str "same")) ae)))))) (ah "_law_pick" (aa (ab 0) (aa (eC (.int 5)) ae)))) (gN 4))
  (ag (ak (ah "_law_sum_in" (aa (ab 0) (aa (ab 1) (aa (af aG (ab 2) (eC (.int 1))) ae)))) (gN 5))
  (aB (ay (aa (ab 4) (aa (ab 5) (aa (ah "_law_sum_in" (aa (ab 0) (aa (ab 1) (aa (af aG (ab 2) (eC (.int 1))) ae)))) ae)))))))) bD)
  (ag (bu (kF (ar (af xG (ab 2) (eC (.int 5)))) (kF (ar (af cu (ab 3) (eC (.int 2)))) (ar (af uh (af aq (ab 0) (eC (.str "left"))) (eC (.int 0)))))) (ag (jP iP (ab 0) (eC (.str "left")) (af sF (af aq (ab 0) (eC (.str "left"))) (eC (.int 1))))
  (aB (ay (aa (eC (.str "not")) (aa (ah "_law_sum_in" (aa (ab 0) (aa (ab 1) (aa (af aG (ab 2) (eC (.int 1))) ae)))) ae))))) bD)
  (ag (bu (ar (af cu (af fw (ab 3) (eC (.int 2))) (eC (.int 0)))) (aB (ay (aa (eC (.str "num")) (aa (af aq (aQ (aa (eC (.int 0)) (aa (eC (.int 1)) (aa (eC (.int 2)) (aa (eC (.int 999)) (aa (ah "_law_pick" (aa (ab 0) (aa (eC (.int 1000)) ae))) ae)))))) (ah "_law_pick" (aa (ab 0) (aa (eC (.int 5)) ae)))) ae)))) bD)
  (aB (ay (aa (eC (.str "of")) (aa (af aq (ab 1) (ah "_law_pick" (aa (ab 0) (aa (eB bE (aa (ab 1) ae)) ae)))) ae))))))))
noncomputable def bb:Df:=⟨["_law_state", "_law_pockets", "_law_deep"],3,bM⟩
noncomputable def jm:MS :=
  (ag (jP iP (ab 0) (eC (.str "left")) (af aq (aQ (aa (eC (.int 0)) (aa (eC (.int 2)) (aa (eC (.int 5)) (aa (eC (.int 11)) ae))))) (ah "_law_pick" (aa (ab 0) (aa (eC (.int 4)) ae)))))
  (aB (ah "_law_sum_in" (aa (ab 0) (aa (ab 1) (aa (eC (.int 1)) ae))))))
noncomputable def eY:Df:=⟨["_law_state", "_law_pockets"],0,jm⟩
noncomputable def i8:MS :=
  (ag (ak (aQ (aa (eC (.str "let")) (aa (eC (.str "let")) (aa (eC (.str "leap")) (aa (eC (.str "clock")) (aa (eC (.str "lot")) ae)))))) (gN 4))
  (ag (gX (iE (aQ (aa (ay (aa (eC (.str "box")) (aa (aQ (aa (eC (.str "get")) (aa (eC (.str "put")) ae))) ae))) (aa (ay (aa (eC (.str "lock")) (aa (aQ (aa (eC (.str "take")) (aa (eC (.str "free")) ae))) ae))) (aa (ay (aa (eC (.str "lane")) (aa (aQ (aa (eC (.str "send")) (aa (eC (.str "fetch")) ae))) ae))) ae))))) (gT 2 (aR (gN 5) (aR (gN 6) dF))) (bu (ar (af gS (af aq (ab 1) (ab 5)) (aQ ae))) (ak (af aG (af aG (ab 4) (ab 6)) (ab 6)) (gN 4)) bD))
  (ag (bu (ar (af gS (af aq (ab 1) (eC (.str "door"))) (aQ ae))) (ak (af aG (ab 4) (aQ (aa (eC (.str "say")) (aa (eC (.str "hear")) (aa (eC (.str "say")) ae))))) (gN 4)) bD)
  (ag (ak (af aq (ab 4) (ah "_law_pick" (aa (ab 0) (aa (eB bE (aa (ab 4) ae)) ae)))) (gN 7))
  (ag (ak (af aq (ab 2) (ah "_law_pick" (aa (ab 0) (aa (eB bE (aa (ab 2) ae)) ae)))) (gN 8))
  (ag (ak (pO (eV (eC (.str "get")) (eC (.str "box")) (eV (eC (.str "put")) (eC (.str "box")) (eV (eC (.str "take")) (eC (.str "lock")) (eV (eC (.str "free")) (eC (.str "lock")) (eV (eC (.str "send")) (eC (.str "lane")) (eV (eC (.str "fetch")) (eC (.str "lane")) xi))))))) (gN 9))
  (ag (dN (eM fM jb (ab 9) (aa (pO (eV (eC (.str "say")) (eC (.str "door")) (eV (eC (.str "hear")) (eC (.str "door")) xi))) ae)))
  (ag (bu (ar (af cu (ab 7) (eC (.str "let")))) (aB (ay (aa (eC (.str "let")) (aa (ab 8) (aa (ah "_law_sum" (aa (ab 0) (aa (ab 2) ae))) ae))))) bD)
  (ag (bu (ar (af cu (ab 7) (eC (.str "leap")))) (aB (ay (aa (eC (.str "leap")) (aa (ah "_law_pick" (aa (ab 0) (aa (af aG (ab 3) (eC (.int 1))) ae))) (aa (ah "_law_sum" (aa (ab 0) (aa (ab 2) ae))) ae))))) bD)
  (ag (bu (ar (af cu (ab 7) (eC (.str "clock")))) (aB (ay (aa (eC (.str "clock")) (aa (ab 8) ae)))) bD)
  (ag (bu (ar (af cu (ab 7) (eC (.str "lot")))) (aB (ay (aa (eC (.str "lot")) (aa (ab 8) (aa (af aq (aQ (aa (eC (.int 2)) (aa (eC (.int 3)) (aa (eC (.int 1000)) (aa (af aG (eC (.int 2)) (ah "_law_pick" (aa (ab 0) (aa (eC (.int 999)) ae)))) ae))))) (ah "_law_pick" (aa (ab 0) (aa (eC (.int 4)) ae)))) ae))))) bD)
  (ag (ak (af aq (ab 1) (af aq (ab 9) (ab 7))) (gN 6))
  (ag (ak (af aq (ab 6) (ah "_law_pick" (aa (ab 0) (aa (eB bE (aa (ab 6) ae)) ae)))) (gN 10))
  (ag (bu (ar (af ju (ab 7) (ay (aa (eC (.str "take")) (aa (eC (.str "free")) ae))))) (aB (ay (aa (ab 7) (aa (ab 10) ae)))) bD)
  (ag (bu (ar (af ju (ab 7) (ay (aa (eC (.str "get")) (aa (eC (.str "fetch")) (aa (eC (.str "hear")) ae)))))) (aB (ay (aa (ab 7) (aa (ab 8) (aa (ab 10) ae))))) bD)
  (aB (ay (aa (ab 7) (aa (ab 10) (aa (ah "_law_sum" (aa (ab 0) (aa (ab 2) ae))) ae))))))))))))))))))))
noncomputable def eT:Df:=⟨["_law_state", "_law_named", "_law_pockets", "_law_many"],7,i8⟩
noncomputable def fc:MS :=
  (ag (ak (ah "_law_names" (aa (ab 0) ae)) (gN 1))
  (ag (ak m6 (gN 2))
  (ag (gX (iE (aQ (aa (eC (.str "box")) (aa (eC (.str "lock")) (aa (eC (.str "lane")) (aa (eC (.str "door")) (aa (eC (.str "hand")) ae))))))) (gN 3) (ag (ak (ah "_law_pick" (aa (ab 0) (aa (eC (.int 5)) ae))) (gN 4))
  (ag (bu (ar (af cu (ab 3) (eC (.str "hand")))) (ak (af aG (eC (.int 1)) (af fw (ab 4) (eC (.int 4)))) (gN 4)) bD)
  (ag (jP iP (ab 2) (ab 3) (kO (ab 1) bY (bX (ab 4))))
  (ak (kO (ab 1) (bX (ab 4)) bY) (gN 1))))))
  (ag (ak (af aG (af aG (af aG (kO (ab 1) bY (bX (eC (.int 2)))) (kO (af aq (ab 2) (eC (.str "box"))) bY (bX (eC (.int 1))))) (kO (af aq (ab 2) (eC (.str "hand"))) bY (bX (eC (.int 1))))) (aQ (aa (af aq (aQ (aa (eC (.str "a")) (aa (eC (.str "ab")) (aa (eC (.str "boxes")) ae)))) (ah "_law_pick" (aa (ab 0) (aa (eC (.int 3)) ae)))) ae))) (gN 5))
  (ag (ak (aQ ae) (gN 6))
  (ag (gX (iE (af aq (ab 2) (eC (.str "hand")))) (gN 7) (ag (ak (af aq (aQ (aa (ah "_law_pick" (aa (ab 0) (aa (eC (.int 4)) ae))) (aa (af aG (eC (.int 3)) (ah "_law_pick" (aa (ab 0) (aa (eC (.int 6)) ae)))) (aa (af aG (eC (.int 3)) (ah "_law_pick" (aa (ab 0) (aa (eC (.int 6)) ae)))) (aa (eC (.int 30)) ae))))) (ah "_law_pick" (aa (ab 0) (aa (eC (.int 4)) ae)))) (gN 4))
  (dN (eM bT cC (ab 6) (aa (ay (aa (ab 7) (aa (eB aJ (aa (iA 1 (df (aa (ab 4) ae)) (gN 9) bQ (ah "_law_row" (aa (ab 0) (aa (ab 2) (aa (ab 5) (aa (ab 4) ae)))))) ae)) ae))) ae)))))
  (ag (ak (eB aJ (aa (iA 1 (iE (af aq (ab 2) (eC (.str "box")))) (gN 9) bQ (ay (aa (ab 9) (aa (af aq (aQ (aa (eC (.int 0)) (aa (eC (.int 1)) (aa (eC (.int 999)) (aa (ah "_law_pick" (aa (ab 0) (aa (eC (.int 1000)) ae))) ae))))) (ah "_law_pick" (aa (ab 0) (aa (eC (.int 4)) ae)))) ae)))) ae)) (gN 8))
  (aB (ay (aa (ab 8) (aa (eB aJ (aa (af aq (ab 2) (eC (.str "lock"))) ae)) (aa (eB aJ (aa (af aq (ab 2) (eC (.str "lane"))) ae)) (aa (eB aJ (aa (af aq (ab 2) (eC (.str "door"))) ae)) (aa (eB aJ (aa (ab 6) ae)) ae))))))))))))))
noncomputable def cH:Df:=⟨["_law_state"],8,fc⟩
noncomputable def cj:MS :=
  (ag (bu (ar (af cu (af aq (ab 0) (eC (.int 0))) (eC (.str "num")))) (aB (af aq (ab 0) (eC (.int 1)))) bD)
  (ag (bu (ar (af cu (af aq (ab 0) (eC (.int 0))) (eC (.str "of")))) (aB (uT (ab 1) (af aq (ab 0) (eC (.int 1))) (eC (.int 0)))) bD)
  (ag (ak (iA 1 (iE (kO (ab 0) (bX (eC (.int 1))) bY)) (gN 6) bQ (ah "_law_worth" (aa (ab 6) (aa (ab 1) ae)))) (gN 2))
  (ag (bu (ar (af cu (af aq (ab 0) (eC (.int 0))) (eC (.str "not")))) (aB (AZ (ar (af cu (af aq (ab 2) (eC (.int 0))) (eC (.int 0)))) (eC (.int 1)) (eC (.int 0)))) bD)
  (ag (ak (ab 2) (GZ 2 (aR (gN 3) (aR (gN 4) dF))))
  (ag (ak (pO (eV (eC (.str "add")) (af fw (af aG (ab 3) (ab 4)) (eC (.int 1000))) (eV (eC (.str "sub")) (af fw (af sF (ab 3) (ab 4)) (eC (.int 1000))) (eV (eC (.str "mul")) (af fw (af eQ (ab 3) (ab 4)) (eC (.int 1000))) xi)))) (gN 5))
  (ag (jP iP (ab 5) (eC (.str "less")) (AZ (ar (af xG (ab 3) (ab 4))) (eC (.int 1)) (eC (.int 0))))
  (ag (jP iP (ab 5) (eC (.str "same")) (AZ (ar (af cu (ab 3) (ab 4))) (eC (.int 1)) (eC (.int 0))))
  (aB (af aq (ab 5) (af aq (ab 0) (eC (.int 0)))))))))))))
noncomputable def bK:Df:=⟨["_law_thing", "_law_pockets"],4,cj⟩
noncomputable def bO:MS :=
  (ag (bu (ar (af cu (ab 1) (eB bE (aa (ab 0) ae)))) (aB (eC .non)) bD)
  (ag (ak (af aq (ab 0) (ab 1)) (gN 4))
  (ag (bu (ar (af cu (af aq (ab 4) (eC (.int 0))) (eC (.str "let")))) (ag (jP iP (ab 2) (af aq (ab 4) (eC (.int 1))) (ah "_law_worth" (aa (af aq (ab 4) (eC (.int 2))) (aa (ab 2) ae))))
  (aB (af aG (ab 1) (eC (.int 1))))) bD)
  (ag (bu (ar (af cu (af aq (ab 4) (eC (.int 0))) (eC (.str "leap")))) (aB (AZ (ar (af uh (ah "_law_worth" (aa (af aq (ab 4) (eC (.int 2))) (aa (ab 2) ae))) (eC (.int 0)))) (af aq (ab 4) (eC (.int 1))) (af aG (ab 1) (eC (.int 1))))) bD)
  (ag (bu (kF (ar (af cu (af aq (ab 4) (eC (.int 0))) (eC (.str "take")))) (ar (af ju (af aq (ab 4) (eC (.int 1))) (ab 3)))) (aB (af aG (ab 1) (eC (.int 1)))) bD)
  (ag (bu (kF (ar (af cu (af aq (ab 4) (eC (.int 0))) (eC (.str "free")))) (ar (af gE (af aq (ab 4) (eC (.int 1))) (ab 3)))) (aB (af aG (ab 1) (eC (.int 1)))) bD)
  (aB (eC .non))))))))
noncomputable def bt:Df:=⟨["_law_rows", "_law_at", "_law_pockets", "_law_held"],1,bO⟩
noncomputable def iU:MS :=
  (ag (ak (eB eF (aa (af aq (ab 1) (eC (.int 1))) ae)) (gN 2))
  (ag (ak (af aq (ab 1) (eC (.int 0))) (gN 3))
  (ag (ak (eC (.int 0)) (gN 4))
  (ag (ak (ah "_law_own" (aa (ab 0) (aa (ab 3) (aa (ab 2) (aa (af aq (ab 1) (eC (.int 2))) ae))))) (gN 5))
  (ag (mO (ar (pQ (cZ true) (ab 5))) (ag (ak (ab 5) (gN 3))
  (ag (ak (af aG (ab 4) (eC (.int 1))) (gN 4))
  (ag (ak (eB eF (aa (ab 2) ae)) (gN 6))
  (ag (ak (ah "_law_own" (aa (ab 0) (aa (ab 3) (aa (ab 2) (aa (af aq (ab 1) (eC (.int 2))) ae))))) (gN 5))
  (bu (kF (ar (af cu (ab 4) (eC (.int 200)))) (ar (pQ (cZ true) (ab 5)))) (ag (ak (ab 6) (gN 2))
  (ag (ak (eB bE (aa (ab 0) ae)) (gN 3))
  (ak (eC .non) (gN 5)))) bD))))))
  (aB (ay (aa (ab 3) (aa (eB aJ (aa (iA 1 (iE (eB bG (aa (ab 2) ae))) (gN 7) (ar (af uh (af aq (ab 2) (ab 7)) (eC (.int 0)))) (ay (aa (ab 7) (aa (af aq (ab 2) (ab 7)) ae)))) ae)) (aa (af aq (ab 1) (eC (.int 2))) ae))))))))))
noncomputable def dY:Df:=⟨["_law_rows", "_law_seat"],5,iU⟩
noncomputable def ck:MS :=
  (ag (bu (ar (af cu (af aq (ab 1) (eC (.int 0))) (eB bE (aa (ab 0) ae)))) (aB (eC .non)) bD)
  (ag (ak (af aq (ab 0) (af aq (ab 1) (eC (.int 0)))) (gN 2))
  (ag (bu (ar (af ju (af aq (ab 2) (eC (.int 0))) (ay (aa (eC (.str "put")) (aa (eC (.str "send")) (aa (eC (.str "say")) ae)))))) (aB (ay (aa (af aq (ab 2) (eC (.int 0))) (aa (af aq (ab 2) (eC (.int 1))) (aa (ah "_law_worth" (aa (af aq (ab 2) (eC (.int 2))) (aa (eB eF (aa (af aq (ab 1) (eC (.int 1))) ae)) ae))) ae))))) bD)
  (ag (bu (ar (af cu (af aq (ab 2) (eC (.int 0))) (eC (.str "lot")))) (aB (ay (aa (eC (.str "lot")) (aa (eC (.str "")) (aa (af aq (ab 2) (eC (.int 2))) ae))))) bD)
  (ag (bu (ar (af cu (af aq (ab 2) (eC (.int 0))) (eC (.str "clock")))) (aB (ay (aa (eC (.str "clock")) (aa (eC (.str "")) (aa (eC .non) ae))))) bD)
  (aB (ay (aa (af aq (ab 2) (eC (.int 0))) (aa (af aq (ab 2) (af sF (eB bE (aa (ab 2) ae)) (eC (.int 1)))) (aa (eC .non) ae))))))))))
noncomputable def bI:Df:=⟨["_law_rows", "_law_seat"],1,ck⟩
noncomputable def iV:MS :=
  (ag (ak (af aq (ab 0) (af aq (ab 1) (eC (.int 0)))) (gN 3))
  (ag (ak (eB eF (aa (af aq (ab 1) (eC (.int 1))) ae)) (gN 4))
  (ag (ak (eB oQ (aa (af aq (ab 1) (eC (.int 2))) ae)) (gN 5))
  (ag (bu (ar (af ju (af aq (ab 3) (eC (.int 0))) (ay (aa (eC (.str "get")) (aa (eC (.str "fetch")) (aa (eC (.str "clock")) (aa (eC (.str "lot")) (aa (eC (.str "hear")) ae)))))))) (jP iP (ab 4) (af aq (ab 3) (eC (.int 1))) (ab 2)) bD)
  (ag (bu (ar (af cu (af aq (ab 3) (eC (.int 0))) (eC (.str "take")))) (dN (eM bT cC (ab 5) (aa (af aq (ab 3) (eC (.int 1))) ae))) bD)
  (ag (bu (ar (af cu (af aq (ab 3) (eC (.int 0))) (eC (.str "free")))) (dN (eM iG cC (ab 5) (aa (af aq (ab 3) (eC (.int 1))) ae))) bD)
  (ag (ak (eB aJ (aa (iA 1 (iE (eB bG (aa (ab 4) ae))) (gN 7) (ar (af uh (af aq (ab 4) (ab 7)) (eC (.int 0)))) (ay (aa (ab 7) (aa (af aq (ab 4) (ab 7)) ae)))) ae)) (gN 6))
  (aB (ah "_law_rested" (aa (ab 0) (aa (ay (aa (af aG (af aq (ab 1) (eC (.int 0))) (eC (.int 1))) (aa (ab 6) (aa (eB aJ (aa (eB bG (aa (ab 5) ae)) ae)) ae)))) ae)))))))))))
noncomputable def cy:Df:=⟨["_law_rows", "_law_seat", "_law_value_here"],4,iV⟩
noncomputable def dB:MS :=
  (ag (bu (ar (af cu (af aq (ab 1) (eC (.int 0))) (eC (.str "lot")))) (aB (af aq (aQ (aa (eC (.int 0)) (aa (af sF (af aq (ab 1) (eC (.int 2))) (eC (.int 1))) (aa (ah "_law_pick" (aa (ab 0) (aa (af aq (ab 1) (eC (.int 2))) ae))) ae)))) (ah "_law_pick" (aa (ab 0) (aa (eC (.int 3)) ae))))) bD)
  (ag (bu (ar (af ju (af aq (ab 1) (eC (.int 0))) (ay (aa (eC (.str "get")) (aa (eC (.str "fetch")) (aa (eC (.str "clock")) (aa (eC (.str "hear")) ae))))))) (aB (af aq (aQ (aa (eC (.int 0)) (aa (eC (.int 1)) (aa (eC (.int 999)) (aa (ah "_law_pick" (aa (ab 0) (aa (eC (.int 1000)) ae))) ae))))) (ah "_law_pick" (aa (ab 0) (aa (eC (.int 4)) ae))))) bD)
  (aB (eC .non))))
noncomputable def cw:Df:=⟨["_law_state", "_law_touch_here"],0,dB⟩
noncomputable def fT:MS :=
  (ag (ak (aQ ae) (gN 3))
  (ag (ak (eB oQ (aa (ab 2) ae)) (gN 4))
  (ag (ak (ah "_law_touch" (aa (ab 0) (aa (ab 1) ae))) (gN 5))
  (ag (mO (kF (ar (pQ (cZ true) (ab 5))) (ar (af xG (eB bE (aa (ab 3) ae)) (eC (.int 60))))) (ag (ak (eC .non) (gN 6))
  (ag (bu (ar (af ju (af aq (ab 5) (eC (.int 0))) (ay (aa (eC (.str "put")) (aa (eC (.str "send")) (aa (eC (.str "say")) ae)))))) (ak (af aq (ab 5) (eC (.int 2))) (gN 6)) (bu (ar (af gE (af aq (ab 5) (eC (.int 0))) (ay (aa (eC (.str "take")) (aa (eC (.str "free")) ae))))) (ag (bu (ar (af cu (ab 4) (aQ ae))) (aB (ay (aa (eB aJ (aa (ab 3) ae)) (aa (ab 1) ae)))) bD)
  (ak (eM oX cC (ab 4) (aa (eC (.int 0)) ae)) (gN 6))) bD))
  (ag (dN (eM bT cC (ab 3) (aa (ay (aa (af aq (ab 5) (eC (.int 0))) (aa (af aq (ab 5) (eC (.int 1))) (aa (ab 6) ae)))) ae)))
  (ag (ak (ah "_law_behind" (aa (ab 0) (aa (ab 1) (aa (ab 6) ae)))) (gN 1))
  (ak (ah "_law_touch" (aa (ab 0) (aa (ab 1) ae))) (gN 5)))))))
  (aB (ay (aa (eB aJ (aa (ab 3) ae)) (aa (ab 1) ae))))))))
noncomputable def c7:Df:=⟨["_law_rows", "_law_seat", "_law_values_here"],4,fT⟩
noncomputable def fQ:MS :=
  (ag (ak (aQ ae) (gN 4))
  (ag (gX (df (aa (eC (.int 60)) ae)) (gN 5) (ag (ak (ah "_law_touch" (aa (ab 1) (aa (ab 2) ae))) (gN 6))
  (ag (bu (EK (ar (pQ (cZ false) (ab 6))) (ar (af cu (eB bE (aa (ab 4) ae)) (ab 3)))) (aB (eB aJ (aa (ab 4) ae))) bD)
  (ag (ak (ah "_law_value" (aa (ab 0) (aa (ab 6) ae))) (gN 7))
  (ag (bu (ar (pQ (cZ true) (ab 7))) (dN (eM bT cC (ab 4) (aa (ab 7) ae))) bD)
  (ak (ah "_law_behind" (aa (ab 1) (aa (ab 2) (aa (ab 7) ae)))) (gN 2)))))))
  (aB (eB aJ (aa (ab 4) ae)))))
noncomputable def c6:Df:=⟨["_law_state", "_law_rows", "_law_seat", "_law_most"],4,fQ⟩
noncomputable def bC:MS :=
  (ag (bu (ar (eB dM (aa (ab 1) (aa (ay (aa (eC (.ty "tuple")) (aa (eC (.ty "list")) ae))) ae)))) (ag (bu (EK (ar (af gS (eB dM (aa (ab 0) (aa (eC (.ty "tuple")) ae))) (eB dM (aa (ab 1) (aa (eC (.ty "tuple")) ae))))) (ar (af gS (eB dM (aa (ab 0) (aa (eC (.ty "list")) ae))) (eB dM (aa (ab 1) (aa (eC (.ty "list")) ae)))))) (aB (eC (.bl false))) bD)
  (aB (qb (af cu (eB bE (aa (ab 0) ae)) (eB bE (aa (ab 1) ae))) (eB Cn (aa (iA 1 (df (aa (eB bE (aa (ab 1) ae)) ae)) (gN 2) bQ (ah "_law_same" (aa (af aq (ab 0) (ab 2)) (aa (af aq (ab 1) (ab 2)) ae)))) ae))))) bD)
  (ag (bu (ar (pQ (cZ false) (ab 1))) (aB (pQ (cZ false) (ab 0))) bD)
  (ag (bu (EK (ar (eB dM (aa (ab 1) (aa (eC (.ty "bool")) ae)))) (ar (eB dM (aa (ab 0) (aa (eC (.ty "bool")) ae))))) (aB (qb (eB dM (aa (ab 1) (aa (eC (.ty "bool")) ae))) (qb (eB dM (aa (ab 0) (aa (eC (.ty "bool")) ae))) (af cu (ab 0) (ab 1))))) bD)
  (ag (bu (ar (eB dM (aa (ab 1) (aa (eC (.ty "int")) ae)))) (aB (qb (eB dM (aa (ab 0) (aa (eC (.ty "int")) ae))) (af cu (ab 0) (ab 1)))) bD)
  (aB (qb (eB dM (aa (ab 0) (aa (eC (.ty "str")) ae))) (af cu (ab 0) (ab 1))))))))
noncomputable def aZ:Df:=⟨["_law_found", "_law_due"],0,bC⟩
noncomputable def gq:MS :=
  (ag (ak (eB aJ (aa (iA 1 (iE (af aq (ab 1) (eC (.int 0)))) (gN 9) bQ (ay (aa (af aq (ab 9) (eC (.int 0))) (aa (ah "_law_pick" (aa (ab 0) (aa (eC (.int 1000)) ae))) ae)))) ae)) (gN 3))
  (ag (ak (aQ ae) (gN 4))
  (ag (gX (df (aa (eC (.int 4)) ae)) (gN 5) (dN (eM bT cC (ab 4) (aa (af eQ (ay (aa (af aG (eC (.str "xx")) (af aq (eC (.str "abcd")) (ab 5))) ae)) (eB yA (aa (qb (af xG (eB bE (aa (af aq (ab 1) (ab 5)) ae)) (eC (.int 4))) (af cu (ah "_law_pick" (aa (ab 0) (aa (eC (.int 2)) ae))) (eC (.int 0)))) ae))) ae))))
  (ag (ak (af aG (ab 3) (eB aJ (aa (iA 1 (iE (af aq (ab 4) (eC (.int 0)))) (gN 9) bQ (ay (aa (ab 9) (aa (eC (.int 7)) ae)))) ae))) (gN 3))
  (ag (ak (iA 1 (iE (af aq (ab 1) (eC (.int 4)))) (gN 9) (ar (af gS (af aq (ab 9) (eC (.int 0))) (af aq (af aq (af aq (ab 1) (eC (.int 4))) (ab 2)) (eC (.int 0))))) (ab 9)) (gN 6))
  (ag (ak (iA 1 (iE (ab 6)) (gN 9) bQ (ay (aa (af aq (ab 9) (eC (.int 0))) (aa (kO (af aq (ab 9) (eC (.int 1))) bY (bX (ah "_law_pick" (aa (ab 0) (aa (af aG (eB bE (aa (af aq (ab 9) (eC (.int 1))) ae)) (eC (.int 1))) ae))))) ae)))) (gN 6))
  (ag (ak (iA 2 (iE (ab 6)) (gT 2 (aR (gN 9) (aR (gN 10) dF))) bQ (ay (aa (ab 9) (aa (eB aJ (aa (iA 1 (iE (ab 10)) (gN 11) (ar (af gS (af aq (ab 11) (eC (.int 0))) (eC (.str "leap")))) (ab 11)) ae)) ae)))) (gN 6))
  (ag (bu (ar (af cu (ah "_law_pick" (aa (ab 0) (aa (eC (.int 3)) ae))) (eC (.int 0)))) (ak (aQ ae) (gN 6)) bD)
  (ag (ak (ah "_law_pick" (aa (ab 0) (aa (af aG (eB bE (aa (ab 6) ae)) (eC (.int 1))) ae))) (gN 7))
  (ag (ak (af aG (af aG (eB aJ (aa (kO (ab 6) bY (bX (ab 7))) ae)) (ay (aa (af aq (af aq (ab 1) (eC (.int 4))) (ab 2)) ae))) (eB aJ (aa (kO (ab 6) (bX (ab 7)) bY) ae))) (gN 8))
  (aB (ay (aa (ay (aa (ab 3) (aa (af aG (af aq (ab 1) (eC (.int 1))) (af aq (ab 4) (eC (.int 1)))) (aa (af aG (af aq (ab 4) (eC (.int 2))) (af aq (ab 1) (eC (.int 2)))) (aa (af aG (af aq (ab 1) (eC (.int 3))) (af aq (ab 4) (eC (.int 3)))) (aa (ab 8) ae)))))) (aa (ab 7) ae))))))))))))))
noncomputable def dE:Df:=⟨["_law_state", "_law_program_here", "_law_hand"],6,gq⟩
noncomputable def bW:MS :=
  (ag (ak (ah "course" (aa (ab 0) (aa (ab 1) (aa (ab 2) (aa (ab 3) ae))))) (gN 5))
  (ag (ak (ah "course" (aa (ab 0) (aa (ab 1) (aa (ab 2) (aa (kO (ab 3) bY (bX (ab 4))) ae))))) (gN 6))
  (ag (ak (eB bE (aa (iA 1 (iE (af aq (ab 6) (eC (.int 0)))) (gN 10) (ar (af ju (af aq (ab 10) (eC (.int 0))) (ay (aa (eC (.str "get")) (aa (eC (.str "fetch")) (aa (eC (.str "clock")) (aa (eC (.str "lot")) (aa (eC (.str "hear")) ae)))))))) (ab 10)) ae)) (gN 7))
  (ag (ak (ah "course" (aa (ab 0) (aa (ab 1) (aa (af aq (ab 6) (eC (.int 1))) (aa (kO (ab 3) (bX (ab 7)) bY) ae))))) (gN 8))
  (ag (ak (af aG (af aq (ab 6) (eC (.int 0))) (af aq (ab 8) (eC (.int 0)))) (gN 9))
  (ag (bu (ar (af uh (eB bE (aa (ab 9) ae)) (eC (.int 59)))) (aB (ah "_law_same" (aa (af aq (ab 5) (eC (.int 0))) (aa (kO (ab 9) bY (bX (eC (.int 60)))) ae)))) bD)
  (aB (ah "_law_same" (aa (ab 5) (aa (ay (aa (ab 9) (aa (af aq (ab 8) (eC (.int 1))) ae))) ae))))))))))
noncomputable def bg:Df:=⟨["_law_program_here", "_law_hand", "_law_seat", "_law_values_here", "_law_place"],5,bW⟩
noncomputable def AJ:MS :=
  (ag (ak (pO (eV (eC (.str "script")) (ab 0) (eV (eC (.str "k")) (eC (.int 0)) xi))) (gN 1))
  (ag (ak (ah "_law_program" (aa (ab 1) ae)) (gN 2))
  (ag (gX (df (aa (eC (.int 2)) ae)) (gN 3) (ag (ak (ah "_law_pick" (aa (ab 1) (aa (eB bE (aa (af aq (ab 2) (eC (.int 4))) ae)) ae))) (gN 4))
  (ag (ak (af aq (af aq (af aq (ab 2) (eC (.int 4))) (ab 4)) (eC (.int 1))) (gN 5))
  (ag (ak (ah "_law_rested" (aa (ab 5) (aa (ay (aa (eC (.int 0)) (aa (ay ae) (aa (ay ae) ae)))) ae))) (gN 6))
  (ag (ak (ah "_law_other" (aa (ab 1) (aa (ab 2) (aa (ab 4) ae)))) (gT 2 (aR (gN 7) (aR (gN 8) dF))))
  (ag (bu (EK (lh (ar (ah "_law_same" (aa (ah "first_seat" (aa (ab 2) (aa (ab 4) ae))) (aa (ab 6) ae))))) (lh (ar (ah "_law_same" (aa (ah "first_seat" (aa (ab 7) (aa (ab 8) ae))) (aa (ab 6) ae)))))) (aB (eC (.bl false))) bD)
  (ag (ak (ah "_law_values" (aa (ab 1) (aa (ab 5) (aa (ab 6) (aa (eC (.int 60)) ae))))) (gN 9))
  (ag (ak (ah "course" (aa (ab 2) (aa (ab 4) (aa (ab 6) (aa (ab 9) ae))))) (gN 10))
  (ag (bu (lh (ar (ah "_law_same" (aa (ab 10) (aa (ah "_law_course" (aa (ab 5) (aa (ab 6) (aa (ab 9) ae)))) ae))))) (aB (eC (.bl false))) bD)
  (ag (bu (lh (ar (ah "_law_same" (aa (ah "course" (aa (ab 7) (aa (ab 8) (aa (ab 6) (aa (ab 9) ae))))) (aa (ab 10) ae))))) (aB (eC (.bl false))) bD)
  (ag (ak (ah "_law_pick" (aa (ab 1) (aa (af aG (eB bE (aa (ab 9) ae)) (eC (.int 1))) ae))) (gN 11))
  (bu (lh (ar (ah "_law_pieces_right" (aa (af aq (aQ (aa (ab 2) (aa (ab 7) ae))) (ab 3)) (aa (af aq (aQ (aa (ab 4) (aa (ab 8) ae))) (ab 3)) (aa (ab 6) (aa (ab 9) (aa (ab 11) ae)))))))) (aB (eC (.bl false))) bD))))))))))))
  (aB (eC (.bl true))))))
noncomputable def sU:Df:=⟨["_law_script"],11,AJ⟩
structure dc (pg:Tb):Prop where
 lS:pg.fns "worth" =some fK
 mW:pg.fns "joined_worth" =some cG
 wN:pg.fns "rows_of" =some gc
 qZ:pg.fns "first_seat" =some dz
 Ab:pg.fns "rested" =some g7
 sD:pg.fns "is_rested" =some dj
 qO:pg.fns "is_own_row" =some dv
 kz:pg.fns "behind_own_row" =some br
 Ht:pg.fns "laid" =some kr
 ur:pg.fns "touch_of" =some di
 oF:pg.fns "seat_behind" =some aS
 y7:pg.fns "course" =some gU
 rq:pg.fns "_law_draw" =some cg
 sS:pg.fns "_law_pick" =some d9
 qY:pg.fns "_law_names" =some dC
 d7:pg.fns "_law_sum_in" =some bb
 ui:pg.fns "_law_sum" =some eY
 uG:pg.fns "_law_row" =some eT
 mH:pg.fns "_law_program" =some cH
 eI:pg.fns "_law_worth" =some bK
 mR:pg.fns "_law_own" =some bt
 nX:pg.fns "_law_rested" =some dY
 qg:pg.fns "_law_touch" =some bI
 n6:pg.fns "_law_behind" =some cy
 gz:pg.fns "_law_value" =some cw
 nT:pg.fns "_law_course" =some c7
 nS:pg.fns "_law_values" =some c6
 kZ:pg.fns "_law_same" =some aZ
 qH:pg.fns "_law_other" =some dE
 iQ:pg.fns "_law_pieces_right" =some bg
 EH:pg.fns "law" =some sU
 JC:pg.con "WORTHS" =some (.int 1000)
 xC:pg.con "MOST_OWN_ROWS" =some (.int 200)
 yc:pg.con "MOST_TOUCHES" =some (.int 60)
 El:pg.con "POCKETING" =some (.ktup [(.str "get"),(.str "fetch"),(.str "clock"),(.str "lot"),(.str "hear")])
 aL:pg.xD "ROW_PARTS" =some aL
noncomputable def gP:List (String × Df):=[("worth",fK),("joined_worth",cG),("rows_of",gc),("first_seat",dz),("rested",g7),("is_rested",dj),("is_own_row",dv),("behind_own_row",br),("laid",kr),("touch_of",di),("seat_behind",aS),("course",gU),("_law_draw",cg),("_law_pick",d9),("_law_names",dC),("_law_sum_in",bb),("_law_sum",eY),("_law_row",eT),("_law_program",cH),("_law_worth",bK),("_law_own",bt),("_law_rested",dY),("_law_touch",bI),("_law_behind",cy),("_law_value",cw),("_law_course",c7),("_law_values",c6),("_law_same",aZ),("_law_other",dE),("_law_pieces_right",bg),("law",sU)]
noncomputable def conT:List (Str × PV):=[("WORTHS",(.int 1000)),("MOST_OWN_ROWS",(.int 200)),("MOST_TOUCHES",(.int 60)),("POCKETING",(.ktup [(.str "get"),(.str "fetch"),(.str "clock"),(.str "lot"),(.str "hear")]))]
noncomputable def dcT:List (Str × List (Key × PV)):=[("ROW_PARTS",aL)]
noncomputable def tb:Tb:=⟨fun f=>(gP.find? fun p=>p.1 == f).map (·.2),fun x=>(conT.find? fun p=>decide (p.1=x)).map (·.2),fun x=>(dcT.find? fun p=>decide (p.1=x)).map (·.2)⟩
theorem has:dc tb:=⟨by simp [tb,gP],by simp [tb,gP],by simp [tb,gP],by simp [tb,gP],by simp [tb,gP],by simp [tb,gP],by simp [tb,gP],by simp [tb,gP],by simp [tb,gP],by simp [tb,gP],by simp [tb,gP],by simp [tb,gP],by simp [tb,gP],by simp [tb,gP],by simp [tb,gP],by simp [tb,gP],by simp [tb,gP],by simp [tb,gP],by simp [tb,gP],by simp [tb,gP],by simp [tb,gP],by simp [tb,gP],by simp [tb,gP],by simp [tb,gP],by simp [tb,gP],by simp [tb,gP],by simp [tb,gP],by simp [tb,gP],by simp [tb,gP],by simp [tb,gP],by simp [tb,gP],rfl,rfl,rfl,rfl,rfl⟩
local macro_rules
 | `(tactic| array_get_dec)=> do
  let tm (x:String):Lean.MacroM Lean.Term:=match x with
   | "?"=>`(?_)
   | "_"=>`(_)
   | "A"=>`(by assumption)
   | "R"=>`(rfl)
   | "F"=>`(fun _ _=>rfl)
   | "K"=>`(by decide +kernel)
   | "D"=>`(by decide)
   | "Q"=>`(⟨rfl,rfl,rfl,rfl⟩)
   | "L"=>`(fun _ _ _ _ _ _=>⟨fun _=>?_,?_,?_⟩)
   | "O"=>`(by first | exact Or.inl rfl | exact Or.inr rfl)
   | "Z"=>`(by intro z;cases z)
   | "w"=>`(AW _)
   | x=>pure (Lean.mkIdent x.toName)
  let al (a:String):Lean.MacroM (Lean.TSyntax `tactic):=do
   match a.splitOn " " with
   | ["p",q,n]=>`(tactic| refine $(Lean.mkIdent q.toName) ($(Lean.mkIdent n.toName) ?_ ?_))
   | [n]=>`(tactic| refine $(Lean.mkIdent n.toName))
   | n::r=>do
     let ts ← r.toArray.mapM tm
     `(tactic| refine $(Lean.mkIdent n.toName) $ts*)
   | []=>Lean.Macro.throwUnsupported
  let fs (x:List (Lean.TSyntax `tactic)):Lean.MacroM (Lean.TSyntax `tactic):=do
   let e ← `(tactic| fail)
   x.foldrM (fun a b=>`(tactic| first | $a:tactic | $b:tactic)) e
  let gr (g:String):Lean.MacroM (Lean.TSyntax `tactic):=do
   match g.splitOn ":" with
   | [h,b]=>do
     let y ← fs (← (b.splitOn "|").mapM al)
     match h.splitOn " " with
     | [n,k]=>do
       let hs ← (Array.range k.toNat!).mapM fun _=>`(_)
       `(tactic| (show $(Lean.mkIdent n.toName) $hs*;$y:tactic))
     | _=>Lean.Macro.throwUnsupported
   | _=>Lean.Macro.throwUnsupported
  let a ← ("JE 5:IM _|HG|GJ|H9|LG|Ll MQ ? ? F|CP A R ?|Kw ? ? ?|FI ?|E4 ?|yE ? ? ? w|yE ? ? ? R|Gf ?|Hl ?|GN ? ?|Lf ? ?|Fz ?|xJ ? ? ?|DH A R ? F|Ak ? ? ?|AF|Ce ? R R Z D|C0 ? ? ? Q|Hz ? L|Gg ? L|FV A R|Cf Kd R K PySem.boot_len ?|Cf L6 R K boot_isinstance ?|Cf Ke R K boot_all ?|Cf wI R K boot_sorted ?|Dp Lz R K boot_int ?|Dp DG R K boot_tuple ?|Dp FC R K boot_list ?|Dp G6 R K boot_dict ?|oU R K boot_int|oU R K boot_bool|oU R K boot_str|oU R K boot_list|oU R K boot_tuple|oU R K boot_dict|BE PySem.F.plainAttrs_list PySem.F.slot_list_append PySem.F.type_list_append AX ? ?|BE PySem.F.plainAttrs_dict PySem.F.slot_dict_update PySem.F.type_dict_update Ay ? ?|BE PySem.F.plainAttrs_list PySem.F.slot_list_remove PySem.F.type_list_remove zK ? ?|BE PySem.F.plainAttrs_list PySem.F.slot_list_pop PySem.F.type_list_pop Ho ? ?#JA 5:Hk|DL ? ?#wU 5:BZ|Dq ?|yj ? ?#JS 5:F3 A ? L|FA A ? L|Ia A R O ?|HW A ?|Jx ? ? ?|Iw ?|Bz ?|Fh Kv ? ? ?|Hv ? ?|Ig ? ? ? PassesOwn.never|Ah ? ? PassesOwn.never|zc yf#JT 5:yD ? ? ? w|yD ? ? ? R|EY ?|DM ?|p JW.pt xM|p JW.pt Et|HE ?|Jk ?#JW 5:xM ? ?|Et ? ?|CI ?|Hm ?#JO 5:CO|CS ?#JP 7:F9|DF ? ? ?#JG 5:Ct A R O|Fd ?|BX ?#Js 5:B1|zD ? ?#JI 6:wL R ?|Hd R ? ?|F0 ?#JF 5:Gj|Ik ?#QG 3:vk A R O|C6 A ?#Er 3:vx|sj ? ?".splitOn "#").mapM gr
  let b ← ("KL|FL|JB|FO|Le|KJ|Nl|Nn|MU|MR|MZ|NI|B5".splitOn "|").mapM al
  let t ← fs (a++b)
  `(tactic| repeat' first | $t:tactic | fail)
section
variable {P:Program} {w:World} {K:PySem.W.Frag} {mg:Str->Option Value} {pg:Tb}
abbrev vS:List Str:=["tree", "pockets", "word", "one"]
theorem C2 (T:dc pg) (a:At K mg "worth" (top 3)):aU P w K mg pg "worth" fK (top 3) vS:=by
 have S:aC vS fK.ps (ai (top 3)):=⟨rfl,rfl,rfl,by decide +kernel,rfl,by decide +kernel,by decide +kernel⟩
 have z:=S.nd
 obtain ⟨⟩:=T
 refine aU.of ir rfl a S rfl (fun _ _ _ _ _ _=>uY fun _ _=>rfl) fun _ _ _ _ _ _ _ _ _=>?_
 array_get_dec
abbrev ia:List Str:=["word", "one", "other"]
theorem nJ (T:dc pg) (a:At K mg "joined_worth" (top 4)):aU P w K mg pg "joined_worth" cG (top 4) ia:=by
 have S:aC ia cG.ps (ai (top 4)):=⟨rfl,rfl,rfl,by decide +kernel,rfl,by decide +kernel,by decide +kernel⟩
 have z:=S.nd
 obtain ⟨⟩:=T
 refine aU.of fk rfl a S rfl (fun _ _ _ _ _ _=>Ba fun _ _ _=>rfl) fun _ _ _ _ _ _ _ _ _=>?_
 array_get_dec
abbrev pb:List Str:=["program", "hand"]
theorem wH (T:dc pg) (a:At K mg "rows_of" (top 6)):aU P w K mg pg "rows_of" gc (top 6) pb:=by
 have S:aC pb gc.ps (ai (top 6)):=⟨rfl,rfl,rfl,by decide +kernel,rfl,by decide +kernel,by decide +kernel⟩
 have z:=S.nd
 obtain ⟨⟩:=T
 refine aU.of kC rfl a S rfl (fun _ _ _ _ _ _=>uY fun _ _=>rfl) fun _ _ _ _ _ _ _ _ _=>?_
 array_get_dec
abbrev jz:List Str:=["program", "hand"]
theorem qc (T:dc pg) (a:At K mg "first_seat" (top 11)):aU P w K mg pg "first_seat" dz (top 11) jz:=by
 have S:aC jz dz.ps (ai (top 11)):=⟨rfl,rfl,rfl,by decide +kernel,rfl,by decide +kernel,by decide +kernel⟩
 have z:=S.nd
 obtain ⟨⟩:=T
 refine aU.of gG rfl a S rfl (fun _ _ _ _ _ _=>uY fun _ _=>rfl) fun _ _ _ _ _ _ _ _ _=>?_
 array_get_dec
abbrev tj:List Str:=["program", "hand", "seat", "rows", "here", "turn"]
theorem zT (T:dc pg) (a:At K mg "rested" (top 12)):aU P w K mg pg "rested" g7 (top 12) tj:=by
 have S:aC tj g7.ps (ai (top 12)):=⟨rfl,rfl,rfl,by decide +kernel,rfl,by decide +kernel,by decide +kernel⟩
 have z:=S.nd
 obtain ⟨⟩:=T
 refine aU.of mX rfl a S rfl (fun _ _ _ _ _ _=>Ba fun _ _ _=>rfl) fun _ _ _ _ _ _ _ _ _=>?_
 array_get_dec
abbrev kS:List Str:=["rows", "seat"]
theorem rp (T:dc pg) (a:At K mg "is_rested" (top 13)):aU P w K mg pg "is_rested" dj (top 13) kS:=by
 have S:aC kS dj.ps (ai (top 13)):=⟨rfl,rfl,rfl,by decide +kernel,rfl,by decide +kernel,by decide +kernel⟩
 have z:=S.nd
 obtain ⟨⟩:=T
 refine aU.of fE rfl a S rfl (fun _ _ _ _ _ _=>uY fun _ _=>rfl) fun _ _ _ _ _ _ _ _ _=>?_
 array_get_dec
abbrev jV:List Str:=["row", "held"]
theorem qE (T:dc pg) (a:At K mg "is_own_row" (top 14)):aU P w K mg pg "is_own_row" dv (top 14) jV:=by
 have S:aC jV dv.ps (ai (top 14)):=⟨rfl,rfl,rfl,by decide +kernel,rfl,by decide +kernel,by decide +kernel⟩
 have z:=S.nd
 obtain ⟨⟩:=T
 refine aU.of gC rfl a S rfl (fun _ _ _ _ _ _=>uY fun _ _=>rfl) fun _ _ _ _ _ _ _ _ _=>?_
 array_get_dec
abbrev gi:List Str:=["row", "seat", "onward"]
theorem kH (T:dc pg) (a:At K mg "behind_own_row" (top 15)):aU P w K mg pg "behind_own_row" br (top 15) gi:=by
 have S:aC gi br.ps (ai (top 15)):=⟨rfl,rfl,rfl,by decide +kernel,rfl,by decide +kernel,by decide +kernel⟩
 have z:=S.nd
 obtain ⟨⟩:=T
 refine aU.of bZ rfl a S rfl (fun _ _ _ _ _ _=>uY fun _ _=>rfl) fun _ _ _ _ _ _ _ _ _=>?_
 array_get_dec
abbrev tK:List Str:=["pockets", "name", "value", "others"]
theorem E7 (T:dc pg) (a:At K mg "laid" (top 16)):aU P w K mg pg "laid" kr (top 16) tK:=by
 have S:aC tK kr.ps (ai (top 16)):=⟨rfl,rfl,rfl,by decide +kernel,rfl,by decide +kernel,by decide +kernel⟩
 have z:=S.nd
 have z0:(oa tK ["pocket"]).Nodup:=by decide +kernel
 obtain ⟨⟩:=T
 refine aU.of qx rfl a S rfl (fun _ _ _ _ _ _=>Ba fun _ _ _=>rfl) fun _ _ _ _ _ _ _ _ _=>?_
 array_get_dec
abbrev nI:List Str:=["program", "hand", "seat", "rows", "row", "thing", "value", "part", "entry"]
theorem tH (T:dc pg) (a:At K mg "touch_of" (top 17)):aU P w K mg pg "touch_of" di (top 17) nI:=by
 have S:aC nI di.ps (ai (top 17)):=⟨rfl,rfl,rfl,by decide +kernel,rfl,by decide +kernel,by decide +kernel⟩
 have z:=S.nd
 obtain ⟨⟩:=T
 refine aU.of ft rfl a S rfl (fun _ _ _ _ _ _=>Ba fun _ _ _=>rfl) fun _ _ _ _ _ _ _ _ _=>?_
 array_get_dec
abbrev fN:List Str:=["program", "hand", "seat", "value", "row", "pockets", "held"]
theorem oC (T:dc pg) (a:At K mg "seat_behind" (top 18)):aU P w K mg pg "seat_behind" aS (top 18) fN:=by
 have S:aC fN aS.ps (ai (top 18)):=⟨rfl,rfl,rfl,by decide +kernel,rfl,by decide +kernel,by decide +kernel⟩
 have z:=S.nd
 have z0:(oa fN ["lock"]).Nodup:=by decide +kernel
 obtain ⟨⟩:=T
 refine aU.of bc rfl a S rfl (fun _ _ _ _ _ _=>Jr fun _ _ _ _=>rfl) fun _ _ _ _ _ _ _ _ _=>?_
 array_get_dec
abbrev rC:List Str:=["program", "hand", "seat", "values", "here", "touches", "used", "touch", "value"]
theorem zS (T:dc pg) (a:At K mg "course" (top 19)):aU P w K mg pg "course" gU (top 19) rC:=by
 have S:aC rC gU.ps (ai (top 19)):=⟨rfl,rfl,rfl,by decide +kernel,rfl,by decide +kernel,by decide +kernel⟩
 have z:=S.nd
 obtain ⟨⟩:=T
 refine aU.of mB rfl a S rfl (fun _ _ _ _ _ _=>Jr fun _ _ _ _=>rfl) fun _ _ _ _ _ _ _ _ _=>?_
 array_get_dec
abbrev kQ:List Str:=["_law_script", "_law_k", "_law_many", "_law_cell", "_law_left", "_law_j", "_law_seed"]
theorem rn (T:dc pg) (a:At K mg "_law_draw" (top 21)):aU P w K mg pg "_law_draw" cg (top 21) kQ:=by
 have S:aC kQ cg.ps (ai (top 21)):=⟨rfl,rfl,rfl,by decide +kernel,rfl,by decide +kernel,by decide +kernel⟩
 have z:=S.nd
 obtain ⟨⟩:=T
 refine aU.of dm rfl a S rfl (fun _ _ _ _ _ _=>Ba fun _ _ _=>rfl) fun _ _ _ _ _ _ _ _ _=>?_
 array_get_dec
abbrev kX:List Str:=["_law_state", "_law_many"]
theorem rX (T:dc pg) (a:At K mg "_law_pick" (top 22)):aU P w K mg pg "_law_pick" d9 (top 22) kX:=by
 have S:aC kX d9.ps (ai (top 22)):=⟨rfl,rfl,rfl,by decide +kernel,rfl,by decide +kernel,by decide +kernel⟩
 have z:=S.nd
 obtain ⟨⟩:=T
 refine aU.of gY rfl a S rfl (fun _ _ _ _ _ _=>uY fun _ _=>rfl) fun _ _ _ _ _ _ _ _ _=>?_
 array_get_dec
abbrev jD:List Str:=["_law_state", "_law_some", "_law_turn"]
theorem qi (T:dc pg) (a:At K mg "_law_names" (top 23)):aU P w K mg pg "_law_names" dC (top 23) jD:=by
 have S:aC jD dC.ps (ai (top 23)):=⟨rfl,rfl,rfl,by decide +kernel,rfl,by decide +kernel,by decide +kernel⟩
 have z:=S.nd
 obtain ⟨⟩:=T
 refine aU.of gu rfl a S rfl (fun _ _ _ _ _ _=>Mw fun _=>rfl) fun _ _ _ _ _ _ _ _ _=>?_
 array_get_dec
abbrev i3:List Str:=["_law_state", "_law_pockets", "_law_deep", "_law_way", "_law_word", "_law_one"]
theorem oz (T:dc pg) (a:At K mg "_law_sum_in" (top 24)):aU P w K mg pg "_law_sum_in" bb (top 24) i3:=by
 have S:aC i3 bb.ps (ai (top 24)):=⟨rfl,rfl,rfl,by decide +kernel,rfl,by decide +kernel,by decide +kernel⟩
 have z:=S.nd
 obtain ⟨⟩:=T
 refine aU.of bM rfl a S rfl (fun _ _ _ _ _ _=>Ba fun _ _ _=>rfl) fun _ _ _ _ _ _ _ _ _=>?_
 array_get_dec
abbrev nP:List Str:=["_law_state", "_law_pockets"]
theorem uz (T:dc pg) (a:At K mg "_law_sum" (top 25)):aU P w K mg pg "_law_sum" eY (top 25) nP:=by
 have S:aC nP eY.ps (ai (top 25)):=⟨rfl,rfl,rfl,by decide +kernel,rfl,by decide +kernel,by decide +kernel⟩
 have z:=S.nd
 obtain ⟨⟩:=T
 refine aU.of jm rfl a S rfl (fun _ _ _ _ _ _=>uY fun _ _=>rfl) fun _ _ _ _ _ _ _ _ _=>?_
 array_get_dec
abbrev ni:List Str:=["_law_state", "_law_named", "_law_pockets", "_law_many", "_law_kinds", "_law_sort", "_law_some", "_law_kind", "_law_pocket", "_law_sorts", "_law_thing"]
theorem uf (T:dc pg) (a:At K mg "_law_row" (top 26)):aU P w K mg pg "_law_row" eT (top 26) ni:=by
 have S:aC ni eT.ps (ai (top 26)):=⟨rfl,rfl,rfl,by decide +kernel,rfl,by decide +kernel,by decide +kernel⟩
 have z:=S.nd
 obtain ⟨⟩:=T
 refine aU.of i8 rfl a S rfl (fun _ _ _ _ _ _=>Jr fun _ _ _ _=>rfl) fun _ _ _ _ _ _ _ _ _=>?_
 array_get_dec
abbrev dt:List Str:=["_law_state", "_law_names_here", "_law_named", "_law_sort", "_law_many", "_law_pockets", "_law_hands", "_law_name", "_law_boxes"]
theorem mY (T:dc pg) (a:At K mg "_law_program" (top 27)):aU P w K mg pg "_law_program" cH (top 27) dt:=by
 have S:aC dt cH.ps (ai (top 27)):=⟨rfl,rfl,rfl,by decide +kernel,rfl,by decide +kernel,by decide +kernel⟩
 have z:=S.nd
 have z0:(oa dt ["_law_k"]).Nodup:=by decide +kernel
 have z1:(oa dt ["_law_name"]).Nodup:=by decide +kernel
 obtain ⟨⟩:=T
 refine aU.of fc rfl a S rfl (fun _ _ _ _ _ _=>Mw fun _=>rfl) fun _ _ _ _ _ _ _ _ _=>?_
 array_get_dec
abbrev gL:List Str:=["_law_thing", "_law_pockets", "_law_some", "_law_one", "_law_other_here", "_law_table"]
theorem qz (T:dc pg) (a:At K mg "_law_worth" (top 28)):aU P w K mg pg "_law_worth" bK (top 28) gL:=by
 have S:aC gL bK.ps (ai (top 28)):=⟨rfl,rfl,rfl,by decide +kernel,rfl,by decide +kernel,by decide +kernel⟩
 have z:=S.nd
 have z0:(oa gL ["_law_part"]).Nodup:=by decide +kernel
 obtain ⟨⟩:=T
 refine aU.of cj rfl a S rfl (fun _ _ _ _ _ _=>uY fun _ _=>rfl) fun _ _ _ _ _ _ _ _ _=>?_
 array_get_dec
abbrev mP:List Str:=["_law_rows", "_law_at", "_law_pockets", "_law_held", "_law_row_here"]
theorem uK (T:dc pg) (a:At K mg "_law_own" (top 29)):aU P w K mg pg "_law_own" bt (top 29) mP:=by
 have S:aC mP bt.ps (ai (top 29)):=⟨rfl,rfl,rfl,by decide +kernel,rfl,by decide +kernel,by decide +kernel⟩
 have z:=S.nd
 obtain ⟨⟩:=T
 refine aU.of bO rfl a S rfl (fun _ _ _ _ _ _=>Jr fun _ _ _ _=>rfl) fun _ _ _ _ _ _ _ _ _=>?_
 array_get_dec
abbrev fR:List Str:=["_law_rows", "_law_seat", "_law_pockets", "_law_at", "_law_passed", "_law_behind_here", "_law_former"]
theorem ou (T:dc pg) (a:At K mg "_law_rested" (top 30)):aU P w K mg pg "_law_rested" dY (top 30) fR:=by
 have S:aC fR dY.ps (ai (top 30)):=⟨rfl,rfl,rfl,by decide +kernel,rfl,by decide +kernel,by decide +kernel⟩
 have z:=S.nd
 have z0:(oa fR ["_law_name"]).Nodup:=by decide +kernel
 obtain ⟨⟩:=T
 refine aU.of iU rfl a S rfl (fun _ _ _ _ _ _=>uY fun _ _=>rfl) fun _ _ _ _ _ _ _ _ _=>?_
 array_get_dec
abbrev jx:List Str:=["_law_rows", "_law_seat", "_law_row_here"]
theorem qe (T:dc pg) (a:At K mg "_law_touch" (top 31)):aU P w K mg pg "_law_touch" bI (top 31) jx:=by
 have S:aC jx bI.ps (ai (top 31)):=⟨rfl,rfl,rfl,by decide +kernel,rfl,by decide +kernel,by decide +kernel⟩
 have z:=S.nd
 obtain ⟨⟩:=T
 refine aU.of ck rfl a S rfl (fun _ _ _ _ _ _=>uY fun _ _=>rfl) fun _ _ _ _ _ _ _ _ _=>?_
 array_get_dec
abbrev fO:List Str:=["_law_rows", "_law_seat", "_law_value_here", "_law_row_here", "_law_pockets", "_law_held", "_law_some"]
theorem oA (T:dc pg) (a:At K mg "_law_behind" (top 32)):aU P w K mg pg "_law_behind" cy (top 32) fO:=by
 have S:aC fO cy.ps (ai (top 32)):=⟨rfl,rfl,rfl,by decide +kernel,rfl,by decide +kernel,by decide +kernel⟩
 have z:=S.nd
 have z0:(oa fO ["_law_name"]).Nodup:=by decide +kernel
 obtain ⟨⟩:=T
 refine aU.of iV rfl a S rfl (fun _ _ _ _ _ _=>Ba fun _ _ _=>rfl) fun _ _ _ _ _ _ _ _ _=>?_
 array_get_dec
abbrev jM:List Str:=["_law_state", "_law_touch_here"]
theorem qW (T:dc pg) (a:At K mg "_law_value" (top 33)):aU P w K mg pg "_law_value" cw (top 33) jM:=by
 have S:aC jM cw.ps (ai (top 33)):=⟨rfl,rfl,rfl,by decide +kernel,rfl,by decide +kernel,by decide +kernel⟩
 have z:=S.nd
 obtain ⟨⟩:=T
 refine aU.of dB rfl a S rfl (fun _ _ _ _ _ _=>uY fun _ _=>rfl) fun _ _ _ _ _ _ _ _ _=>?_
 array_get_dec
abbrev i7:List Str:=["_law_rows", "_law_seat", "_law_values_here", "_law_touches", "_law_left", "_law_touch_here", "_law_value_here"]
theorem oh (T:dc pg) (a:At K mg "_law_course" (top 34)):aU P w K mg pg "_law_course" c7 (top 34) i7:=by
 have S:aC i7 c7.ps (ai (top 34)):=⟨rfl,rfl,rfl,by decide +kernel,rfl,by decide +kernel,by decide +kernel⟩
 have z:=S.nd
 obtain ⟨⟩:=T
 refine aU.of fT rfl a S rfl (fun _ _ _ _ _ _=>Ba fun _ _ _=>rfl) fun _ _ _ _ _ _ _ _ _=>?_
 array_get_dec
abbrev i6:List Str:=["_law_state", "_law_rows", "_law_seat", "_law_most", "_law_values_here", "_law_turn", "_law_touch_here", "_law_value_here"]
theorem nV (T:dc pg) (a:At K mg "_law_values" (top 35)):aU P w K mg pg "_law_values" c6 (top 35) i6:=by
 have S:aC i6 c6.ps (ai (top 35)):=⟨rfl,rfl,rfl,by decide +kernel,rfl,by decide +kernel,by decide +kernel⟩
 have z:=S.nd
 obtain ⟨⟩:=T
 refine aU.of fQ rfl a S rfl (fun _ _ _ _ _ _=>Jr fun _ _ _ _=>rfl) fun _ _ _ _ _ _ _ _ _=>?_
 array_get_dec
abbrev hW:List Str:=["_law_found", "_law_due"]
theorem rV (T:dc pg) (a:At K mg "_law_same" (top 36)):aU P w K mg pg "_law_same" aZ (top 36) hW:=by
 have S:aC hW aZ.ps (ai (top 36)):=⟨rfl,rfl,rfl,by decide +kernel,rfl,by decide +kernel,by decide +kernel⟩
 have z:=S.nd
 have z0:(oa hW ["_law_k"]).Nodup:=by decide +kernel
 obtain ⟨⟩:=T
 refine aU.of bC rfl a S rfl (fun _ _ _ _ _ _=>uY fun _ _=>rfl) fun _ _ _ _ _ _ _ _ _=>?_
 array_get_dec
abbrev cn:List Str:=["_law_state", "_law_program_here", "_law_hand", "_law_boxes", "_law_more", "_law_k", "_law_others", "_law_at", "_law_hands"]
theorem qD (T:dc pg) (a:At K mg "_law_other" (top 37)):aU P w K mg pg "_law_other" dE (top 37) cn:=by
 have S:aC cn dE.ps (ai (top 37)):=⟨rfl,rfl,rfl,by decide +kernel,rfl,by decide +kernel,by decide +kernel⟩
 have z:=S.nd
 have z0:(oa cn ["_law_box"]).Nodup:=by decide +kernel
 have z1:(oa cn ["_law_name"]).Nodup:=by decide +kernel
 have z2:(oa cn ["_law_one"]).Nodup:=by decide +kernel
 have z3:(oa cn ["_law_name", "_law_rows"]).Nodup:=by decide +kernel
 have z4:(oa (oa cn ["_law_name", "_law_rows"]) ["_law_row_here"]).Nodup:=by decide +kernel
 obtain ⟨⟩:=T
 refine aU.of gq rfl a S rfl (fun _ _ _ _ _ _=>Ba fun _ _ _=>rfl) fun _ _ _ _ _ _ _ _ _=>?_
 array_get_dec
abbrev cU:List Str:=["_law_program_here", "_law_hand", "_law_seat", "_law_values_here", "_law_place", "_law_whole", "_law_first", "_law_used", "_law_second", "_law_touches"]
theorem iM (T:dc pg) (a:At K mg "_law_pieces_right" (top 38)):aU P w K mg pg "_law_pieces_right" bg (top 38) cU:=by
 have S:aC cU bg.ps (ai (top 38)):=⟨rfl,rfl,rfl,by decide +kernel,rfl,by decide +kernel,by decide +kernel⟩
 have z:=S.nd
 have z0:(oa cU ["_law_touch_here"]).Nodup:=by decide +kernel
 obtain ⟨⟩:=T
 refine aU.of bW rfl a S rfl (fun _ _ _ _ _ _=>Og fun _ _ _ _ _=>rfl) fun _ _ _ _ _ _ _ _ _=>?_
 array_get_dec
abbrev Ep:List Str:=["_law_script", "_law_state", "_law_program_here", "_law_turn", "_law_hand", "_law_rows", "_law_seat", "_law_other_here", "_law_there", "_law_values_here", "_law_due", "_law_place"]
theorem Ez (T:dc pg) (a:At K mg "law" (top 39)):aU P w K mg pg "law" sU (top 39) Ep:=by
 have S:aC Ep sU.ps (ai (top 39)):=⟨rfl,rfl,rfl,by decide +kernel,rfl,by decide +kernel,by decide +kernel⟩
 have z:=S.nd
 obtain ⟨⟩:=T
 refine aU.of AJ rfl a S rfl (fun _ _ _ _ _ _=>Mw fun _=>rfl) fun _ _ _ _ _ _ _ _ _=>?_
 array_get_dec
end
end K12
end
section
open PySem L2 P3
local macro_rules
 | `(tactic| simp? (disch:= $t) only [$ls,*])=> do
  let xs ← ("↓K9 Ga ↓LS ↓GU Bf ↓Mx HU ↓FQ Dw Bk ↓Ku He F8 ↓Iv CH ↓J7 Jq HR Fc ↓Gz ↓Bs yh Av ↓Hb Cc BN ↓C8 zt ↓CA ↓Dh ↓yo wZ wG ↓Ft CJ ↓GH CK my ↓Bg ↓MF ↓MW ↓Ad vW DR D9 ↓JL ↓Cj yy ↓Gn Dj ↓FU CQ DD BQ ↓xY ↓FE D2 Bu FH JV Hn EW Ja ↓HZ BI Bh Eb I0 ↓IQ B6 An ↓GO Jl GF EZ ↓Gq Ea ↓HS DE yu ↓K6 Ib HF KZ IV BA Cm Dr ER sQ zX xX DB lg List.getElem?_cons_zero List.getElem?_cons_succ List.set_cons_zero List.set_cons_succ List.map_cons List.map_nil List.cons_append List.nil_append List.replicate_succ List.replicate_zero List.length_cons List.length_nil BD Ck iF C1 AK CU BV Ih Jn IW BS CW Cw DT Dc DX K0 Jf IF J4 Nj NJ Cd Nv NA lQ qJ Kl M5 len_T F7 KY ↓IH CL yd D7 BC yS KP E9 ko uP qA ↓zO bp aH eN uj DU Ao K7 IY HV ↓LY ES Gd ↓Md ↓JJ Hf MX Nw J6 List.append_assoc List.length_append we vU in_K ↓Lp Fv Ki Lg KQ LB Mb IE Hu Jp aP decide_true decide_false Bool.not_true Bool.not_false if_true if_false reduceIte ite_self Bool.false_eq_true String.reduceEq String.reduceNe reduceCtorEq Int.reduceEq Int.reduceNe Int.reduceLT Int.reduceLE Int.reduceSub Int.reduceAdd Int.reduceMul Int.reduceToNat Int.reduceNeg".splitOn " ").toArray.mapM fun w=>if w.startsWith "↓" then `(Lean.Parser.Tactic.simpLemma| ↓$(Lean.mkIdent (w.drop 1).toName):term) else `(Lean.Parser.Tactic.simpLemma| $(Lean.mkIdent w.toName):term)
  let ys : Lean.TSyntaxArray [`Lean.Parser.Tactic.simpStar,`Lean.Parser.Tactic.simpErase,`Lean.Parser.Tactic.simpLemma] := ls.getElems ++ xs.map (fun x=>⟨x.raw⟩)
  `(tactic| simp (disch:= $t) only [$ys,*])
section
open PySem L2 P3
set_option maxHeartbeats 1000000
namespace K12
inductive Bo where | add | sub | mul | less | same
 deriving DecidableEq
noncomputable def Bo.w:Bo->Str
 | .add=> "add" | .sub=> "sub" | .mul=> "mul" | .less=> "less" | .same=> "same"
noncomputable def Bo.f:Bo->Int->Int->Int
 | .add,a,b=>(a+b) % 1000
 | .sub,a,b=>(a - b) % 1000
 | .mul,a,b=>a*b % 1000
 | .less,a,b=>if a < b then 1 else 0
 | .same,a,b=>if a=b then 1 else 0
inductive Sm where
 | num (n:Int) | of (x:Str) | un (a:Sm) | bin (o:Bo) (a b:Sm)
noncomputable def ef:Sm->PV
 | .num n=> .tup [.str "num",.int n]
 | .of x=> .tup [.str "of",.str x]
 | .un a=> .tup [.str "not",ef a]
 | .bin o a b=> .tup [.str o.w,ef a,ef b]
noncomputable def Sm.dp:Sm->Nat
 | .num _=>1 | .of _=>1 | .un a=>a.dp+1 | .bin _ a b=>max a.dp b.dp+1
noncomputable def Sm.ok:Sm->Prop
 | .num n=>0<=n∧n<=999 | .of _=>True | .un a=>a.ok | .bin _ a b=>a.ok∧b.ok
noncomputable def Sm.val (f:Str->Int):Sm->Int
 | .num n=>n
 | .of x=>f x
 | .un a=>if a.val f=0 then 1 else 0
 | .bin o a b=>o.f (a.val f) (b.val f)
theorem Sm.kn {f : Str -> Int} (hf : ∀ x, 0 <= f x /\ f x <= 999) : ∀ e : Sm, e.ok -> 0 <= e.val f /\ e.val f <= 999
  | .num n, h => h
  | .of x, _ => hf x
  | .un a, _ => by unfold Sm.val; split <;> omega
  | .bin o a b, _ => by
    unfold Sm.val Bo.f
    cases o <;> simp only <;> first
      | (split <;> omega)
      | exact ⟨Int.emod_nonneg _ (by decide), by have := Int.emod_lt_of_pos (Sm.val f a + Sm.val f b) (show (0 : Int) < 1000 by decide); omega⟩
      | exact ⟨Int.emod_nonneg _ (by decide), by have := Int.emod_lt_of_pos (Sm.val f a - Sm.val f b) (show (0 : Int) < 1000 by decide); omega⟩
      | exact ⟨Int.emod_nonneg _ (by decide), by have := Int.emod_lt_of_pos (Sm.val f a * Sm.val f b) (show (0 : Int) < 1000 by decide); omega⟩
theorem cY: ∀ e:Sm,(ef e).flat=true
 | .num n=>rfl
 | .of x=>rfl
 | .un a=>by simp [ef,PV.flat,PV.aT,cY a]
 | .bin o a b=>by simp [ef,PV.flat,PV.aT,cY a,cY b]
abbrev Pk:=List (Str × Int)
noncomputable def kL (ps:Pk):PV:= .tup (ps.map fg)
noncomputable def fP:Pk->Str->Int
 | [],_=>0
 | q::r,x=>if q.1=x then q.2 else fP r x
structure Oj (ps:Pk):Prop where
 zN:(ps.map (·.1)).Pairwise gQ
 mem: ∀ q∈ps,1<=q.2∧q.2<=999
 len:ps.length<=20
theorem za: ∀ {ps:Pk},(∀ q∈ps,1<=q.2∧q.2<=999)-> ∀ x,0<=fP ps x∧fP ps x<=999
 | [],_,x=>by simp [fP]
 | q::r,h,x=>by
  unfold fP;split
  · have:=h q List.mem_cons_self;omega
  · exact za (fun z hz=>h z (List.mem_cons_of_mem _ hz)) x
theorem jL: ∀ (ps:Pk),PV.aT (ps.map fg)=true
 | []=>rfl
 | q::r=>by simp [PV.aT,fg,PV.flat,jL r]
noncomputable def bN (ps:Pk):List (Key × PV):=ps.map fun q=>(.inr q.1,.int q.2)
theorem jB: ∀ (ps:Pk),hV (ps.map fg)=some (bN ps)
 | []=>rfl
 | q::r=>by simp [hV,fg,pairP?,gp,jB r,bN]
theorem tY: ∀ (ps:Pk) (x:Str),(bo (bN ps) (.inr x)).getD (.int 0)= .int (fP ps x)
 | [],x=>rfl
 | q::r,x=>by
  unfold fP bN
  rw [List.map_cons]
  by_cases e:q.1=x
  · rw [if_pos e,e,qJ];rfl
  · rw [if_neg e,sy (by simpa using e)];exact tY r x
theorem BG: ∀ {kvs:List (Key × PV)} {k:Key} {v:PV},k ∉ kvs.map (fun kv:Key × PV=>kv.1)->er kvs k v=kvs++[(k,v)]:=by
 intro kvs k v h
 unfold er
 rw [if_neg]
 simp only [List.any_eq_true,decide_eq_true_eq,not_exists,not_and]
 exact fun x hx e=>h (List.mem_map.mpr ⟨x,hx,e⟩)
theorem sO: ∀ (more acc:List (Key × PV)),((acc++more).map (fun kv:Key × PV=>kv.1)).Nodup->bJ acc more=acc++more
 | [],acc,_=>by simp [bJ]
 | p::r,acc,h=>by
  have h2:p.1 ∉ acc.map (fun kv:Key × PV=>kv.1):=by
   rw [List.map_append,List.nodup_append] at h
   intro m
   exact h.2.2 p.1 m p.1 (by simp) rfl
  show bJ (er acc p.1 p.2) r=_
  rw [BG h2,sO r _ (by simpa using h)]
  simp
theorem jY {ps : Pk} (nd : (ps.map (·.1)).Nodup) : bJ [] (bN ps) = bN ps := by
  rw [sO _ _ ?_]; · rfl
  have e : ([] ++ bN ps).map (fun kv : Key × PV => kv.1) = (ps.map (·.1)).map (Sum.inr (α := Int)) := by unfold bN; rw [List.nil_append, List.map_map, List.map_map]; rfl
  rw [e]
  exact List.Pairwise.map _ (fun a b z e => z (Sum.inr.inj e)) nd
section
variable {pg:Tb} (T:dc pg)
include T
theorem LL (k:Nat) (o:Bo) (a b:Int) (h:PH) (ha:0<=a∧a<=999):run pg (k+1) "joined_worth" [.str o.w,.int a,.int b] h= .ok (.int (o.f a b)) h:=by
 rw [run_eq T.mW rfl]
 cases o<;>simp? (disch:=omega) only [cG,fk,Bo.w,Bo.f]
 all_goals split<;>rfl
theorem ib (h:PH) {ps:Pk} (nd:(ps.map (·.1)).Nodup) (hm: ∀ q∈ps,1<=q.2∧q.2<=999) (hl:ps.length<=1000): ∀ (e:Sm) (k:Nat),e.ok->e.dp<=k->run pg (k+1) "worth" [ef e,kL ps] h= .ok (.int (e.val (fP ps))) h
 | .num n,k,ho,hk=>by
  rw [run_eq T.lS rfl]
  simp? (disch:=omega) only [fK,ir,ef,Sm.val]
 | .of x,k,ho,hk=>by
  rw [run_eq T.lS rfl]
  have hz:(ps.map fg).length < 16777216:=by rw [List.length_map];omega
  simp? (disch:=omega) only [fK,ir,ef,kL,Sm.val,jB,jY nd,tY,qA hz]
  exact aN rfl
 | .un a,k,ho,hk=>by
  obtain ⟨k,rfl⟩: ∃ j,k=j+1:=⟨k - 1,by unfold Sm.dp at hk;omega⟩
  have ih:=ib h nd hm hl a k ho (by unfold Sm.dp at hk;omega)
  rw [run_eq T.lS rfl]
  simp? (disch:=omega) only [fK,ir,ef,Sm.val,ih]
  split<;>rfl
 | .bin o a b,k,ho,hk=>by
  obtain ⟨k,rfl⟩: ∃ j,k=j+1:=⟨k - 1,by unfold Sm.dp at hk;omega⟩
  have ih1:=ib h nd hm hl a k ho.1 (by unfold Sm.dp at hk;omega)
  have ih2:=ib h nd hm hl b k ho.2 (by unfold Sm.dp at hk;omega)
  have ij:=LL T k o (a.val (fP ps)) (b.val (fP ps)) h (Sm.kn (za hm) a ho.1)
  rw [run_eq T.lS rfl]
  cases o<;>(simp only [Bo.w] at ij;simp? (disch:=omega) only [fK,ir,ef,Sm.val,ih1,ih2,ij,Bo.w])
end
end K12
end
section
open PySem L2 P3
set_option maxHeartbeats 1000000
namespace K12
theorem mN {h:PH} {n:Nat} {os:Pk} (e:h[n]?=some (.lst (os.map fg))) (hl:os.length < 64) (nd:(os.map (·.1)).Nodup):bG [.ref n] h= .ok (.ref h.length) (h++[.lst ((jF os).map fg)]):=by
 have hi:itemsOf h (.ref n)=some (os.map fg):=by simp [itemsOf,cQ,e]
 show eK [.ref n] h=_
 unfold eK
 simp only [hi]
 cases os with
 | nil=>simp [fG,bf,jF]
 | cons q r =>
  have e1:fG ((q::r).map fg)=none:=rfl
  rw [e1]
  simp only [sV]
  rw [if_pos ⟨hl,nd⟩]
noncomputable def lay (ps:Pk) (x:Str) (v:Int):Pk:=jF (ps.filter (fun q=> !decide (q.1=x))++if v=0 then [] else [(x,v)])
theorem gD (ps:Pk):(jF ps).Perm ps:=List.mergeSort_perm ps _
theorem wD {ps:Pk} (nd:(ps.map (·.1)).Nodup):((jF ps).map (·.1)).Pairwise gQ:=by
 have h1:(jF ps).Pairwise fun a b=>lj a.1 b.1=true:=List.pairwise_mergeSort (fun a b c=>fX a.1 b.1 c.1) (fun a b=>by simpa using iD a.1 b.1) ps
 have h2:((jF ps).map (·.1)).Nodup:=((gD ps).map _).nodup_iff.mpr nd
 rw [List.pairwise_map]
 rw [List.nodup_iff_pairwise_ne,List.pairwise_map] at h2
 refine h1.imp₂ (fun a b z1 z2=>?_) h2
 rcases kN z2 with z | z
 · exact z
 · unfold lj at z1;simp [z] at z1
theorem kb {ps:Pk} (nd:(ps.map (·.1)).Nodup): ∀ q∈ps,fP ps q.1=q.2:=by
 induction ps with
 | nil=>intro q m;cases m
 | cons p r ih =>
  intro q m
  rw [List.map_cons] at nd;rw [List.nodup_cons] at nd
  unfold fP
  rcases List.mem_cons.mp m with e | m
  · rw [if_pos (by rw [e]),e]
  · rw [if_neg (fun z=>nd.1 (by rw [z];exact List.mem_map.mpr ⟨q,m,rfl⟩))]
    exact ih nd.2 q m
theorem je {ps:Pk} {x:Str} (h:x ∉ ps.map (·.1)):fP ps x=0:=by
 induction ps with
 | nil=>rfl
 | cons p r ih =>
  rw [List.map_cons,List.mem_cons,not_or] at h
  unfold fP
  rw [if_neg (fun z=>h.1 z.symm)]
  exact ih h.2
theorem CY {ps qs:Pk} (p:ps.Perm qs) (nd:(qs.map (·.1)).Nodup) (x:Str):fP ps x=fP qs x:=by
 by_cases hx:x∈qs.map (·.1)
 · obtain ⟨q,m,rfl⟩:=List.mem_map.mp hx
   rw [kb nd q m,kb ((p.map (·.1)).nodup_iff.mpr nd) q (p.mem_iff.mpr m)]
 · rw [je hx,je fun z=>hx ((p.map (·.1)).mem_iff.mp z)]
theorem uw {ps:Pk} (nd:(ps.map (·.1)).Nodup) (x:Str) (v:Int):((ps.filter (fun q=> !decide (q.1=x))++if v=0 then [] else [(x,v)]).map (·.1)).Nodup:=by
 rw [List.map_append]
 refine List.nodup_append.mpr ⟨(List.Sublist.map _ List.filter_sublist).nodup nd,?_,fun a ha b hb e=>?_⟩
 · split<;>simp
 · split at hb
   · cases hb
   · obtain ⟨q,m,rfl⟩:=List.mem_map.mp ha
     have hb':b=x:=by simpa using hb
     have:=(List.mem_filter.mp m).2
     simp only [Bool.not_eq_true',decide_eq_false_iff_not] at this
     exact this (e.trans hb')
theorem AA {ps:Pk} (nd:(ps.map (·.1)).Nodup) (x:Str) (v:Int) (y:Str):fP (lay ps x v) y=if y=x then v else fP ps y:=by
 rw [lay,CY (gD _) (uw nd x v)]
 have app: ∀ (l m:Pk) (y:Str),fP (l++m) y=if y∈l.map (·.1) then fP l y else fP m y:=by
  intro l m y
  induction l with
  | nil=>rfl
  | cons q r ih =>
   rw [List.cons_append,fP,fP,ih]
   by_cases e:q.1=y
   · rw [if_pos e,if_pos e,if_pos (by rw [List.map_cons,e];exact List.mem_cons_self)]
   · have e': ¬ y=q.1:=fun z=>e z.symm
     rw [if_neg e,if_neg e]
     simp only [List.map_cons,List.mem_cons,e',false_or]
 have fil: ∀ l:Pk,¬ y=x->fP (l.filter fun q=> !decide (q.1=x)) y=fP l y:=by
  intro l ne
  induction l with
  | nil=>rfl
  | cons q r ih =>
   by_cases e:q.1=x
   · rw [List.filter_cons_of_neg (by simp [e]),fP,if_neg (fun z=>ne (z.symm.trans e)),ih]
   · rw [List.filter_cons_of_pos (by simp [e]),fP,fP,ih]
 rw [app]
 by_cases e:y=x
 · rw [if_pos e,if_neg]
   · split
     · rename_i z;rw [z];rfl
     · rw [fP,if_pos e.symm]
   · intro z
     obtain ⟨q,m,rfl⟩:=List.mem_map.mp z
     have:=(List.mem_filter.mp m).2
     simp [e] at this
 · rw [if_neg e,fil ps e]
   split
   · rfl
   · rename_i z
     have h0:fP ps y=0:=by
      rw [<- fil ps e];exact je z
     rw [h0]
     split
     · rfl
     · rw [fP,if_neg (fun z=>e z.symm)];rfl
structure fB (L:List Str) (ps:Pk):Prop where
 zN:(ps.map (·.1)).Pairwise gQ
 mem: ∀ q∈ps,q.1∈L∧1<=q.2∧q.2<=999
theorem fB.nd {L:List Str} {ps:Pk} (h:fB L ps):(ps.map (·.1)).Nodup:=h.zN.imp fun {a b} z e=>by subst e;exact gH _ z
theorem fB.len {L:List Str} {ps:Pk} (h:fB L ps):ps.length<=L.length:=by
 have:=List.Nodup.length_le_of_subset h.nd (l₂ :=L) (fun x hx=>by obtain ⟨q,hq,rfl⟩:=List.mem_map.mp hx;exact (h.mem q hq).1)
 simpa using this
theorem fB.nil {L:List Str}:fB L []:=⟨.nil,fun q m=>by cases m⟩
theorem p7 {L:List Str} {ps:Pk} {x:Str} {v:Int} (h:fB L ps) (hx:x∈L) (h0:0<=v) (h9:v<=999):fB L (lay ps x v):=by
 refine ⟨wD (uw h.nd x v),fun q m=>?_⟩
 rcases List.mem_append.mp ((gD _).mem_iff.mp m) with m | m
 · exact h.mem q (List.mem_filter.mp m).1
 · split at m
   · cases m
   · rw [List.mem_singleton.mp m];exact ⟨hx,show 1<=v by omega,h9⟩
theorem GA {L:List Str} {ps qs:Pk} (h1:fB L ps) (h2:fB L qs) (e: ∀ x,fP ps x=fP qs x):ps=qs:=by
 have key: ∀ {ps qs:Pk},fB L ps->fB L qs->(∀ x,fP ps x=fP qs x)-> ∀ q∈ps,q∈qs:=fun {ps qs} h1 h2 e q m=>by
  have h:=kb h1.nd q m
  have hx:q.1∈qs.map (·.1):=Decidable.byContradiction fun z=>by
   have:=(h1.mem q m).2.1
   rw [e,je z] at h;omega
  obtain ⟨q',m',e'⟩:=List.mem_map.mp hx
  have h':=kb h2.nd q' m'
  rw [e',<- e,h] at h'
  have:q'=q:=Prod.ext e' h'.symm
  rw [<- this];exact m'
 refine iC (le:=fun a b=>gQ a.1 b.1) (fun a _ b _ z1 z2=>absurd z2 (iH z1)) ?_ (by simpa [List.pairwise_map] using h1.zN) (by simpa [List.pairwise_map] using h2.zN)
 have n1:ps.Nodup:=List.Pairwise.of_map (R:=(· ≠ ·)) (·.1) (fun a b z e=>z (by rw [e])) h1.nd
 have n2:qs.Nodup:=List.Pairwise.of_map (R:=(· ≠ ·)) (·.1) (fun a b z e=>z (by rw [e])) h2.nd
 exact (List.perm_ext_iff_of_nodup n1 n2).mpr fun q=>⟨key h1 h2 e q,key h2 h1 (fun x=>(e x).symm) q⟩
theorem kh (x:Str): ∀ ps:Pk,(ps.filterMap fun q=>if q.1=x then none else some (fg q))=(ps.filter (fun q=> !decide (q.1=x))).map fg
 | []=>rfl
 | q::r=>by
  by_cases z:q.1=x
  · rw [List.filterMap_cons_none (by simp [z]),List.filter_cons_of_neg (by simp [z]),kh x r]
  · rw [List.filterMap_cons_some (by rw [if_neg z]),List.filter_cons_of_pos (by simp [z]),List.map_cons,kh x r]
section
variable {pg:Tb} (T:dc pg)
include T
theorem vf (k:Nat) (h:PH) {ps:Pk} (nd:(ps.map (·.1)).Nodup) (x:Str) (v:Int) (hl:(lay ps x v).length<=20) (hp:ps.length<=1000):run pg (k+1) "laid" [kL ps,.str x,.int v] h= .ok (kL (lay ps x v)) h:=by
 rw [run_eq T.Ht rfl]
 have e1:fY ⟨none,ps.map fg⟩ (bj 1 (gN 4) (ar (af gS (af aq (ab 4) (eC (.int 0))) (ab 1))) (ab 4) (run pg k) [some (.tup (ps.map fg)),some (.str x),some (.int v),none]) (ps.map fg) [] h= .ok ([]++ps.filterMap fun q=>if q.1=x then none else some (fg q)) h:=by
  refine dA rfl ps [] (fun q m=>?_) (by simp;omega)
  simp? (disch:=omega) only [fg]
  by_cases z:q.1=x<;>simp [z]
 rw [kh,List.nil_append] at e1
 have hl':(ps.filter (fun q=> !decide (q.1=x))++if v=0 then [] else [(x,v)]).length<=20:=by rw [<- (gD _).length_eq];exact hl
 have nd':=uw nd x v
 have hz:((ps.filter (fun q=> !decide (q.1=x))).map fg).length < 16777216:=by
  rw [List.length_map]
  have:=List.length_filter_le (fun q:Str × Int=> !decide (q.1=x)) ps
  omega
 by_cases hv:v=0
 · subst hv
   rw [if_pos rfl,List.append_nil] at hl' nd'
   have s1:=mN (h:=h++[.lst ((ps.filter (fun q=> !decide (q.1=x))).map fg)]) (n:=h.length) bp (Nat.lt_of_le_of_lt hl' (by decide)) nd'
   simp? (disch:=omega) only [kr,qx,kL,e1,s1]
   rw [aN (v:= .tup _) (jL _),lay,if_pos rfl,List.append_nil]
 · rw [if_neg hv] at hl' nd'
   have s1:=mN (h:=h++[.lst ((ps.filter (fun q=> !decide (q.1=x))++[(x,v)]).map fg)]) (n:=h.length) bp (Nat.lt_of_le_of_lt hl' (by decide)) nd'
   rw [List.map_append] at s1
   simp? (disch:=omega) only [kr,qx,kL,e1,hv,ko hz]
   rw [show List.map fg [(x,v)]=[PV.tup [PV.str x,PV.int v]] from rfl] at s1
   simp? (disch:=omega) only [s1,List.map_cons,List.map_nil]
   rw [aN (v:= .tup _) (jL _),lay,if_neg hv]
end
end K12
end
section
open PySem L2 P3
set_option maxHeartbeats 1000000
namespace K12
inductive Rw where
 | let_ (x:Str) (e:Sm) | leap (k:Int) (e:Sm) | take (l:Str) | free (l:Str) | get (x b:Str) | put (b:Str) (e:Sm)
 | send (l:Str) (e:Sm) | fetch (x l:Str) | say (d:Str) (e:Sm) | clock (x:Str) | lot (x:Str) (n:Int) | hear (x d:Str)
noncomputable def Rw.w:Rw->Str
 | .let_ _ _=> "let" | .leap _ _=> "leap" | .take _=> "take" | .free _=> "free" | .get _ _=> "get" | .put _ _=> "put"
 | .send _ _=> "send" | .fetch _ _=> "fetch" | .say _ _=> "say" | .clock _=> "clock" | .lot _ _=> "lot" | .hear _ _=> "hear"
noncomputable def Rw.ps:Rw->List PV
 | .let_ x e=>[.str x,ef e] | .leap k e=>[.int k,ef e] | .take l=>[.str l] | .free l=>[.str l] | .get x b=>[.str x,.str b] | .put b e=>[.str b,ef e]
 | .send l e=>[.str l,ef e] | .fetch x l=>[.str x,.str l] | .say d e=>[.str d,ef e] | .clock x=>[.str x] | .lot x n=>[.str x,.int n] | .hear x d=>[.str x,.str d]
noncomputable def bV (r:Rw):PV:= .tup (.str r.w::r.ps)
noncomputable def aA (rs:List Rw):PV:= .tup (rs.map bV)
structure aO where
 row:Nat
 ps:Pk
 held:List Str
noncomputable def cb (hs:List Str):PV:= .tup (hs.map PV.str)
noncomputable def aj (s:aO):PV:= .tup [.int s.row,kL s.ps,cb s.held]
noncomputable def own (held:List Str):Rw->Bool
 | .take l=>decide (l∈held)
 | .free l=> !decide (l∈held)
 | .let_ _ _=>true
 | .leap _ _=>true
 | _=>false
noncomputable def nF (e:Sm):Prop:=e.ok∧e.dp<=7
noncomputable def cV (L:List Str) (n:Nat):Rw->Prop
 | .let_ x e=>x∈L∧nF e
 | .leap k e=>0<=k∧k<=n∧nF e
 | .put _ e=>nF e
 | .send _ e=>nF e
 | .say _ e=>nF e
 | .get x _=>x∈L
 | .fetch x _=>x∈L
 | .clock x=>x∈L
 | .lot x m=>x∈L∧2<=m∧m<=1000
 | .hear x _=>x∈L
 | _=>True
noncomputable def behind (s:aO):Rw->aO
 | .let_ x e=>⟨s.row+1,lay s.ps x (e.val (fP s.ps)),s.held⟩
 | .leap k e=>if e.val (fP s.ps)=0 then ⟨s.row+1,s.ps,s.held⟩ else ⟨k.toNat,s.ps,s.held⟩
 | _=>⟨s.row+1,s.ps,s.held⟩
structure cx (L:List Str) (rs:List Rw) (s:aO):Prop where
 pk:fB L s.ps
 le:s.row<=rs.length
theorem ka: ∀ hs:List Str,PV.aT (hs.map PV.str)=true
 | []=>rfl
 | x::r=>by rw [List.map_cons,PV.aT,ka r];rfl
theorem dS (s:aO):(aj s).flat=true:=by
 simp [aj,PV.flat,PV.aT,kL,jL,cb,ka]
theorem ny (r:Rw):(bV r).flat=true:=by
 cases r<;>simp [bV,Rw.ps,PV.flat,PV.aT,cY]
theorem j7: ∀ rs:List Rw,PV.aT (rs.map bV)=true
 | []=>rfl
 | x::r=>by rw [List.map_cons,PV.aT,j7 r,ny];rfl
noncomputable def a8 (rs:List Rw) (s:aO):Bool:=match rs[s.row]? with
 | none=>true
 | some r=> !own s.held r
noncomputable def az (rs:List Rw):Nat->aO->aO
 | 0,s=>if a8 rs s then s else ⟨rs.length,s.ps,s.held⟩
 | n+1,s=>if a8 rs s then s else match rs[s.row]? with
  | none=>s
  | some r=>az rs n (behind s r)
theorem eO {L:List Str} {rs:List Rw} {s:aO} {r:Rw} (h:cx L rs s) (hr:cV L rs.length r) (e:rs[s.row]?=some r):cx L rs (behind s r):=by
 have hlt:s.row < rs.length:=(List.getElem?_eq_some_iff.mp e).1
 cases r with
 | let_ x e0 =>
  have hv:=Sm.kn (za fun q m=>(h.pk.mem q m).2) e0 hr.2.1
  exact ⟨p7 h.pk hr.1 hv.1 hv.2,hlt⟩
 | leap j e0 =>
  show cx L rs (if e0.val (fP s.ps)=0 then ⟨s.row+1,s.ps,s.held⟩ else ⟨j.toNat,s.ps,s.held⟩)
  split
  · exact ⟨h.pk,hlt⟩
  · exact ⟨h.pk,by have:=hr.2.1;have:=hr.1;show Int.toNat _<=rs.length;omega⟩
 | _=>exact ⟨h.pk,hlt⟩
theorem jy {L : List Str} {rs : List Rw} (hr : ∀ r ∈ rs, cV L rs.length r) : ∀ (n : Nat) (s : aO), cx L rs s -> cx L rs (az rs n s)
  | 0, s, h => by unfold az; split; · exact h
                  · exact ⟨h.pk, Nat.le_refl _⟩
  | n + 1, s, h => by
    unfold az; split
    · exact h
    · split
      · exact h
      · rename_i r e; exact jy hr n _ (eO h (hr r (List.mem_of_getElem? e)) e)
theorem d8 {rs:List Rw} {s:aO} {r:Rw} (e:rs[s.row]?=some r):eJ (rs.map bV) (s.row:Int)=some (bV r):=P3.d6 rfl (by rw [List.getElem?_map,e];rfl)
section
variable {pg:Tb} (T:dc pg)
include T
theorem G8 (k:Nat) (h:PH) (r:Rw) (held:List Str):run pg (k+1) "is_own_row" [bV r,cb held] h= .ok (.bl (own held r)) h:=by
 rw [run_eq T.qO rfl]
 cases r<;>simp? (disch:=omega) only [dv,gC,bV,Rw.w,Rw.ps,cb,own]
theorem wt (k:Nat) (h:PH) {L:List Str} (hL:L.length<=20) {rs:List Rw} {s:aO} {r:Rw} (hs:cx L rs s) (hr:cV L rs.length r) (hrow:rs[s.row]?=some r):run pg (k+9) "behind_own_row" [bV r,aj s] h= .ok (aj (behind s r)) h:=by
 have nd:=hs.pk.nd
 have hm: ∀ q∈s.ps,1<=q.2∧q.2<=999:=fun q m=>(hs.pk.mem q m).2
 have hl:=hs.pk.len
 have w: ∀ e:Sm,nF e->run pg (k+8) "worth" [ef e,kL s.ps] h= .ok (.int (e.val (fP s.ps))) h:=fun e he=>ib T h nd hm (by omega) e (k+7) he.1 (by have:=he.2;omega)
 rw [run_eq T.kz rfl]
 cases r with
 | let_ x e =>
  have hb:=(eO hs hr hrow).pk.len
  have l1:=vf T (k+7) h nd x (e.val (fP s.ps)) (Nat.le_trans hb hL) (by omega)
  simp? (disch:=omega) only [br,bZ,bV,Rw.w,Rw.ps,aj,behind,w e hr.2,l1]
  rfl
 | leap j e =>
  simp? (disch:=omega) only [br,bZ,bV,Rw.w,Rw.ps,aj,behind,w e hr.2.2]
  by_cases z:e.val (fP s.ps)=0
  · simp only [z,if_true];rfl
  · have:((j.toNat:Nat):Int)=j:=by have:=hr.1;omega
    simp only [z,if_false,this]
 | _ =>
  simp? (disch:=omega) only [br,bZ,bV,Rw.w,Rw.ps,aj,behind]
  rfl
theorem jO (k:Nat) (h:PH) {rs:List Rw} {s:aO} (hs:s.row<=rs.length):run pg (k+2) "is_rested" [aA rs,aj s] h= .ok (.bl (a8 rs s)) h:=by
 rw [run_eq T.sD rfl]
 cases e:rs[s.row]? with
 | none =>
  have:s.row=rs.length:=by have:=List.getElem?_eq_none_iff.mp e;omega
  have r1:a8 rs s=true:=by unfold a8;rw [e]
  simp? (disch:=omega) only [dj,fE,aA,aj,r1,this,List.length_map]
 | some r =>
  have hlt:s.row < rs.length:=(List.getElem?_eq_some_iff.mp e).1
  have ne: ¬ (s.row:Int)=(rs.length:Int):=by omega
  have ix:=kf (h:=h) (d8 e)
  have o1:=G8 T k h r s.held
  simp? (disch:=omega) only [dj,fE,aA,aj,a8,e,ne,ix,o1,List.length_map]
noncomputable def fS (p:PV) (j:Int) (rs:List Rw):Prop:= ∃ a b c d hs nm,p= .tup [a,b,c,d,.tup hs]∧eJ hs j=some (.tup [nm,aA rs])
theorem jk (k:Nat) (h:PH) {p:PV} {j:Int} {rs:List Rw} (hp:fS p j rs):run pg (k+1) "rows_of" [p,.int j] h= .ok (aA rs) h:=by
 obtain ⟨a,b,c,d,hs,nm,rfl,e⟩:=hp
 rw [run_eq T.wN rfl]
 simp? (disch:=omega) only [gc,kC,kf e]
theorem f9 (k:Nat) (h:PH) {L:List Str} (hL:L.length<=20) {p:PV} {j:Int} {rs:List Rw} (hp:fS p j rs) (hr: ∀ r∈rs,cV L rs.length r) {s:aO} (hs:cx L rs s):run pg (k+10) "rested" [p,.int j,aj s] h= .ok (aj (az rs 200 s)) h:=by
 have rest: ∀ (xs xs0:List PV) (s0 s:aO) (tv:Option PV),cx L rs s ->
   ((cF ⟨none,xs0⟩ (iS (gN 5) (ag (bu (ar (ah "is_rested" (aa (ab 3) (aa (ab 4) ae)))) (aB (ab 4)) bD) (ak (ah "behind_own_row" (aa (af aq (ab 3) (af aq (ab 4) (eC (.int 0)))) (aa (ab 4) ae))) (gN 4))) (run pg (k+9))) xs
    [some p,some (.int j),some (aj s0),some (aA rs),some (aj s),tv] h).bind
    (oI (ag (bu (ar (ah "is_rested" (aa (ab 3) (aa (ab 4) ae)))) (aB (ab 4)) bD) (aB (ay (aa (eB bE (aa (ab 3) ae)) (aa (af aq (ab 4) (eC (.int 1))) (aa (af aq (ab 4) (eC (.int 2))) ae)))))) (run pg (k+9))))= .ok (.rt (aj (az rs xs.length s))) h:=by
  intro xs xs0 s0
  induction xs with
  | nil =>
   intro s tv hs
   have q:=jO T (k+7) h hs.le
   simp? (disch:=omega) only [ku,az,List.length_nil,q]
   cases a8 rs s<;>simp? (disch:=omega) only [aj,aA,List.length_map,az]
  | cons x xs ih =>
   intro s tv hs
   have q:=jO T (k+7) h hs.le
   rw [fV]
   simp? (disch:=omega) only [az,List.length_cons,q]
   cases e:rs[s.row]? with
   | none =>
    have r1:a8 rs s=true:=by unfold a8;rw [e]
    simp? (disch:=omega) only [r1,lK]
   | some r =>
    cases r1:a8 rs s with
    | true=>simp? (disch:=omega) only [r1,lK]
    | false =>
     have hm:=hr r (List.mem_of_getElem? e)
     have ix:=kf (h:=h) (d8 e)
     have be:=wt T k h hL hs hm e
     have i0:aq (aj s) (.int 0) h= .ok (.int s.row) h:=rfl
     have ix':aq (aA rs) (.int s.row) h= .ok (bV r) h:=ix
     simp? (disch:=omega) only [r1,i0,ix',be,cP,ih _ _ (eO hs hm e)]
 rw [run_eq T.Ab rfl]
 have ro:=jk T (k+8) h hp
 simp? (disch:=omega) only [g7,mX,ro]
 have hh:=rest (bF 0 200) (bF 0 200) s s none hs
 have len:(bF 0 200).length=200:=rfl
 rw [len] at hh
 exact (congrArg (fin h) hh).trans (by rw [xX,lg])
end
end K12
end
section
open PySem L2 P3
set_option maxHeartbeats 1000000
namespace K12
section
variable {pg:Tb} (T:dc pg)
include T
theorem i4 (k:Nat) (h:PH) {L:List Str} (hL:L.length<=20) {p:PV} {j:Int} {rs:List Rw} (hp:fS p j rs) (hr: ∀ r∈rs,cV L rs.length r):run pg (k+11) "first_seat" [p,.int j] h= .ok (aj (az rs 200 ⟨0,[],[]⟩)) h:=by
 have:=f9 T k h hL hp hr (s:=⟨0,[],[]⟩) ⟨.nil,Nat.zero_le _⟩
 rw [run_eq T.qZ rfl]
 have e:PV.tup [.int 0,.tup [],.tup []]=aj ⟨0,[],[]⟩:=rfl
 simp? (disch:=omega) only [dz,gG,e,this]
end
noncomputable def Rw.aV:Rw->Option Str
 | .get x _=>some x | .fetch x _=>some x | .clock x=>some x | .lot x _=>some x | .hear x _=>some x
 | _=>none
noncomputable def Rw.sum:Rw->Option Sm
 | .let_ _ e=>some e | .leap _ e=>some e | .put _ e=>some e | .send _ e=>some e | .say _ e=>some e
 | _=>none
theorem cV.sum {L:List Str} {n:Nat} {r:Rw} (h:cV L n r) {e:Sm} (q:r.sum=some e):nF e:=by
 cases r<;>cases q
 · exact h.2
 · exact h.2.2
 · exact h
 · exact h
 · exact h
noncomputable def PV.num:PV->Int
 | .int i=>i
 | _=>0
noncomputable def after (s:aO) (v:PV):Rw->aO
 | .get x _=>⟨s.row+1,lay s.ps x (PV.num v),s.held⟩
 | .fetch x _=>⟨s.row+1,lay s.ps x (PV.num v),s.held⟩
 | .clock x=>⟨s.row+1,lay s.ps x (PV.num v),s.held⟩
 | .lot x _=>⟨s.row+1,lay s.ps x (PV.num v),s.held⟩
 | .hear x _=>⟨s.row+1,lay s.ps x (PV.num v),s.held⟩
 | .take l=>⟨s.row+1,s.ps,bf (s.held++[l])⟩
 | .free l=>⟨s.row+1,s.ps,s.held.filter fun z=> !decide (z=l)⟩
 | _=>⟨s.row+1,s.ps,s.held⟩
noncomputable def cm (s:aO):Rw->PV
 | .let_ _ e=> .tup [.str "let",.str "",.int (e.val (fP s.ps))]
 | .leap k e=> .tup [.str "leap",.int k,.int (e.val (fP s.ps))]
 | .take l=> .tup [.str "take",.str l,.non]
 | .free l=> .tup [.str "free",.str l,.non]
 | .get _ b=> .tup [.str "get",.str b,.non]
 | .put b e=> .tup [.str "put",.str b,.int (e.val (fP s.ps))]
 | .send l e=> .tup [.str "send",.str l,.int (e.val (fP s.ps))]
 | .fetch _ l=> .tup [.str "fetch",.str l,.non]
 | .say d e=> .tup [.str "say",.str d,.int (e.val (fP s.ps))]
 | .clock _=> .tup [.str "clock",.str "",.non]
 | .lot _ n=> .tup [.str "lot",.str "",.int n]
 | .hear _ d=> .tup [.str "hear",.str d,.non]
noncomputable def bH (rs:List Rw) (s:aO):PV:=match rs[s.row]? with
 | none=> .non
 | some r=>cm s r
theorem dR: ∀ ss:List Str,fG (ss.map PV.str)=some ss
 | []=>rfl
 | x::r=>by rw [List.map_cons,fG,dR r];rfl
theorem uC {h:PH} {ss:List Str} (hl:ss.length < 64):bG [.tup (ss.map PV.str)] h= .ok (.ref h.length) (h++[.lst ((bf ss).map PV.str)]):=by
 simp only [bG,dR,if_pos hl]
theorem sR {xs:List PV} {x:PV}:dy (x::xs) (some 1) none=xs:=by rw [P3.eS (by decide)];rfl
theorem pN:bo aL (.inr "let")=some (.ktup [.str "pocket",.str "sum"]):=by decide +kernel
theorem mK:bo aL (.inr "leap")=some (.ktup [.str "target",.str "sum"]):=by decide +kernel
theorem pM:bo aL (.inr "get")=some (.ktup [.str "pocket",.str "box"]):=by decide +kernel
theorem o7:bo aL (.inr "put")=some (.ktup [.str "box",.str "sum"]):=by decide +kernel
theorem mT:bo aL (.inr "take")=some (.ktup [.str "lock"]):=by decide +kernel
theorem parts_free:bo aL (.inr "free")=some (.ktup [.str "lock"]):=by decide +kernel
theorem mU:bo aL (.inr "send")=some (.ktup [.str "lane",.str "sum"]):=by decide +kernel
theorem k8:bo aL (.inr "fetch")=some (.ktup [.str "pocket",.str "lane"]):=by decide +kernel
theorem oZ:bo aL (.inr "say")=some (.ktup [.str "door",.str "sum"]):=by decide +kernel
theorem kU:bo aL (.inr "clock")=some (.ktup [.str "pocket"]):=by decide +kernel
theorem pE:bo aL (.inr "lot")=some (.ktup [.str "pocket",.str "chances"]):=by decide +kernel
theorem mL:bo aL (.inr "hear")=some (.ktup [.str "pocket",.str "door"]):=by decide +kernel
theorem ig (l:Str): ∀ ss:List Str,(ss.filterMap fun z=>if z=l then none else some (PV.str z))=(ss.filter (fun z=> !decide (z=l))).map PV.str
 | []=>rfl
 | q::r=>by
  by_cases z:q=l
  · rw [List.filterMap_cons_none (by simp [z]),List.filter_cons_of_neg (by simp [z]),ig l r]
  · rw [List.filterMap_cons_some (by rw [if_neg z]),List.filter_cons_of_pos (by simp [z]),List.map_cons,ig l r]
section
variable {pg:Tb} (T:dc pg)
include T
theorem sY (k:Nat) (h:PH) {L:List Str} (hL:L.length<=20) {p:PV} {j:Int} {rs:List Rw} (hp:fS p j rs) (hr: ∀ r∈rs,cV L rs.length r) {s:aO} (hs:cx L rs s):run pg (k+10) "touch_of" [p,.int j,aj s] h= .ok (bH rs s) h:=by
 have nd:=hs.pk.nd
 have hm: ∀ q∈s.ps,1<=q.2∧q.2<=999:=fun q m=>(hs.pk.mem q m).2
 have hl:=hs.pk.len
 have w: ∀ e:Sm,nF e->run pg (k+9) "worth" [ef e,kL s.ps] h= .ok (.int (e.val (fP s.ps))) h:=fun e he=>ib T h nd hm (by omega) e (k+8) he.1 (by have:=he.2;omega)
 have ro:=jk T (k+8) h hp
 have ro':run pg (k+9) "rows_of" [p,.int j] h= .ok (.tup (rs.map bV)) h:=ro
 rw [run_eq T.ur rfl]
 cases e:rs[s.row]? with
 | none =>
  have:s.row=rs.length:=by have:=List.getElem?_eq_none_iff.mp e;have:=hs.le;omega
  have t1:bH rs s= .non:=by unfold bH;rw [e]
  simp? (disch:=omega) only [di,ft,aj,t1,this,ro',List.length_map]
 | some r =>
  have hlt:s.row < rs.length:=(List.getElem?_eq_some_iff.mp e).1
  have ne: ¬ (s.row:Int)=(rs.length:Int):=by omega
  have ix:=kf (h:=h) (d8 e)
  have hrr:=hr r (List.mem_of_getElem? e)
  have t1:bH rs s=cm s r:=by unfold bH;rw [e]
  rw [t1]
  have w': ∀ e:Sm,r.sum=some e->run pg (k+9) "worth" [ef e,kL s.ps] h= .ok (.int (e.val (fP s.ps))) h:=fun e q=>w e (hrr.sum q)
  cases r<;>first | (have w1:=w' _ rfl;simp? (disch:=omega) only [di,ft,aj,ro',cm,ne,ix,List.length_map,bV,Rw.w,Rw.ps,sR,pN,mK,pM,o7,mT,parts_free,mU,k8,oZ,kU,pE,mL,List.zip_cons_cons,List.zip_nil_left,List.zip_nil_right,ku,fV,cP,w1];done) | simp? (disch:=omega) only [di,ft,aj,ro',cm,ne,ix,List.length_map,bV,Rw.w,Rw.ps,sR,pN,mK,pM,o7,mT,parts_free,mU,k8,oZ,kU,pE,mL,List.zip_cons_cons,List.zip_nil_left,List.zip_nil_right,ku,fV,cP]
theorem g9 (k:Nat) (h:PH) {L:List Str} (hL:L.length<=20) {p:PV} {j:Int} {rs:List Rw} (hp:fS p j rs) (hr: ∀ r∈rs,cV L rs.length r) {s:aO} (hs:cx L rs s) (hh:s.held.length<=60) {r:Rw} (e:rs[s.row]?=some r) {v:PV} (hv: ∀ x,r.aV=some x-> ∃ i:Int,v= .int i∧0<=i∧i<=999):run pg (k+11) "seat_behind" [p,.int j,aj s,v] h= .ok (aj (az rs 200 (after s v r))) h:=by
 have ro:=jk T (k+9) h hp
 have ro':run pg (k+10) "rows_of" [p,.int j] h= .ok (.tup (rs.map bV)) h:=ro
 have hlt:s.row < rs.length:=(List.getElem?_eq_some_iff.mp e).1
 have ix:=kf (h:=h) (d8 e)
 have hrr:=hr r (List.mem_of_getElem? e)
 have ink: ∀ a:Str,ju (.str a) (.ktup [(.str "get"),(.str "fetch"),(.str "clock"),(.str "lot"),(.str "hear")]) h= .ok (.bl (decide (a∈(["get", "fetch", "clock", "lot", "hear"]:List Str)))) h:=fun a=>in_K (ss:=["get", "fetch", "clock", "lot", "hear"])
 rw [run_eq T.oF rfl]
 have pk: ∀ x,r.aV=some x->x∈L-> ∀ s':aO,s'=⟨s.row+1,lay s.ps x (PV.num v),s.held⟩-> ∃ i:Int,v= .int i∧run pg (k+10) "laid" [kL s.ps,.str x,.int i] h= .ok (kL (lay s.ps x i)) h∧run pg (k+10) "rested" [p,.int j,.tup [.int ((s.row:Int)+1),kL (lay s.ps x i),cb s.held]] h= .ok (aj (az rs 200 ⟨s.row+1,lay s.ps x i,s.held⟩)) h:=by
  intro x hx hxL s' _
  obtain ⟨i,rfl,h0,h9⟩:=hv x hx
  have li:=p7 hs.pk hxL h0 h9
  have l1:=vf T (k+9) h hs.pk.nd x i (Nat.le_trans li.len hL) (by have:=hs.pk.len;omega)
  have r1:=f9 T k h hL hp hr (s:=⟨s.row+1,lay s.ps x i,s.held⟩) ⟨li,hlt⟩
  exact ⟨i,rfl,l1,r1⟩
 have r0:run pg (k+10) "rested" [p,.int j,.tup [.int ((s.row:Int)+1),kL s.ps,cb s.held]] h= .ok (aj (az rs 200 ⟨s.row+1,s.ps,s.held⟩)) h:=f9 T k h hL hp hr (s:=⟨s.row+1,s.ps,s.held⟩) ⟨hs.pk,hlt⟩
 cases r with
 | get x b=>obtain ⟨i,rfl,l1,r1⟩:=pk x rfl hrr _ rfl;simp? (disch:=omega) only [aS,bc,aj,ro',ix,bV,Rw.w,Rw.ps,ink,List.mem_cons,List.not_mem_nil,or_false,or_true,true_or,false_or,l1,r1,after,PV.num]
 | fetch x b=>obtain ⟨i,rfl,l1,r1⟩:=pk x rfl hrr _ rfl;simp? (disch:=omega) only [aS,bc,aj,ro',ix,bV,Rw.w,Rw.ps,ink,List.mem_cons,List.not_mem_nil,or_false,or_true,true_or,false_or,l1,r1,after,PV.num]
 | clock x=>obtain ⟨i,rfl,l1,r1⟩:=pk x rfl hrr _ rfl;simp? (disch:=omega) only [aS,bc,aj,ro',ix,bV,Rw.w,Rw.ps,ink,List.mem_cons,List.not_mem_nil,or_false,or_true,true_or,false_or,l1,r1,after,PV.num]
 | lot x n=>obtain ⟨i,rfl,l1,r1⟩:=pk x rfl hrr.1 _ rfl;simp? (disch:=omega) only [aS,bc,aj,ro',ix,bV,Rw.w,Rw.ps,ink,List.mem_cons,List.not_mem_nil,or_false,or_true,true_or,false_or,l1,r1,after,PV.num]
 | hear x d=>obtain ⟨i,rfl,l1,r1⟩:=pk x rfl hrr _ rfl;simp? (disch:=omega) only [aS,bc,aj,ro',ix,bV,Rw.w,Rw.ps,ink,List.mem_cons,List.not_mem_nil,or_false,or_true,true_or,false_or,l1,r1,after,PV.num]
 | take l =>
  have r1:=f9 T k (h++[.lst ((bf (s.held++[l])).map PV.str)]) hL hp hr (s:=⟨s.row+1,s.ps,bf (s.held++[l])⟩) ⟨hs.pk,hlt⟩
  have r1':run pg (k+10) "rested" [p,.int j,.tup [.int ((s.row:Int)+1),kL s.ps,.tup ((bf (s.held++[l])).map PV.str)]] (h++[.lst ((bf (s.held++[l])).map PV.str)])=_:=r1
  have s1:=uC (h:=h) (ss:=s.held++[l]) (by simp;omega)
  rw [List.map_append] at s1
  have hl2:(s.held.map PV.str).length+1<=16777216:=by simp;omega
  have s1':bG [.tup (s.held.map PV.str++[.str l])] h= .ok (.ref h.length) (h++[.lst ((bf (s.held++[l])).map PV.str)]):=s1
  simp? (disch:=omega) only [aS,bc,aj,cb,ro',ix,bV,Rw.w,Rw.ps,ink,List.mem_cons,List.not_mem_nil,or_false,or_true,true_or,false_or,after,List.length_map,s1',r1']
  exact aN (dS _)
 | free l =>
  have e1: ∀ e:ax,e=[some p,some (.int j),some (aj s),some v,some (bV (.free l)),some (kL s.ps),some (cb s.held)]->fY ⟨none,s.held.map PV.str⟩ (bj 1 (gN 7) (ar (af gS (ab 7) (af aq (ab 4) (eC (.int 1))))) (ab 7) (run pg (k+10)) e) (s.held.map PV.str) [] h= .ok ((s.held.filter (fun z=> !decide (z=l))).map PV.str) h:=by
   rintro _ rfl
   rw [<- ig]
   refine (dA rfl s.held [] (fun q m=>?_) (by simp;omega)).trans (by rw [List.nil_append])
   simp? (disch:=omega) only [bV,Rw.w,Rw.ps]
   by_cases z:q=l<;>simp [z]
  have e1':=e1 _ rfl
  have r1:=f9 T k (h++[.lst ((s.held.filter (fun z=> !decide (z=l))).map PV.str)]) hL hp hr (s:=⟨s.row+1,s.ps,s.held.filter (fun z=> !decide (z=l))⟩) ⟨hs.pk,hlt⟩
  have r1':run pg (k+10) "rested" [p,.int j,.tup [.int ((s.row:Int)+1),kL s.ps,.tup ((s.held.filter (fun z=> !decide (z=l))).map PV.str)]] (h++[.lst ((s.held.filter (fun z=> !decide (z=l))).map PV.str)])=_:=r1
  simp only [bV,aj,cb,Rw.w,Rw.ps] at e1'
  simp? (disch:=omega) only [aS,bc,aj,cb,ro',ix,bV,Rw.w,Rw.ps,ink,List.mem_cons,List.not_mem_nil,or_false,or_true,true_or,false_or,after,List.length_map,e1',r1']
  exact aN (dS _)
 | _=>simp? (disch:=omega) only [aS,bc,aj,ro',ix,bV,Rw.w,Rw.ps,ink,List.mem_cons,List.not_mem_nil,or_false,or_true,true_or,false_or,r0,after]
end
end K12
end
section
open PySem L2 P3
set_option maxHeartbeats 1000000
namespace K12
noncomputable def bB (ns:List Int):PO:= .j4 (ns.map PV.int)
theorem uU:(10:Int) ^ Int.toNat 18=1000000000000000000:=by decide +kernel
theorem p6:(10:Int) ^ 18=1000000000000000000:=by decide +kernel
theorem Af {ns:List Int} {i:Int} (h0:0<=i) (h1:i < ns.length): ∃ v:Int,eJ (ns.map PV.int) i=some (.int v):=by
 obtain ⟨n,en⟩:=Int.eq_ofNat_of_zero_le h0;subst en
 have hn:n < ns.length:=by omega
 exact ⟨ns[n],P3.d6 rfl (by rw [List.getElem?_map,List.getElem?_eq_getElem hn];rfl)⟩
section
variable {pg:Tb} (T:dc pg)
include T
theorem BK (j:Nat) {h:PH} {r:Nat} {ns:List Int} (hr:h[r]?=some (bB ns)) (hn:ns.length<=63) {k m:Int} (k0:0<=k) (k9:k<=1000000) (m0:0 < m) (m9:m<=1000000000): ∃ v:Int,0<=v∧v < m∧run pg (j+1) "_law_draw" [.ref r,.int k,.int m] h= .ok (.int v) h:=by
 have fin1: ∀ v:Int,run pg (j+1) "_law_draw" [.ref r,.int k,.int m] h= .ok (.int (v % m)) h-> ∃ v:Int,0<=v∧v < m∧run pg (j+1) "_law_draw" [.ref r,.int k,.int m] h= .ok (.int v) h:=fun v e=>⟨_,Int.emod_nonneg _ (by omega),Int.emod_lt_of_pos _ m0,e⟩
 have key: ∃ v:Int,run pg (j+1) "_law_draw" [.ref r,.int k,.int m] h= .ok (.int (v % m)) h:=by
  rw [run_eq T.rq rfl]
  by_cases z:ns.length=0
  · have hz: ¬ (0:Int) < (ns.length:Int):=by omega
    have z18: ¬ (1000000000000000000:Int)<=0:=by omega
    simp? (disch:=omega) only [cg,dm,hr,bB,List.length_map,hz,uU,p6,z18,lI]
    exact ⟨_,rfl⟩
  · have hz:(0:Int) < (ns.length:Int):=by omega
    obtain ⟨v,hv⟩:=Af (ns:=ns) (i:=k % ns.length) (Int.emod_nonneg _ (by omega)) (Int.emod_lt_of_pos _ hz)
    have loop: ∀ (xs xs0:List PV) (a:Int) (o:Option PV),∃ (b:Int) (o':Option PV),cF ⟨none,xs0⟩ (iS (gN 5) (ak (af nO (ab 4) (eC (.int 1000003))) (gN 4)) (run pg j)) xs [some (.ref r),some (.int k),some (.int m),some (.int v),some (.int a),o,none] h= .ok (.nx [some (.ref r),some (.int k),some (.int m),some (.int v),some (.int b),o',none]) h:=by
     intro xs xs0
     induction xs with
     | nil=>intro a o;exact ⟨a,o,rfl⟩
     | cons x xs ih =>
      intro a o
      obtain ⟨b,o',e⟩:=ih (a / 1000003) (some x)
      refine ⟨b,o',?_⟩
      rw [fV]
      simp? (disch:=omega) only [cP,e]
    have hm60:0<=k / (ns.length:Int) % 60∧k / (ns.length:Int) % 60 < 60:=⟨Int.emod_nonneg _ (by omega),Int.emod_lt_of_pos _ (by omega)⟩
    by_cases z18:(1000000000000000000:Int)<=v
    · obtain ⟨b,o',e⟩:=loop (bF 0 (Int.toNat (k / (ns.length:Int) % 60))) (bF 0 (Int.toNat (k / (ns.length:Int) % 60))) v none
      by_cases b0:0 < b
      · simp? (disch:=omega) only [cg,dm,hr,bB,List.length_map,hz,hv,uU,p6,z18,e,b0,lI]
        exact ⟨_,rfl⟩
      · simp? (disch:=omega) only [cg,dm,hr,bB,List.length_map,hz,hv,uU,p6,z18,e,b0,lI]
        exact ⟨_,rfl⟩
    · simp? (disch:=omega) only [cg,dm,hr,bB,List.length_map,hz,hv,uU,p6,z18,lI]
      exact ⟨_,rfl⟩
 obtain ⟨v,e⟩:=key
 exact fin1 v e
end
end K12
end
section
open PySem L2 P3
set_option maxHeartbeats 1000000
namespace K12
noncomputable def bh (k:Int) (o:Option Int):PO:= .dct ((.inr "script",.ref 0)::(.inr "k",.int k)::(match o with | none=>[] | some l=>[(.inr "left",.int l)]))
theorem D3 {k:Int} {o:Option Int} {n:Nat} (hn:0 < n):(bh k o).iN n=true:=by cases o<;>simp [bh,PO.iN,PV.ja,PV.iN,hn]
theorem cM {ns:List Int} {k k':Int} {o o':Option Int} {g g':PH} {v:PV} (hv:v.flat=true):settle (bB ns::bh k o::g) v (bB ns::bh k' o'::(g++g'))= .ok v (bB ns::bh k' o'::g) :=
 tV (h:=bB ns::bh k o::g) (g:=g') (i:=1) (o:=bh k o) (o':=bh k' o') hv rfl rfl (D3 (by simp))
theorem rB {ns:List Int} {k k':Int} {o o':Option Int} {g:PH} {v:PV}:settle (bB ns::bh k o::g) v (bB ns::bh k' o'::g)= .ok v (bB ns::bh k' o'::g) :=
 lb (h:=bB ns::bh k o::g) (i:=1) (o:=bh k o) (o':=bh k' o')
section
variable {ns:List Int} {k l v:Int} {o:Option Int} {g:PH}
theorem JM {h:PH}:EL (.str "k") h (some (bh k o))= .ok (.int k) h:=by cases o<;>simp [bh,Cd,bo,aP,lQ]
theorem tU {h:PH}:EL (.str "script") h (some (bh k o))= .ok (.ref 0) h:=by cases o<;>simp [bh,Cd,bo,aP,lQ]
theorem hX {h:PH}:EL (.str "left") h (some (bh k (some l)))= .ok (.int l) h:=by simp [bh,Cd,bo,aP,lQ]
theorem Ma {h:PH} {n:Nat}:zF n (.str "k") (.int v) h (some (bh k o))= .ok () (h.set n (bh v o)):=by
 unfold bh
 rw [hU (by cases o<;>simp)]
 cases o<;>simp [er,aP]
theorem mV {h:PH} {n:Nat}:zF n (.str "left") (.int v) h (some (bh k o))= .ok () (h.set n (bh k (some v))):=by
 unfold bh
 rw [hU (by cases o<;>simp)]
 cases o<;>simp [er,aP]
end
section
variable {pg:Tb} (T:dc pg)
include T
theorem ba (j:Nat) (g:PH) {ns:List Int} (hn:ns.length<=63) (o:Option Int) {k:Int} (m:Int) (k0:0<=k) (k9:k < 1000000) (m0:0 < m) (m9:m<=1000000000): ∃ v:Int,0<=v∧v < m∧run pg (j+2) "_law_pick" [.ref 1,.int m] (bB ns::bh k o::g)= .ok (.int v) (bB ns::bh (k+1) o::g):=by
 obtain ⟨v,h0,h1,e⟩:=BK T j (h:=bB ns::bh (k+1) o::g) (r:=0) rfl hn (k:=k+1) (by omega) (by omega) m0 m9
 refine ⟨v,h0,h1,?_⟩
 rw [run_eq T.sS rfl]
 simp? (disch:=omega) only [d9,gY,JM,Ma,tU,e,rB]
end
noncomputable def bS:Nat->Int
 | 0=>3
 | d+1=>2+2*bS d
theorem yw: ∀ d,3<=bS d
 | 0=>by decide
 | d+1=>by have:=yw d;unfold bS;omega
theorem CM {v:Int} (h0:0<=v) (h1:v < 5): ∃ o:Bo,eJ [PV.str "add",.str "sub",.str "mul",.str "less",.str "same"] v=some (.str o.w):=by
 have:v=0∨v=1∨v=2∨v=3∨v=4:=by omega
 rcases this with rfl | rfl | rfl | rfl | rfl
 · exact ⟨.add,rfl⟩
 · exact ⟨.sub,rfl⟩
 · exact ⟨.mul,rfl⟩
 · exact ⟨.less,rfl⟩
 · exact ⟨.same,rfl⟩
theorem Fg {v w:Int} (h0:0<=v) (h1:v < 5) (w0:0<=w) (w1:w < 1000): ∃ n:Int,0<=n∧n<=999∧eJ [PV.int 0,.int 1,.int 2,.int 999,.int w] v=some (.int n):=by
 have:v=0∨v=1∨v=2∨v=3∨v=4:=by omega
 rcases this with rfl | rfl | rfl | rfl | rfl
 · exact ⟨0,by decide,by decide,rfl⟩
 · exact ⟨1,by decide,by decide,rfl⟩
 · exact ⟨2,by decide,by decide,rfl⟩
 · exact ⟨999,by decide,by decide,rfl⟩
 · exact ⟨w,w0,by omega,rfl⟩
theorem jh {ss:List Str} {v:Int} (h0:0<=v) (h1:v < ss.length): ∃ x∈ss,eJ (ss.map PV.str) v=some (.str x):=by
 obtain ⟨n,en⟩:=Int.eq_ofNat_of_zero_le h0;subst en
 have hn:n < ss.length:=by omega
 exact ⟨ss[n],List.getElem_mem hn,P3.d6 rfl (by rw [List.getElem?_map,List.getElem?_eq_getElem hn];rfl)⟩
section
variable {pg:Tb} (T:dc pg)
include T
theorem uW (j:Nat) {ns:List Int} (hn:ns.length<=63) {np:Nat} {ps:List Str} (p0:0 < ps.length) (p9:ps.length<=1000) (deep w k:Int) (o:Option Int) (g:PH) (k0:0<=k) (k9:k+2<=1000000) (hp:g[np]?=some (.lst (ps.map PV.str))) (u v:Option PV) :
  ∃ (e:Sm) (k':Int) (g':PH),e.ok∧e.dp=1∧k<=k'∧k'<=k+2∧ag (bu (ar (af cu (af fw (ab 3) (eC (.int 2))) (eC (.int 0)))) (aB (ay (aa (eC (.str "num")) (aa (af aq (aQ (aa (eC (.int 0)) (aa (eC (.int 1)) (aa (eC (.int 2)) (aa (eC (.int 999)) (aa (ah "_law_pick" (aa (ab 0) (aa (eC (.int 1000)) ae))) ae)))))) (ah "_law_pick" (aa (ab 0) (aa (eC (.int 5)) ae)))) ae)))) bD)
  (aB (ay (aa (eC (.str "of")) (aa (af aq (ab 1) (ah "_law_pick" (aa (ab 0) (aa (eB bE (aa (ab 1) ae)) ae)))) ae)))) (run pg (j+2)) [some (.ref 1),some (.ref (np+1+1)),some (.int deep),some (.int w),u,v] (bB ns::bh k o::g)= .ok (.rt (ef e)) (bB ns::bh k' o::(g++g')):=by
 by_cases z:w % 2=0
 · obtain ⟨a,a0,a1,ea⟩:=ba T j g hn o (k:=k) 1000 k0 (by omega) (by decide) (by decide)
   obtain ⟨b,b0,b1,eb⟩:=ba T j (g++[.lst [.int 0,.int 1,.int 2,.int 999,.int a]]) hn o (k:=k+1) 5 (by omega) (by omega) (by decide) (by decide)
   obtain ⟨n,n0,n1,en⟩:=Fg b0 b1 a0 a1
   refine ⟨.num n,k+1+1,[.lst [.int 0,.int 1,.int 2,.int 999,.int a]],⟨n0,n1⟩,rfl,by omega,by omega,?_⟩
   simp? (disch:=omega) only [z,ea,eb,en,ef]
 · obtain ⟨a,a0,a1,ea⟩:=ba T j g hn o (k:=k) ps.length k0 (by omega) (by omega) (by omega)
   obtain ⟨x,hx,ex⟩:=jh a0 a1
   refine ⟨.of x,k+1,[],trivial,rfl,by omega,by omega,?_⟩
   simp? (disch:=omega) only [z,ea,hp,ex,ef,List.length_map,List.append_nil]
theorem xw (j:Nat) {ns:List Int} (hn:ns.length<=63) {np:Nat} {ps:List Str} (p0:0 < ps.length) (p9:ps.length<=1000): ∀ (d:Nat) (deep:Int),deep+d=5-> ∀ (k l:Int) (g:PH),0<=k->k+bS d<=1000000->g[np]?=some (.lst (ps.map PV.str)) ->
  ∃ (e:Sm) (k' l':Int),e.ok∧e.dp<=d+1∧k<=k'∧k'<=k+bS d∧run pg (j+d+3) "_law_sum_in" [.ref 1,.ref (np+1+1),.int deep] (bB ns::bh k (some l)::g)= .ok (ef e) (bB ns::bh k' (some l')::g):=by
 intro d
 induction d with
 | zero =>
  intro deep hd k l g k0 k9 hp
  have hd5: ¬ deep < 5:=by omega
  simp only [bS] at k9
  obtain ⟨w,w0,w1,ew⟩:=ba T j g hn (some l) (k:=k) 9 k0 (by omega) (by decide) (by decide)
  obtain ⟨e,k',g',h1,h2,h3,h4,h5⟩:=uW T j hn p0 p9 deep w (k+1) (some l) g (by omega) (by omega) hp none none
  refine ⟨e,k',l,h1,by omega,by omega,by simp only [bS];omega,?_⟩
  rw [run_eq T.d7 rfl]
  simp? (disch:=omega) only [bb,bM,Nat.add_zero,ew,hd5,↓h5,cM (cY e)]
 | succ d ih =>
  intro deep hd k l g k0 k9 hp
  have hd5:deep < 5:=by omega
  have b3:=yw d
  simp only [bS] at k9
  have hlt:=bq hp
  obtain ⟨w,w0,w1,ew⟩:=ba T (j+d+1) g hn (some l) (k:=k) 9 k0 (by omega) (by decide) (by decide)
  by_cases c1:2 < w∧1 < l
  · obtain ⟨a,a0,a1,ea⟩:=ba T (j+d+1) (g++[.lst [.str "add",.str "sub",.str "mul",.str "less",.str "same"]]) hn (some (l - 2)) (k:=k+1) 5 (by omega) (by omega) (by decide) (by decide)
    obtain ⟨o,eo⟩:=CM a0 a1
    have hp':(g++[.lst [.str "add",.str "sub",.str "mul",.str "less",.str "same"]])[np]?=some (.lst (ps.map PV.str)):=by rw [aM hlt];exact hp
    obtain ⟨e1,k1,l1,q1,q2,q3,q4,q5⟩:=ih (deep+1) (by omega) (k+1+1) (l - 2) _ (by omega) (by omega) hp'
    obtain ⟨e2,k2,l2,r1,r2,r3,r4,r5⟩:=ih (deep+1) (by omega) k1 l1 _ (by omega) (by omega) hp'
    refine ⟨.bin o e1 e2,k2,l2,⟨q1,r1⟩,by unfold Sm.dp;omega,by omega,by simp only [bS];omega,?_⟩
    rw [show j+(d+1)+3=(j+d+3)+1 by omega,run_eq T.d7 rfl]
    have c11:=c1.1
    have c12:=c1.2
    simp? (disch:=omega) only [bb,bM,ew,hd5,c11,c12,hX,mV,ea,eo,q5,r5]
    exact cM (v:=ef (.bin o e1 e2)) (cY _)
  · by_cases c2:w=2∧0 < l
    · obtain ⟨c21,c22⟩:=c2
      subst c21
      obtain ⟨e1,k1,l1,q1,q2,q3,q4,q5⟩:=ih (deep+1) (by omega) (k+1) (l - 1) g (by omega) (by omega) hp
      refine ⟨.un e1,k1,l1,q1,by unfold Sm.dp;omega,by omega,by simp only [bS];omega,?_⟩
      rw [show j+(d+1)+3=(j+d+3)+1 by omega,run_eq T.d7 rfl]
      simp? (disch:=omega) only [bb,bM,ew,hd5,c22,hX,mV,q5]
      exact rB (v:=ef (.un e1))
    · obtain ⟨e,k',g',h1,h2,h3,h4,h5⟩:=uW T (j+d+1) hn p0 p9 deep w (k+1) (some l) g (by omega) (by omega) hp none none
      refine ⟨e,k',l,h1,by omega,by omega,by simp only [bS];omega,?_⟩
      rw [show j+(d+1)+3=(j+d+3)+1 by omega,run_eq T.d7 rfl]
      by_cases d1:2 < w
      · have d2: ¬ 1 < l:=fun z=>c1 ⟨d1,z⟩
        have d3: ¬ w=2:=by omega
        simp? (disch:=omega) only [bb,bM,ew,hd5,d1,d2,d3,hX,↓h5,cM (cY e)]
      · by_cases d3:w=2
        · subst d3
          have d2: ¬ 0 < l:=fun z=>c2 ⟨rfl,z⟩
          simp? (disch:=omega) only [bb,bM,ew,hd5,d1,d2,hX,↓h5,cM (cY e)]
        · simp? (disch:=omega) only [bb,bM,ew,hd5,d1,d3,hX,↓h5,cM (cY e)]
omit T in
theorem CB {v:Int} (h0:0<=v) (h1:v < 4): ∃ n:Int,eJ [PV.int 0,.int 2,.int 5,.int 11] v=some (.int n):=by
 have:v=0∨v=1∨v=2∨v=3:=by omega
 rcases this with rfl | rfl | rfl | rfl<;>exact ⟨_,rfl⟩
theorem l6 (j:Nat) {ns:List Int} (hn:ns.length<=63) {np:Nat} {ps:List Str} (p0:0 < ps.length) (p9:ps.length<=1000) (k:Int) (o:Option Int) (g:PH) (k0:0<=k) (k9:k+80<=1000000) (hp:g[np]?=some (.lst (ps.map PV.str))) :
  ∃ (e:Sm) (k':Int) (o':Option Int),nF e∧k<=k'∧k'<=k+80∧run pg (j+8) "_law_sum" [.ref 1,.ref (np+1+1)] (bB ns::bh k o::g)= .ok (ef e) (bB ns::bh k' o'::g):=by
 obtain ⟨a,a0,a1,ea⟩:=ba T (j+5) (g++[.lst [.int 0,.int 2,.int 5,.int 11]]) hn o (k:=k) 4 k0 (by omega) (by decide) (by decide)
 obtain ⟨l,el⟩:=CB a0 a1
 have hp':(g++[.lst [.int 0,.int 2,.int 5,.int 11]])[np]?=some (.lst (ps.map PV.str)):=by rw [aM (bq hp)];exact hp
 have b4:bS 4=78:=by decide
 obtain ⟨e,k',l',q1,q2,q3,q4,q5⟩:=xw T j hn p0 p9 4 1 (by decide) (k+1) l _ (by omega) (by omega) hp'
 refine ⟨e,k',some l',⟨q1,by omega⟩,by omega,by omega,?_⟩
 rw [run_eq T.ui rfl]
 simp? (disch:=omega) only [eY,jm,ea,el,mV,q5,cM (cY e)]
end
end K12
end
section
open PySem L2 P3
set_option maxHeartbeats 1000000
namespace K12
theorem nQ {f:Nat->Option PyData}: ∀ ss:List Str,cE f (ss.map PV.str)=some (ss.map PyData.str)
 | []=>rfl
 | x::r=>by rw [List.map_cons,cE,nQ r];rfl
theorem sv {h:PH} {n k:Nat} {ss:List Str} (e:h[n]?=some (.lst (ss.map PV.str))):dat (k+1) h (.ref n)=some (.list (ss.map PyData.str)):=by
 unfold dat
 simp only [kM,e,nQ,Option.map_some]
theorem ne_nil {h:PH} {n m:Nat} {ss:List Str} (e1:h[n]?=some (.lst (ss.map PV.str))) (e2:h[m]?=some (.lst [])) (ok: ∀ x∈ss,PyData.strOk x=true):gS (.ref n) (.ref m) h= .ok (.bl (!decide (ss=[]))) h:=by
 have d1:=sv (k:=5) e1
 have d2:=sv (k:=5) (ss:=[]) (n:=m) e2
 have sc:ic (.ref n) (.ref m)=false:=rfl
 have dp: ∀ xs:List Str,PyData.canLay0 (.list (xs.map PyData.str))=xs.all PyData.strOk:=fun xs=>by
  rw [PyData.canLay0,PyProof.Rows.canLayAll_strs']
 have al:alike (.ref n) (.ref m) h=some (decide (ss=[])):=by
  unfold alike
  rw [sc,d1,d2]
  have c1:(PyData.list (ss.map PyData.str)).canLay0=true:=by rw [dp];exact List.all_eq_true.mpr ok
  have c2:(PyData.list (([]:List Str).map PyData.str)).canLay0=true:=by rw [dp];rfl
  have c3:min (PyData.list (ss.map PyData.str)).depth (PyData.list (([]:List Str).map PyData.str)).depth<=64:=Nat.le_trans (Nat.min_le_right _ _) (by decide)
  simp only [Bool.false_eq_true,if_false,c1,c2,c3,and_self,if_true]
  cases ss with
  | nil=>rfl
  | cons x r=>rfl
 have nd:gh h (.ref n)=false:=by simp only [gh,e1]
 unfold gS
 rw [al,nd]
 rfl
noncomputable def jo (s1 s2 s3 s4:List Str) (x:Str):Prop:=x= "let" ∨x= "leap" ∨x= "clock" ∨x= "lot" ∨(s1≠[]∧(x= "get" ∨x= "put"))∨(s2≠[]∧(x= "take" ∨x= "free"))∨(s3≠[]∧(x= "send" ∨x= "fetch"))∨(s4≠[]∧(x= "say" ∨x= "hear"))
theorem yF (c:CF) {H:PH} {nd cc q b:Nat} {nm:List (Key × PV)} {ks qs ss:List Str} {sort:Str} (e1:H[nd]?=some (.dct nm)) (e2:bo nm (.inr sort)=some (.ref b)) (e3:H[b]?=some (.lst (ss.map PV.str))) (e4:H[cc]?=some (.lst (ks.map PV.str))) (e5:H[q]?=some (.lst (qs.map PV.str)))
  (hs: ∀ x∈ss,PyData.strOk x=true) (hl:ks.length+qs.length+qs.length<=1000) (a0 a2 a3 u5 u6 n7 n8 n9 n10:Option PV) :
  ∃ g' c',(H++g')[c']?=some (.lst ((if ss=[] then ks else ks++qs++qs).map PV.str))∧iS (gT 2 (aR (gN 5) (aR (gN 6) dF))) (bu (ar (af gS (af aq (ab 1) (ab 5)) (aQ ae))) (ak (af aG (af aG (ab 4) (ab 6)) (ab 6)) (gN 4)) bD) c (.tup [.str sort,.ref q]) [a0,some (.ref nd),a2,a3,some (.ref cc),u5,u6,n7,n8,n9,n10] H =
   .ok (.nx [a0,some (.ref nd),a2,a3,some (.ref c'),some (.str sort),some (.ref q),n7,n8,n9,n10]) (H++g'):=by
 have l3:=bq e3
 have l4:=bq e4
 have l5:=bq e5
 have ne:=ne_nil (h:=H++[.lst []]) (n:=b) (m:=H.length) (ss:=ss) (by rw [aM l3];exact e3) bp hs
 by_cases z:ss=[]
 · refine ⟨[.lst []],cc,by rw [if_pos z,aM l4];exact e4,?_⟩
   simp? (disch:=omega) only [e1,e2,ne,z]
 · have ad1:=lH (h:=H++[.lst []]) (n:=cc) (m:=q) (by rw [aM l4];exact e4) (by rw [aM l5];exact e5) (by rw [List.length_map,List.length_map];omega)
   have ad2:aG (.ref (H.length+(0+1))) (.ref q) (H++[.lst [],.lst (ks.map PV.str++qs.map PV.str)])= .ok (.ref (H.length+(0+1+1))) (H++[.lst [],.lst (ks.map PV.str++qs.map PV.str),.lst (ks.map PV.str++qs.map PV.str++qs.map PV.str)]):=by
    have:=lH (h:=H++[.lst [],.lst (ks.map PV.str++qs.map PV.str)]) (n:=H.length+(0+1)) (m:=q) (xs:=ks.map PV.str++qs.map PV.str) (ys:=qs.map PV.str) (by rw [aH];rfl) (by rw [aM l5];exact e5) (by rw [List.length_append,List.length_map,List.length_map];omega)
    simpa using this
   refine ⟨[.lst [],.lst (ks.map PV.str++qs.map PV.str),.lst (ks.map PV.str++qs.map PV.str++qs.map PV.str)],H.length+(0+1+1),by rw [if_neg z,aH,List.map_append,List.map_append];rfl,?_⟩
   simp? (disch:=omega) only [e1,e2,ne,z,ad1,ad2]
end K12
end
section
open PySem L2 P3
set_option maxHeartbeats 1000000
namespace K12
structure Named (H:PH) (nd:Nat) (s1 s2 s3 s4 s5:List Str):Prop where
 at_: ∃ b1 b2 b3 b4 b5:Nat,H[nd]?=some (.dct [(.inr "box",.ref b1),(.inr "lock",.ref b2),(.inr "lane",.ref b3),(.inr "door",.ref b4),(.inr "hand",.ref b5)]) ∧
  H[b1]?=some (.lst (s1.map PV.str))∧H[b2]?=some (.lst (s2.map PV.str))∧H[b3]?=some (.lst (s3.map PV.str))∧H[b4]?=some (.lst (s4.map PV.str))∧H[b5]?=some (.lst (s5.map PV.str))
 ok:(∀ x∈s1,PyData.strOk x=true)∧(∀ x∈s2,PyData.strOk x=true)∧(∀ x∈s3,PyData.strOk x=true)∧(∀ x∈s4,PyData.strOk x=true)
 le:s1.length<=10∧s2.length<=10∧s3.length<=10∧s4.length<=10∧s5.length<=10
theorem iI {b1 b2 b3 b4 b5:Nat}:bo [((.inr "box" :Key),PV.ref b1),(.inr "lock",.ref b2),(.inr "lane",.ref b3),(.inr "door",.ref b4),(.inr "hand",.ref b5)] (.inr "box")=some (.ref b1) ∧
  bo [((.inr "box" :Key),PV.ref b1),(.inr "lock",.ref b2),(.inr "lane",.ref b3),(.inr "door",.ref b4),(.inr "hand",.ref b5)] (.inr "lock")=some (.ref b2) ∧
  bo [((.inr "box" :Key),PV.ref b1),(.inr "lock",.ref b2),(.inr "lane",.ref b3),(.inr "door",.ref b4),(.inr "hand",.ref b5)] (.inr "lane")=some (.ref b3) ∧
  bo [((.inr "box" :Key),PV.ref b1),(.inr "lock",.ref b2),(.inr "lane",.ref b3),(.inr "door",.ref b4),(.inr "hand",.ref b5)] (.inr "door")=some (.ref b4) ∧
  bo [((.inr "box" :Key),PV.ref b1),(.inr "lock",.ref b2),(.inr "lane",.ref b3),(.inr "door",.ref b4),(.inr "hand",.ref b5)] (.inr "hand")=some (.ref b5):=by
 refine ⟨?_,?_,?_,?_,?_⟩<;>simp [bo,aP]
theorem qV {p:Prop} [Decidable p] {ks qs:List Str} {n:Nat} (h:ks.length+qs.length+qs.length<=n):(if p then ks else ks++qs++qs).length<=n:=by
 split
 · omega
 · simp only [List.length_append];omega
theorem qy {p:Prop} [Decidable p] {ks qs:List Str} {x:Str} (h:x∈(if p then ks else ks++qs++qs)):x∈ks∨(¬ p∧x∈qs):=by
 split at h
 · exact .inl h
 · rename_i z
   rcases List.mem_append.1 h with h | h
   · rcases List.mem_append.1 h with h | h
     · exact .inl h
     · exact .inr ⟨z,h⟩
   · exact .inr ⟨z,h⟩
theorem zd (c : CF) {H : PH} {nd : Nat} {s1 s2 s3 s4 s5 : List Str} (hn : Named H nd s1 s2 s3 s4 s5) (a0 a2 a3 n7 n8 n9 n10 : Option PV) :
    ∃ (g' : PH) (c' : Nat) (ks : List Str) (u5 u6 : PV), (H ++ g')[c']? = some (.lst (ks.map PV.str)) /\ 0 < ks.length /\ ks.length <= 100 /\ (∀ x ∈ ks, jo s1 s2 s3 s4 x) /\ ∀ rest : MS,
    ag (ak (aQ (aa (eC (.str "let")) (aa (eC (.str "let")) (aa (eC (.str "leap")) (aa (eC (.str "clock")) (aa (eC (.str "lot")) ae)))))) (gN 4))
    (ag (gX (iE (aQ (aa (ay (aa (eC (.str "box")) (aa (aQ (aa (eC (.str "get")) (aa (eC (.str "put")) ae))) ae))) (aa (ay (aa (eC (.str "lock")) (aa (aQ (aa (eC (.str "take")) (aa (eC (.str "free")) ae))) ae))) (aa (ay (aa (eC (.str "lane")) (aa (aQ (aa (eC (.str "send")) (aa (eC (.str "fetch")) ae))) ae))) ae))))) (gT 2 (aR (gN 5) (aR (gN 6) dF))) (bu (ar (af gS (af aq (ab 1) (ab 5)) (aQ ae))) (ak (af aG (af aG (ab 4) (ab 6)) (ab 6)) (gN 4)) bD))
    (ag (bu (ar (af gS (af aq (ab 1) (eC (.str "door"))) (aQ ae))) (ak (af aG (ab 4) (aQ (aa (eC (.str "say")) (aa (eC (.str "hear")) (aa (eC (.str "say")) ae))))) (gN 4)) bD)
    rest)) c [a0, some (.ref nd), a2, a3, none, none, none, n7, n8, n9, n10] H = rest c [a0, some (.ref nd), a2, a3, some (.ref c'), some u5, some u6, n7, n8, n9, n10] (H ++ g') := by
  obtain ⟨b1, b2, b3, b4, b5, e0, e1, e2, e3, e4, e5⟩ := hn.at_
  obtain ⟨o1, o2, o3, o4⟩ := hn.ok
  obtain ⟨w1, w2, w3, w4, w5⟩ := iI (b1 := b1) (b2 := b2) (b3 := b3) (b4 := b4) (b5 := b5)
  let k0 : List Str := ["let", "let", "leap", "clock", "lot"]
  let G : PH := [.lst (k0.map PV.str), .lst [.str "get", .str "put"], .lst [.str "take", .str "free"], .lst [.str "send", .str "fetch"],
    .lst [.tup [.str "box", .ref (H.length + 1)], .tup [.str "lock", .ref (H.length + 2)], .tup [.str "lane", .ref (H.length + 3)]]]
  have old : ∀ {n : Nat} {o : PO} (g : PH), H[n]? = some o -> (H ++ g)[n]? = some o := fun g e => (aM (bq e)).trans e
  have oldG : ∀ {n : Nat} {o : PO} (g : PH), (H ++ G)[n]? = some o -> (H ++ (G ++ g))[n]? = some o := fun g e => by rw [<- List.append_assoc]; exact (aM (bq e)).trans e
  have G0 : (H ++ G)[H.length]? = some (.lst (k0.map PV.str)) := bp
  have G1 : (H ++ G)[H.length + 1]? = some (.lst ((["get", "put"] : List Str).map PV.str)) := aH
  have G2 : (H ++ G)[H.length + 2]? = some (.lst ((["take", "free"] : List Str).map PV.str)) := aH
  have G3 : (H ++ G)[H.length + 3]? = some (.lst ((["send", "fetch"] : List Str).map PV.str)) := aH
  have G4 : (H ++ G)[H.length + 4]? = some (.lst [.tup [.str "box", .ref (H.length + 1)], .tup [.str "lock", .ref (H.length + 2)], .tup [.str "lane", .ref (H.length + 3)]]) := aH
  have fin1 : ∀ g : PH, gR.eX ⟨some (H.length + 4), [.tup [.str "box", .ref (H.length + 1)], .tup [.str "lock", .ref (H.length + 2)], .tup [.str "lane", .ref (H.length + 3)]]⟩ (H ++ (G ++ g)) = true := fun g => by
    unfold gR.eX
    simp only [oldG g G4, true_or, decide_true]
  obtain ⟨g1, c1, f1, st1⟩ := yF c (H := H ++ G) (nd := nd) (cc := H.length) (q := H.length + 1) (ks := k0) (qs := ["get", "put"]) (sort := "box") (old G e0) w1 (old G e1) G0 G1 o1 (by decide) a0 a2 a3 none none n7 n8 n9 n10
  generalize hk1 : (if s1 = [] then k0 else k0 ++ (["get", "put"] : List Str) ++ (["get", "put"] : List Str)) = k1 at f1
  have l1 : k1.length <= 20 := by rw [<- hk1]; exact qV (by decide)
  obtain ⟨g2, c2, f2, st2⟩ := yF c (H := H ++ G ++ g1) (nd := nd) (cc := c1) (q := H.length + 2) (ks := k1) (qs := ["take", "free"]) (sort := "lock") (by rw [List.append_assoc]; exact old _ e0) w2 (by rw [List.append_assoc]; exact old _ e2) f1 (by rw [List.append_assoc]; exact oldG g1 G2) o2 (by show k1.length + 2 + 2 <= 1000; omega) a0 a2 a3 (some (.str "box")) (some (.ref (H.length + 1))) n7 n8 n9 n10
  generalize hk2 : (if s2 = [] then k1 else k1 ++ (["take", "free"] : List Str) ++ (["take", "free"] : List Str)) = k2 at f2
  have l2 : k2.length <= 30 := by rw [<- hk2]; exact qV (by show k1.length + 2 + 2 <= 30; omega)
  obtain ⟨g3, c3, f3, st3⟩ := yF c (H := H ++ G ++ g1 ++ g2) (nd := nd) (cc := c2) (q := H.length + 3) (ks := k2) (qs := ["send", "fetch"]) (sort := "lane") (by rw [List.append_assoc, List.append_assoc]; exact old _ e0) w3 (by rw [List.append_assoc, List.append_assoc]; exact old _ e3) f2 (by rw [List.append_assoc, List.append_assoc]; exact oldG _ G3) o3 (by show k2.length + 2 + 2 <= 1000; omega) a0 a2 a3 (some (.str "lock")) (some (.ref (H.length + 2))) n7 n8 n9 n10
  generalize hk3 : (if s3 = [] then k2 else k2 ++ (["send", "fetch"] : List Str) ++ (["send", "fetch"] : List Str)) = k3 at f3
  have l3 : k3.length <= 40 := by rw [<- hk3]; exact qV (by show k2.length + 2 + 2 <= 40; omega)
  have in0 : ∀ x ∈ k0, jo s1 s2 s3 s4 x := fun x m => by
    rcases List.mem_cons.mp m with e | m
    · exact .inl e
    rcases List.mem_cons.mp m with e | m
    · exact .inl e
    rcases List.mem_cons.mp m with e | m
    · exact .inr (.inl e)
    rcases List.mem_cons.mp m with e | m
    · exact .inr (.inr (.inl e))
    rcases List.mem_cons.mp m with e | m
    · exact .inr (.inr (.inr (.inl e)))
    · cases m
  have two : ∀ {x a b : Str}, x ∈ [a, b] -> x = a ∨ x = b := fun m => by simpa using m
  have in1 : ∀ x ∈ k1, jo s1 s2 s3 s4 x := fun x m => by
    rw [<- hk1] at m
    rcases qy m with m | ⟨z, m⟩
    · exact in0 x m
    · exact .inr (.inr (.inr (.inr (.inl ⟨z, two m⟩))))
  have in2 : ∀ x ∈ k2, jo s1 s2 s3 s4 x := fun x m => by
    rw [<- hk2] at m
    rcases qy m with m | ⟨z, m⟩
    · exact in1 x m
    · exact .inr (.inr (.inr (.inr (.inr (.inl ⟨z, two m⟩)))))
  have yP : ∀ x ∈ k3, jo s1 s2 s3 s4 x := fun x m => by
    rw [<- hk3] at m
    rcases qy m with m | ⟨z, m⟩
    · exact in2 x m
    · exact .inr (.inr (.inr (.inr (.inr (.inr (.inl ⟨z, two m⟩))))))
  have p1 : 0 < k1.length := by rw [<- hk1]; split <;> simp [k0]
  have p2 : 0 < k2.length := by
                                   rw [<- hk2]; split
                                   · exact p1
                                   · simp only [List.length_append, List.length_cons]; omega
  have p3 : 0 < k3.length := by
                                   rw [<- hk3]; split
                                   · exact p2
                                   · simp only [List.length_append, List.length_cons]; omega
  have lp : cF ⟨some (H.length + 4), [.tup [.str "box", .ref (H.length + 1)], .tup [.str "lock", .ref (H.length + 2)], .tup [.str "lane", .ref (H.length + 3)]]⟩ (iS (gT 2 (aR (gN 5) (aR (gN 6) dF))) (bu (ar (af gS (af aq (ab 1) (ab 5)) (aQ ae))) (ak (af aG (af aG (ab 4) (ab 6)) (ab 6)) (gN 4)) bD) c) [.tup [.str "box", .ref (H.length + 1)], .tup [.str "lock", .ref (H.length + 2)], .tup [.str "lane", .ref (H.length + 3)]]
      [a0, some (.ref nd), a2, a3, some (.ref H.length), none, none, n7, n8, n9, n10] (H ++ G) = .ok (.nx [a0, some (.ref nd), a2, a3, some (.ref c3), some (.str "lane"), some (.ref (H.length + 3)), n7, n8, n9, n10]) (H ++ (G ++ (g1 ++ (g2 ++ g3)))) := by
    have z0 := fin1 []
    rw [List.append_nil] at z0
    rw [jZ z0, st1, sQ, cP, List.append_assoc, jZ (fin1 g1)]
    rw [List.append_assoc] at st2 st3
    rw [st2, sQ, cP, List.append_assoc, List.append_assoc, jZ (fin1 (g1 ++ g2))]
    simp only [List.append_assoc] at st3
    rw [st3, sQ, cP]
    try simp only [List.append_assoc]
    rw [pP (fin1 (g1 ++ (g2 ++ g3)))]
  simp only [List.append_assoc] at f3
  have l4 := bq e4
  have ev0 : ∀ rest' : MS, ag (ak (aQ (aa (eC (.str "let")) (aa (eC (.str "let")) (aa (eC (.str "leap")) (aa (eC (.str "clock")) (aa (eC (.str "lot")) ae)))))) (gN 4))
    (ag (gX (iE (aQ (aa (ay (aa (eC (.str "box")) (aa (aQ (aa (eC (.str "get")) (aa (eC (.str "put")) ae))) ae))) (aa (ay (aa (eC (.str "lock")) (aa (aQ (aa (eC (.str "take")) (aa (eC (.str "free")) ae))) ae))) (aa (ay (aa (eC (.str "lane")) (aa (aQ (aa (eC (.str "send")) (aa (eC (.str "fetch")) ae))) ae))) ae))))) (gT 2 (aR (gN 5) (aR (gN 6) dF))) (bu (ar (af gS (af aq (ab 1) (ab 5)) (aQ ae))) (ak (af aG (af aG (ab 4) (ab 6)) (ab 6)) (gN 4)) bD))
    rest') c [a0, some (.ref nd), a2, a3, none, none, none, n7, n8, n9, n10] H = rest' c [a0, some (.ref nd), a2, a3, some (.ref c3), some (.str "lane"), some (.ref (H.length + 3)), n7, n8, n9, n10] (H ++ (G ++ (g1 ++ (g2 ++ g3)))) := fun rest' => by
    simp? (disch := omega) only [List.map_nil]
    exact (congrArg (fun r => RV.bind r (oI rest' c)) lp).trans rfl
  generalize hJ : H ++ (G ++ (g1 ++ (g2 ++ g3))) = J at f3 ev0
  have oJ : ∀ {n : Nat} {o : PO}, H[n]? = some o -> J[n]? = some o := fun e => by rw [<- hJ]; exact old _ e
  have ne := ne_nil (h := J ++ [.lst []]) (n := b4) (m := J.length) (ss := s4) (by rw [aM (bq (oJ e4))]; exact oJ e4) bp o4
  by_cases z : s4 = []
  · refine ⟨G ++ (g1 ++ (g2 ++ g3)) ++ [.lst []], c3, k3, .str "lane", .ref (H.length + 3), ?_, p3, by omega, yP, fun rest => ?_⟩
    · rw [<- List.append_assoc, hJ, aM (bq f3)]; exact f3
    · rw [ev0, <- List.append_assoc, hJ]
      simp? (disch := omega) only [oJ e0, w4, ne, z]
  · have ad : aG (.ref c3) (.ref (J.length + (0 + 1))) (J ++ [.lst [], .lst [.str "say", .str "hear", .str "say"]]) = .ok (.ref (J.length + (0 + 1 + 1))) (J ++ [.lst [], .lst [.str "say", .str "hear", .str "say"], .lst (k3.map PV.str ++ [.str "say", .str "hear", .str "say"])]) := by
      have := lH (h := J ++ [.lst [], .lst [.str "say", .str "hear", .str "say"]]) (n := c3) (m := J.length + (0 + 1)) (xs := k3.map PV.str) (ys := [.str "say", .str "hear", .str "say"]) (by rw [aM (bq f3)]; exact f3) (by rw [aH]; rfl) (by rw [List.length_map]; simp only [List.length_cons, List.length_nil]; omega)
      simpa using this
    refine ⟨G ++ (g1 ++ (g2 ++ g3)) ++ [.lst [], .lst [.str "say", .str "hear", .str "say"], .lst (k3.map PV.str ++ [.str "say", .str "hear", .str "say"])], J.length + (0 + 1 + 1), k3 ++ (["say", "hear", "say"] : List Str), .str "lane", .ref (H.length + 3), ?_, by simp, by simp; omega, fun x m => ?_, fun rest => ?_⟩
    · rw [<- List.append_assoc, hJ, aH, List.map_append]; rfl
    · rcases List.mem_append.mp m with m | m
      · exact yP x m
      · refine .inr (.inr (.inr (.inr (.inr (.inr (.inr ⟨z, ?_⟩))))))
        rcases List.mem_cons.mp m with e | m
        · exact .inl e
        rcases List.mem_cons.mp m with e | m
        · exact .inr e
        rcases List.mem_cons.mp m with e | m
        · exact .inl e
        · cases m
    · rw [ev0, <- List.append_assoc, hJ]
      simp? (disch := omega) only [oJ e0, w4, ne, z, ad]
end K12
end
section
open PySem L2 P3
set_option maxHeartbeats 1000000
namespace K12
noncomputable def eg (g:PH) (nd:Nat) (s1 s2 s3 s4 s5:List Str):Prop :=
 (∃ b1 b2 b3 b4 b5:Nat,g[nd]?=some (.dct [(.inr "box",.ref (b1+1+1)),(.inr "lock",.ref (b2+1+1)),(.inr "lane",.ref (b3+1+1)),(.inr "door",.ref (b4+1+1)),(.inr "hand",.ref (b5+1+1))]) ∧
  g[b1]?=some (.lst (s1.map PV.str))∧g[b2]?=some (.lst (s2.map PV.str))∧g[b3]?=some (.lst (s3.map PV.str))∧g[b4]?=some (.lst (s4.map PV.str))∧g[b5]?=some (.lst (s5.map PV.str))) ∧
 ((∀ x∈s1,PyData.strOk x=true)∧(∀ x∈s2,PyData.strOk x=true)∧(∀ x∈s3,PyData.strOk x=true)∧(∀ x∈s4,PyData.strOk x=true)) ∧
 (s1.length<=10∧s2.length<=10∧s3.length<=10∧s4.length<=10∧s5.length<=10)
theorem eg.app {g g':PH} {nd:Nat} {s1 s2 s3 s4 s5:List Str} (h:eg g nd s1 s2 s3 s4 s5):eg (g++g') nd s1 s2 s3 s4 s5:=by
 obtain ⟨⟨b1,b2,b3,b4,b5,e0,e1,e2,e3,e4,e5⟩,h2,h3⟩:=h
 exact ⟨⟨b1,b2,b3,b4,b5,(aM (bq e0)).trans e0,(aM (bq e1)).trans e1,(aM (bq e2)).trans e2,(aM (bq e3)).trans e3,(aM (bq e4)).trans e4,(aM (bq e5)).trans e5⟩,h2,h3⟩
theorem eg.up {g:PH} {nd:Nat} {s1 s2 s3 s4 s5:List Str} (h:eg g nd s1 s2 s3 s4 s5) (x y:PO):Named (x::y::g) (nd+1+1) s1 s2 s3 s4 s5:=by
 obtain ⟨⟨b1,b2,b3,b4,b5,e0,e1,e2,e3,e4,e5⟩,h2,h3⟩:=h
 exact ⟨⟨_,_,_,_,_,e0,e1,e2,e3,e4,e5⟩,h2,h3⟩
theorem Gb {ns:List Int} {k:Int} {o:Option Int} {J:PH} {c:Nat} {xs:List PV} (h:(bB ns::bh k o::J)[c]?=some (.lst xs)): ∃ c',c=c'+1+1∧J[c']?=some (.lst xs):=by
 match c,h with
 | 0,h=>exact nomatch h
 | 1,h=>exact nomatch h
 | c+2,h=>exact ⟨c,rfl,h⟩
noncomputable def dG:List (Key × PV):=[(.inr "get",.str "box"),(.inr "put",.str "box"),(.inr "take",.str "lock"),(.inr "free",.str "lock"),(.inr "send",.str "lane"),(.inr "fetch",.str "lane"),(.inr "say",.str "door"),(.inr "hear",.str "door")]
theorem wa:bo dG (.inr "get")=some (.str "box")∧bo dG (.inr "put")=some (.str "box")∧bo dG (.inr "take")=some (.str "lock")∧bo dG (.inr "free")=some (.str "lock") ∧
  bo dG (.inr "send")=some (.str "lane")∧bo dG (.inr "fetch")=some (.str "lane")∧bo dG (.inr "say")=some (.str "door")∧bo dG (.inr "hear")=some (.str "door"):=by
 refine ⟨?_,?_,?_,?_,?_,?_,?_,?_⟩<;>simp [dG,bo,aP]
theorem s9 {a b c:Str} {h:PH}:ju (.str a) (.tup [.str b,.str c]) h= .ok (.bl (decide (a=b∨a=c))) h:=by
 have:=we (h:=h) (a:=a) (ss:=[b,c])
 simpa using this
theorem sk {a b c d:Str} {h:PH}:ju (.str a) (.tup [.str b,.str c,.str d]) h= .ok (.bl (decide (a=b∨a=c∨a=d))) h:=by
 have:=we (h:=h) (a:=a) (ss:=[b,c,d])
 simpa using this
theorem GV {v w:Int} (h0:0<=v) (h1:v < 4) (w0:0<=w) (w1:w < 999): ∃ n:Int,2<=n∧n<=1000∧eJ [PV.int 2,.int 3,.int 1000,.int (2+w)] v=some (.int n):=by
 have:v=0∨v=1∨v=2∨v=3:=by omega
 rcases this with rfl | rfl | rfl | rfl
 · exact ⟨2,by decide,by decide,rfl⟩
 · exact ⟨3,by decide,by decide,rfl⟩
 · exact ⟨1000,by decide,by decide,rfl⟩
 · exact ⟨2+w,by omega,by omega,rfl⟩
section
variable {pg:Tb} (T:dc pg)
include T
theorem yv (j:Nat) {ns:List Int} (hn:ns.length<=63) {np nd sd:Nat} {ps L:List Str} (p0:0 < ps.length) (p9:ps.length<=1000) (hL: ∀ x∈ps,x∈L) {s1 s2 s3 s4 s5:List Str} {J:PH} (hN:eg J nd s1 s2 s3 s4 s5) (hp:J[np]?=some (.lst (ps.map PV.str))) (hs:J[sd]?=some (.dct dG))
  (k many:Int) (o:Option Int) (k0:0<=k) (k9:k+82<=1000000) (m0:0<=many) (m9:many<=1000) {x y:Str} (hx:jo s1 s2 s3 s4 x) (hy:y∈ps) (u4 u5 u6:Option PV) :
  ∃ (r:Rw) (k':Int) (o':Option Int) (g':PH),cV L many.toNat r∧k<=k'∧k'<=k+82 ∧
  ag (bu (ar (af cu (ab 7) (eC (.str "let")))) (aB (ay (aa (eC (.str "let")) (aa (ab 8) (aa (ah "_law_sum" (aa (ab 0) (aa (ab 2) ae))) ae))))) bD)
  (ag (bu (ar (af cu (ab 7) (eC (.str "leap")))) (aB (ay (aa (eC (.str "leap")) (aa (ah "_law_pick" (aa (ab 0) (aa (af aG (ab 3) (eC (.int 1))) ae))) (aa (ah "_law_sum" (aa (ab 0) (aa (ab 2) ae))) ae))))) bD)
  (ag (bu (ar (af cu (ab 7) (eC (.str "clock")))) (aB (ay (aa (eC (.str "clock")) (aa (ab 8) ae)))) bD)
  (ag (bu (ar (af cu (ab 7) (eC (.str "lot")))) (aB (ay (aa (eC (.str "lot")) (aa (ab 8) (aa (af aq (aQ (aa (eC (.int 2)) (aa (eC (.int 3)) (aa (eC (.int 1000)) (aa (af aG (eC (.int 2)) (ah "_law_pick" (aa (ab 0) (aa (eC (.int 999)) ae)))) ae))))) (ah "_law_pick" (aa (ab 0) (aa (eC (.int 4)) ae)))) ae))))) bD)
  (ag (ak (af aq (ab 1) (af aq (ab 9) (ab 7))) (gN 6))
  (ag (ak (af aq (ab 6) (ah "_law_pick" (aa (ab 0) (aa (eB bE (aa (ab 6) ae)) ae)))) (gN 10))
  (ag (bu (ar (af ju (ab 7) (ay (aa (eC (.str "take")) (aa (eC (.str "free")) ae))))) (aB (ay (aa (ab 7) (aa (ab 10) ae)))) bD)
  (ag (bu (ar (af ju (ab 7) (ay (aa (eC (.str "get")) (aa (eC (.str "fetch")) (aa (eC (.str "hear")) ae)))))) (aB (ay (aa (ab 7) (aa (ab 8) (aa (ab 10) ae))))) bD)
  (aB (ay (aa (ab 7) (aa (ab 10) (aa (ah "_law_sum" (aa (ab 0) (aa (ab 2) ae))) ae))))))))))))
  (run pg (j+8)) [some (.ref 1),some (.ref (nd+1+1)),some (.ref (np+1+1)),some (.int many),u4,u5,u6,some (.str x),some (.str y),some (.ref (sd+1+1)),none] (bB ns::bh k o::J)= .ok (.rt (bV r)) (bB ns::bh k' o'::(J++g')):=by
 obtain ⟨⟨b1,b2,b3,b4,b5,e0,e1,e2,e3,e4,e5⟩,_,⟨l1,l2,l3,l4,l5⟩⟩:=hN
 obtain ⟨w1,w2,w3,w4,w5⟩:=iI (b1:=b1+1+1) (b2:=b2+1+1) (b3:=b3+1+1) (b4:=b4+1+1) (b5:=b5+1+1)
 obtain ⟨v1,v2,v3,v4,v5,v6,v7,v8⟩:=wa
 have yL:=hL y hy
 have len0: ∀ {s:List Str},s≠[]->0 < s.length:=fun h=>List.length_pos_iff.mpr h
 rcases hx with rfl | rfl | rfl | rfl | ⟨z,hx⟩ | ⟨z,hx⟩ | ⟨z,hx⟩ | ⟨z,hx⟩
 · obtain ⟨e,k',o',q1,q2,q3,q4⟩:=l6 T j hn p0 p9 k o J k0 (by omega) hp
   refine ⟨.let_ y e,k',o',[],⟨yL,q1⟩,q2,by omega,?_⟩
   simp? (disch:=omega) only [q4,bV,Rw.w,Rw.ps,List.append_nil]
 · obtain ⟨a,a0,a1,ea⟩:=ba T (j+6) J hn o (k:=k) (many+1) k0 (by omega) (by omega) (by omega)
   obtain ⟨e,k',o',q1,q2,q3,q4⟩:=l6 T j hn p0 p9 (k+1) o J (by omega) (by omega) hp
   refine ⟨.leap a e,k',o',[],⟨a0,by omega,q1⟩,by omega,by omega,?_⟩
   simp? (disch:=omega) only [ea,q4,bV,Rw.w,Rw.ps,List.append_nil]
 · refine ⟨.clock y,k,o,[],yL,by omega,by omega,?_⟩
   simp? (disch:=omega) only [bV,Rw.w,Rw.ps,List.append_nil]
 · obtain ⟨a,a0,a1,ea⟩:=ba T (j+6) J hn o (k:=k) 999 k0 (by omega) (by decide) (by decide)
   obtain ⟨b,b0,b1,eb⟩:=ba T (j+6) (J++[.lst [.int 2,.int 3,.int 1000,.int (2+a)]]) hn o (k:=k+1) 4 (by omega) (by omega) (by decide) (by decide)
   obtain ⟨n,n0,n1,en⟩:=GV b0 b1 a0 a1
   refine ⟨.lot y n,k+1+1,o,[.lst [.int 2,.int 3,.int 1000,.int (2+a)]],⟨yL,n0,n1⟩,by omega,by omega,?_⟩
   simp? (disch:=omega) only [ea,eb,en,bV,Rw.w,Rw.ps]
 · have zl:=len0 z
   obtain ⟨a,a0,a1,ea⟩:=ba T (j+6) J hn o (k:=k) s1.length k0 (by omega) (by omega) (by omega)
   obtain ⟨t,ht,et⟩:=jh a0 a1
   rcases hx with rfl | rfl
   · refine ⟨.get y t,k+1,o,[],yL,by omega,by omega,?_⟩
     simp? (disch:=omega) only [e0,hs,v1,w1,e1,List.length_map,ea,et,s9,sk,bV,Rw.w,Rw.ps,List.append_nil,true_or,or_true,or_false,false_or]
   · obtain ⟨e,k',o',q1,q2,q3,q4⟩:=l6 T j hn p0 p9 (k+1) o J (by omega) (by omega) hp
     refine ⟨.put t e,k',o',[],q1,by omega,by omega,?_⟩
     simp? (disch:=omega) only [e0,hs,v2,w1,e1,List.length_map,ea,et,s9,sk,q4,bV,Rw.w,Rw.ps,List.append_nil,true_or,or_true,or_false,false_or]
 · have zl:=len0 z
   obtain ⟨a,a0,a1,ea⟩:=ba T (j+6) J hn o (k:=k) s2.length k0 (by omega) (by omega) (by omega)
   obtain ⟨t,ht,et⟩:=jh a0 a1
   rcases hx with rfl | rfl
   · refine ⟨.take t,k+1,o,[],trivial,by omega,by omega,?_⟩
     simp? (disch:=omega) only [e0,hs,v3,w2,e2,List.length_map,ea,et,s9,sk,bV,Rw.w,Rw.ps,List.append_nil,true_or,or_true,or_false,false_or]
   · refine ⟨.free t,k+1,o,[],trivial,by omega,by omega,?_⟩
     simp? (disch:=omega) only [e0,hs,v4,w2,e2,List.length_map,ea,et,s9,sk,bV,Rw.w,Rw.ps,List.append_nil,true_or,or_true,or_false,false_or]
 · have zl:=len0 z
   obtain ⟨a,a0,a1,ea⟩:=ba T (j+6) J hn o (k:=k) s3.length k0 (by omega) (by omega) (by omega)
   obtain ⟨t,ht,et⟩:=jh a0 a1
   rcases hx with rfl | rfl
   · obtain ⟨e,k',o',q1,q2,q3,q4⟩:=l6 T j hn p0 p9 (k+1) o J (by omega) (by omega) hp
     refine ⟨.send t e,k',o',[],q1,by omega,by omega,?_⟩
     simp? (disch:=omega) only [e0,hs,v5,w3,e3,List.length_map,ea,et,s9,sk,q4,bV,Rw.w,Rw.ps,List.append_nil,true_or,or_true,or_false,false_or]
   · refine ⟨.fetch y t,k+1,o,[],yL,by omega,by omega,?_⟩
     simp? (disch:=omega) only [e0,hs,v6,w3,e3,List.length_map,ea,et,s9,sk,bV,Rw.w,Rw.ps,List.append_nil,true_or,or_true,or_false,false_or]
 · have zl:=len0 z
   obtain ⟨a,a0,a1,ea⟩:=ba T (j+6) J hn o (k:=k) s4.length k0 (by omega) (by omega) (by omega)
   obtain ⟨t,ht,et⟩:=jh a0 a1
   rcases hx with rfl | rfl
   · obtain ⟨e,k',o',q1,q2,q3,q4⟩:=l6 T j hn p0 p9 (k+1) o J (by omega) (by omega) hp
     refine ⟨.say t e,k',o',[],q1,by omega,by omega,?_⟩
     simp? (disch:=omega) only [e0,hs,v7,w4,e4,List.length_map,ea,et,s9,sk,q4,bV,Rw.w,Rw.ps,List.append_nil,true_or,or_true,or_false,false_or]
   · refine ⟨.hear y t,k+1,o,[],yL,by omega,by omega,?_⟩
     simp? (disch:=omega) only [e0,hs,v8,w4,e4,List.length_map,ea,et,s9,sk,bV,Rw.w,Rw.ps,List.append_nil,true_or,or_true,or_false,false_or]
end
end K12
end
section
open PySem L2 P3
set_option maxHeartbeats 1000000
namespace K12
noncomputable def cv:List (Key × PV):=[(.inr "get",.str "box"),(.inr "put",.str "box"),(.inr "take",.str "lock"),(.inr "free",.str "lock"),(.inr "send",.str "lane"),(.inr "fetch",.str "lane")]
theorem t8:bJ [] cv=cv∧bJ [] [((.inr "say" :Key),PV.str "door"),(.inr "hear",.str "door")]=[(.inr "say",.str "door"),(.inr "hear",.str "door")]∧bJ cv [((.inr "say" :Key),PV.str "door"),(.inr "hear",.str "door")]=dG:=by
 refine ⟨?_,?_,?_⟩<;>simp [cv,dG,bJ,er,aP]
section
variable {pg:Tb} (T:dc pg)
include T
theorem Fp (j:Nat) {ns:List Int} (hn:ns.length<=63) {np nd:Nat} {ps L:List Str} (p0:0 < ps.length) (p9:ps.length<=1000) (hL: ∀ x∈ps,x∈L) {s1 s2 s3 s4 s5:List Str} {g:PH} (hN:eg g nd s1 s2 s3 s4 s5) (hp:g[np]?=some (.lst (ps.map PV.str)))
  (k many:Int) (o:Option Int) (k0:0<=k) (k9:k+84<=1000000) (m0:0<=many) (m9:many<=1000) :
  ∃ (r:Rw) (k':Int) (o':Option Int),cV L many.toNat r∧k<=k'∧k'<=k+84∧run pg (j+9) "_law_row" [.ref 1,.ref (nd+1+1),.ref (np+1+1),.int many] (bB ns::bh k o::g)= .ok (bV r) (bB ns::bh k' o'::g):=by
 have kk:=zd (run pg (j+8)) (hN.up (bB ns) (bh k o)) (some (.ref 1)) (some (.ref (np+1+1))) (some (.int many)) none none none none
 obtain ⟨m1,m2,m3⟩:=t8
 have pre: ∃ (g':PH) (c':Nat) (ks:List Str) (u5 u6:PV),(g++g')[c']?=some (.lst (ks.map PV.str))∧0 < ks.length∧ks.length<=100∧(∀ x∈ks,jo s1 s2 s3 s4 x)∧ ∀ rest, 
  ag (ak (aQ (aa (eC (.str "let")) (aa (eC (.str "let")) (aa (eC (.str "leap")) (aa (eC (.str "clock")) (aa (eC (.str "lot")) ae)))))) (gN 4))
  (ag (gX (iE (aQ (aa (ay (aa (eC (.str "box")) (aa (aQ (aa (eC (.str "get")) (aa (eC (.str "put")) ae))) ae))) (aa (ay (aa (eC (.str "lock")) (aa (aQ (aa (eC (.str "take")) (aa (eC (.str "free")) ae))) ae))) (aa (ay (aa (eC (.str "lane")) (aa (aQ (aa (eC (.str "send")) (aa (eC (.str "fetch")) ae))) ae))) ae))))) (gT 2 (aR (gN 5) (aR (gN 6) dF))) (bu (ar (af gS (af aq (ab 1) (ab 5)) (aQ ae))) (ak (af aG (af aG (ab 4) (ab 6)) (ab 6)) (gN 4)) bD))
  (ag (bu (ar (af gS (af aq (ab 1) (eC (.str "door"))) (aQ ae))) (ak (af aG (ab 4) (aQ (aa (eC (.str "say")) (aa (eC (.str "hear")) (aa (eC (.str "say")) ae))))) (gN 4)) bD)
  rest)) (run pg (j+8)) [some (.ref 1),some (.ref (nd+1+1)),some (.ref (np+1+1)),some (.int many),none,none,none,none,none,none,none] (bB ns::bh k o::g) =
  rest (run pg (j+8)) [some (.ref 1),some (.ref (nd+1+1)),some (.ref (np+1+1)),some (.int many),some (.ref (c'+1+1)),some u5,some u6,none,none,none,none] (bB ns::bh k o::(g++g')):=by
  obtain ⟨g',c,ks,u5,u6,h1,h2,h3,h4,h5⟩:=kk
  obtain ⟨c',rfl,h1'⟩:=Gb (J:=g++g') h1
  exact ⟨g',c',ks,u5,u6,h1',h2,h3,h4,h5⟩
 obtain ⟨g',c',ks,u5,u6,hc,kp,kl,hk,ev⟩:=pre
 obtain ⟨v,v0,v1,ev1⟩:=ba T (j+6) (g++g') hn o (k:=k) ks.length k0 (by omega) (by omega) (by omega)
 obtain ⟨x,xm,ex⟩:=jh v0 v1
 obtain ⟨w,w0,w1,ew1⟩:=ba T (j+6) (g++g') hn o (k:=k+1) ps.length (by omega) (by omega) (by omega) (by omega)
 obtain ⟨y,ym,ey⟩:=jh w0 w1
 have hp':(g++g')[np]?=some (.lst (ps.map PV.str)):=(aM (bq hp)).trans hp
 have dk1:Fm ((g++g').length+1+1) cv (bB ns::bh (k+1+1) o::(g++g'++[.dct []]))= .ok (.ref ((g++g').length+1+1)) (bB ns::bh (k+1+1) o::(g++g'++[.dct cv])):=by
  have:=pT (h:=bB ns::bh (k+1+1) o::(g++g')) (kvs:=cv) (by decide)
  rw [m1] at this;exact this
 have dk2:Fm ((g++g'++[PO.dct cv]).length+1+1) [((.inr "say" :Key),PV.str "door"),(.inr "hear",.str "door")] (bB ns::bh (k+1+1) o::(g++g'++[PO.dct cv]++[.dct []]))= .ok (.ref ((g++g'++[PO.dct cv]).length+1+1)) (bB ns::bh (k+1+1) o::(g++g'++[PO.dct cv]++[.dct [(.inr "say",.str "door"),(.inr "hear",.str "door")]])):=by
  have:=pT (h:=bB ns::bh (k+1+1) o::(g++g'++[PO.dct cv])) (kvs:=[((.inr "say" :Key),PV.str "door"),(.inr "hear",.str "door")]) (by decide)
  rw [m2] at this;exact this
 generalize hJ:g++g'=J at *
 obtain ⟨r,k',o',g2,t1,t2,t3,t4⟩:=yv T j hn p0 p9 hL (J:=J++([.dct dG,.dct [(.inr "say",.str "door"),(.inr "hear",.str "door")]]:PH)) (sd:=J.length) (by rw [<- hJ];exact hN.app.app) (by rw [aM (bq hp')];exact hp') bp (k+1+1) many o (by omega) (by omega) m0 m9 (hk x xm) ym (some (.ref (c'+1+1))) (some u5) (some u6)
 refine ⟨r,k',o',t1,by omega,by omega,?_⟩
 rw [run_eq T.uG rfl]
 unfold eT i8
 refine (congrArg (fin _) (ev _)).trans ?_
 have md: ∀ rr c e,Lh fM jb rr c e (.ref (J.length+1+1)) (bB ns::bh (k+1+1) o::(J++[.dct cv]))=(rr c e (bB ns::bh (k+1+1) o::(J++[.dct cv]))).bind (fM (.ref (J.length+1+1))):=fun rr c e=>J0 (L5 (kvs:=cv) bp)
 have up:fM (.ref (J.length+1+1)) [.ref (J.length+(0+1)+1+1)] (bB ns::bh (k+1+1) o::(J++[.dct cv,.dct [(.inr "say",.str "door"),(.inr "hear",.str "door")]]))= .ok .non (bB ns::bh (k+1+1) o::(J++[.dct dG,.dct [(.inr "say",.str "door"),(.inr "hear",.str "door")]])):=by
  have:=Na (h:=bB ns::bh (k+1+1) o::(J++[.dct cv,.dct [(.inr "say",.str "door"),(.inr "hear",.str "door")]])) (n:=J.length+1+1) (m:=J.length+(0+1)+1+1) (kvs:=cv) (more:=[(.inr "say",.str "door"),(.inr "hear",.str "door")]) bp aH (by omega) (by decide)
  rw [m3] at this
  rw [this]
  simp only [List.set_cons_succ,eN,List.set_cons_zero]
 rw [List.length_append] at dk2
 simp only [List.append_assoc,List.cons_append,List.nil_append,List.length_cons,List.length_nil] at dk2
 unfold cv at dk1 md up dk2
 simp? (disch:=omega) only [hc,ev1,ex,hp',ew1,ey,List.length_map,lJ,qm,lX,qL,qK,pU,dk1,dk2,md,up,↓t4,cM (ny r)]
 rw [<- hJ,List.append_assoc]
 exact cM (ny r)
end
end K12
end
section
open PySem L2 P3
set_option maxHeartbeats 1000000
namespace K12
noncomputable def oM:List Str:=["a", "ab", "abc", "lets", "leaper", "getit", "puts", "taken", "freed", "sender", "fetched", "says", "clocks", "lots", "hearth", "added", "subway", "mulled", "lesser", "samey", "nothing", "boxes", "locker", "lanes", "doors", "hands", "b", "zzzzzzzz", "of", "num"]
noncomputable def nA:List PV:=[.str "a",.str "ab",.str "abc",.str "lets",.str "leaper",.str "getit",.str "puts",.str "taken",.str "freed",.str "sender",.str "fetched",.str "says"]
noncomputable def nB:List PV:=[.str "clocks",.str "lots",.str "hearth",.str "added",.str "subway",.str "mulled",.str "lesser",.str "samey",.str "nothing"]
noncomputable def nC:List PV:=[.str "boxes",.str "locker",.str "lanes",.str "doors",.str "hands",.str "b",.str "zzzzzzzz",.str "of",.str "num"]
noncomputable def nD:List PV:=[.str "a",.str "ab",.str "abc",.str "lets",.str "leaper",.str "getit",.str "puts",.str "taken",.str "freed",.str "sender",.str "fetched",.str "says",.str "clocks",.str "lots",.str "hearth",.str "added",.str "subway",.str "mulled",.str "lesser",.str "samey",.str "nothing"]
noncomputable def nE:List PV:=[.str "a",.str "ab",.str "abc",.str "lets",.str "leaper",.str "getit",.str "puts",.str "taken",.str "freed",.str "sender",.str "fetched",.str "says",.str "clocks",.str "lots",.str "hearth",.str "added",.str "subway",.str "mulled",.str "lesser",.str "samey",.str "nothing",.str "boxes",.str "locker",.str "lanes",.str "doors",.str "hands",.str "b",.str "zzzzzzzz",.str "of",.str "num"]
theorem zU: ∀ x∈oM,PyData.strOk x=true:=by decide +kernel
theorem Ji:oM.Nodup:=by decide +kernel
theorem t7 {x y:PO} {J:PH} {a b:Nat} {xs ys:List PV} (e1:J[a]?=some (.lst xs)) (e2:J[b]?=some (.lst ys)) (hl:xs.length+ys.length<=10000):aG (.ref (a+1+1)) (.ref (b+1+1)) (x::y::J)= .ok (.ref (J.length+1+1)) (x::y::(J++[.lst (xs++ys)])) :=
 lH (h:=x::y::J) (n:=a+1+1) (m:=b+1+1) e1 e2 (by omega)
section
variable {pg:Tb} (T:dc pg)
include T
theorem Aw (j:Nat) {ns:List Int} (hn:ns.length<=63) (k:Int) (o:Option Int) (g:PH) (k0:0<=k) (k9:k < 1000000) :
  ∃ (g':PH) (n:Nat) (nm:List Str),(g++g')[n]?=some (.lst (nm.map PV.str))∧nm.length=30∧(∀ x∈nm,PyData.strOk x=true)∧nm.Nodup∧run pg (j+3) "_law_names" [.ref 1] (bB ns::bh k o::g)= .ok (.ref (n+1+1)) (bB ns::bh (k+1) o::(g++g')):=by
 have ad1: ∀ x y,aG (.ref (g.length+1+1)) (.ref (g.length+(0+1)+1+1)) (x::y::(g++[.lst nA,.lst nB]))= .ok (.ref (g.length+(0+1+1)+1+1)) (x::y::(g++[.lst nA,.lst nB,.lst nD])):=fun x y=>by
  exact (t7 (x:=x) (y:=y) (J:=g++[.lst nA,.lst nB]) (a:=g.length) (b:=g.length+(0+1)) bp aH (by decide)).trans (by simp only [List.append_assoc,List.length_append,List.cons_append,List.nil_append,List.length_cons,List.length_nil];rfl)
 have ad2: ∀ x y,aG (.ref (g.length+(0+1+1)+1+1)) (.ref (g.length+(0+1+1+1)+1+1)) (x::y::(g++[.lst nA,.lst nB,.lst nD,.lst nC]))= .ok (.ref (g.length+(0+1+1+1+1)+1+1)) (x::y::(g++[.lst nA,.lst nB,.lst nD,.lst nC,.lst nE])):=fun x y=>by
  exact (t7 (x:=x) (y:=y) (J:=g++[.lst nA,.lst nB,.lst nD,.lst nC]) (a:=g.length+(0+1+1)) (b:=g.length+(0+1+1+1)) aH aH (by decide)).trans (by simp only [List.append_assoc,List.length_append,List.cons_append,List.nil_append,List.length_cons,List.length_nil];rfl)
 obtain ⟨v,v0,v1,ev⟩:=ba T (j) (g++[.lst nA,.lst nB,.lst nD,.lst nC,.lst nE]) hn o (k:=k) 30 k0 k9 (by decide) (by decide)
 have hA:[.str "a",.str "ab",.str "abc",.str "lets",.str "leaper",.str "getit",.str "puts",.str "taken",.str "freed",.str "sender",.str "fetched",.str "says"]=nA:=rfl
 have hB:[.str "clocks",.str "lots",.str "hearth",.str "added",.str "subway",.str "mulled",.str "lesser",.str "samey",.str "nothing"]=nB:=rfl
 have hC:[.str "boxes",.str "locker",.str "lanes",.str "doors",.str "hands",.str "b",.str "zzzzzzzz",.str "of",.str "num"]=nC:=rfl
 have lA:nA.length=12:=rfl
 have lB:nB.length=9:=rfl
 have lC:nC.length=9:=rfl
 have lD:nD.length=21:=rfl
 have c30:((nE.length:Nat):Int)=30:=rfl
 have c1:dy nE (some v) none=(oM.drop v.toNat).map PV.str:=by rw [P3.eS v0,List.map_drop];rfl
 have c2:dy nE none (some v)=(oM.take v.toNat).map PV.str:=by rw [P3.jl v0,List.map_take];rfl
 have ad3: ∀ x y,aG (.ref (g.length+(0+1+1+1+1+1)+1+1)) (.ref (g.length+(0+1+1+1+1+1+1)+1+1)) (x::y::(g++[.lst nA,.lst nB,.lst nD,.lst nC,.lst nE,.lst ((oM.drop v.toNat).map PV.str),.lst ((oM.take v.toNat).map PV.str)]))= .ok (.ref (g.length+(0+1+1+1+1+1+1+1)+1+1)) (x::y::(g++[.lst nA,.lst nB,.lst nD,.lst nC,.lst nE,.lst ((oM.drop v.toNat).map PV.str),.lst ((oM.take v.toNat).map PV.str),.lst ((oM.drop v.toNat++oM.take v.toNat).map PV.str)])):=fun x y=>by
  have:=t7 (x:=x) (y:=y) (J:=g++[.lst nA,.lst nB,.lst nD,.lst nC,.lst nE,.lst ((oM.drop v.toNat).map PV.str),.lst ((oM.take v.toNat).map PV.str)]) (a:=g.length+(0+1+1+1+1+1)) (b:=g.length+(0+1+1+1+1+1+1)) aH aH (by rw [List.length_map,List.length_map,List.length_drop,List.length_take];have:oM.length=30:=rfl;omega)
  rw [<- List.map_append] at this
  rw [this]
  simp only [List.append_assoc,List.length_append,List.cons_append,List.nil_append,List.length_cons,List.length_nil]
 refine ⟨[.lst nA,.lst nB,.lst nD,.lst nC,.lst nE,.lst ((oM.drop v.toNat).map PV.str),.lst ((oM.take v.toNat).map PV.str),.lst ((oM.drop v.toNat++oM.take v.toNat).map PV.str)],g.length+(0+1+1+1+1+1+1+1),oM.drop v.toNat++oM.take v.toNat,aH,?_,fun x m=>?_,?_,?_⟩
 · rw [List.length_append,List.length_drop,List.length_take];have:oM.length=30:=rfl;omega
 · rcases List.mem_append.mp m with m | m
   · exact zU x (List.mem_of_mem_drop m)
   · exact zU x (List.mem_of_mem_take m)
 · exact (List.perm_append_comm.trans (by rw [List.take_append_drop])).nodup_iff.mpr Ji
 · rw [run_eq T.qY rfl]
   simp? (disch:=omega) only [dC,gu,hA,hB,hC,ad1,ad2,c30,ev,c1,c2,ad3]
   exact uQ (v:= .ref _) rfl
end
end K12
end
section
open PySem L2 P3
set_option maxHeartbeats 1000000
namespace K12
noncomputable def Mg (h:PH) (a b:Option PO):RV PV:=match a,b with
 | some (.lst xs),some (.lst ys)=>BH (xs++ys) h
 | _,_=> .no
theorem Lq {n m:Nat} {h:PH}:aG (.ref n) (.ref m) h=Mg h (h[n]?) (h[m]?):=by
 unfold aG Mg
 first | rfl | (simp only;done) | (cases h[n]?<;>cases h[m]?<;>rfl)
theorem Fy {h:PH} {xs ys:List PV} (hl:xs.length+ys.length<=10000):Mg h (some (.lst xs)) (some (.lst ys))= .ok (.ref h.length) (h++[.lst (xs++ys)]):=by
 unfold Mg BH
 exact my (by rw [List.length_append];omega)
theorem iK {n:Nat} {xs:List PV} {h:PH} (e:h[n]?=some (.lst xs)):gR.eX ⟨some n,xs⟩ h=true:=by
 unfold gR.eX
 simp only [e,true_or,decide_true]
theorem lV {nm:List Str} {v:Int} (h0:0<=v):dy (nm.map PV.str) none (some v)=(nm.take v.toNat).map PV.str:=by rw [P3.jl h0,List.map_take]
theorem wX {nm:List Str} {v:Int} (h0:0<=v):dy (nm.map PV.str) (some v) none=(nm.drop v.toNat).map PV.str:=by rw [P3.eS h0,List.map_drop]
theorem wc {a b c d e:PV}:er [] (.inr "box") a=[(.inr "box",a)]∧er [(.inr "box",a)] (.inr "lock") b=[(.inr "box",a),(.inr "lock",b)]∧er [(.inr "box",a),(.inr "lock",b)] (.inr "lane") c=[(.inr "box",a),(.inr "lock",b),(.inr "lane",c)] ∧
  er [(.inr "box",a),(.inr "lock",b),(.inr "lane",c)] (.inr "door") d=[(.inr "box",a),(.inr "lock",b),(.inr "lane",c),(.inr "door",d)]∧er [(.inr "box",a),(.inr "lock",b),(.inr "lane",c),(.inr "door",d)] (.inr "hand") e=[(.inr "box",a),(.inr "lock",b),(.inr "lane",c),(.inr "door",d),(.inr "hand",e)]:=by
 refine ⟨?_,?_,?_,?_,?_⟩<;>simp [er,aP]
section
variable {pg:Tb} (T:dc pg)
include T
theorem yO (j : Nat) {ns : List Int} (hn : ns.length <= 63) (k : Int) (o : Option Int) (g : PH) {n : Nat} {nm : List Str} (hg : g[n]? = some (.lst (nm.map PV.str))) (k0 : 0 <= k) (k9 : k + 5 < 1000000) (nl : nm.length = 30) :
    ∃ m1 m2 m3 m4 m5 : Int, (0 <= m1 /\ m1 < 5) /\ (0 <= m2 /\ m2 < 5) /\ (0 <= m3 /\ m3 < 5) /\ (0 <= m4 /\ m4 < 5) /\ (0 <= m5 /\ m5 < 5) /\ ∀ rest : MS,
    ag (ak m6 (gN 2))
    (ag (gX (iE (aQ (aa (eC (.str "box")) (aa (eC (.str "lock")) (aa (eC (.str "lane")) (aa (eC (.str "door")) (aa (eC (.str "hand")) ae))))))) (gN 3) (ag (ak (ah "_law_pick" (aa (ab 0) (aa (eC (.int 5)) ae))) (gN 4))
    (ag (bu (ar (af cu (ab 3) (eC (.str "hand")))) (ak (af aG (eC (.int 1)) (af fw (ab 4) (eC (.int 4)))) (gN 4)) bD)
    (ag (jP iP (ab 2) (ab 3) (kO (ab 1) bY (bX (ab 4))))
    (ak (kO (ab 1) (bX (ab 4)) bY) (gN 1))))))
    rest) (run pg (j + 2)) [some (.ref 1), some (.ref (n + 1 + 1)), none, none, none, none, none, none, none] (bB ns :: bh k o :: g) =
    rest (run pg (j + 2)) [some (.ref 1), some (.ref (g.length + 11 + 1 + 1)), some (.ref (g.length + 1 + 1)), some (.str "hand"), some (.int (1 + m5 % 4)), none, none, none, none] (bB ns :: bh (k + 5) o :: (g ++
      [.dct [(.inr "box", .ref (g.length + 2 + 1 + 1)), (.inr "lock", .ref (g.length + 4 + 1 + 1)), (.inr "lane", .ref (g.length + 6 + 1 + 1)), (.inr "door", .ref (g.length + 8 + 1 + 1)), (.inr "hand", .ref (g.length + 10 + 1 + 1))],
       .lst [.str "box", .str "lock", .str "lane", .str "door", .str "hand"],
       .lst ((nm.take m1.toNat).map PV.str), .lst ((nm.drop m1.toNat).map PV.str),
       .lst (((nm.drop m1.toNat).take m2.toNat).map PV.str), .lst (((nm.drop m1.toNat).drop m2.toNat).map PV.str),
       .lst ((((nm.drop m1.toNat).drop m2.toNat).take m3.toNat).map PV.str), .lst ((((nm.drop m1.toNat).drop m2.toNat).drop m3.toNat).map PV.str),
       .lst (((((nm.drop m1.toNat).drop m2.toNat).drop m3.toNat).take m4.toNat).map PV.str), .lst (((((nm.drop m1.toNat).drop m2.toNat).drop m3.toNat).drop m4.toNat).map PV.str),
       .lst ((((((nm.drop m1.toNat).drop m2.toNat).drop m3.toNat).drop m4.toNat).take (1 + m5 % 4).toNat).map PV.str), .lst ((((((nm.drop m1.toNat).drop m2.toNat).drop m3.toNat).drop m4.toNat).drop (1 + m5 % 4).toNat).map PV.str)])) := by
  have lt := bq hg
  have old : ∀ G : PH, (g ++ G)[n]? = some (.lst (nm.map PV.str)) := fun G => (aM lt).trans hg
  obtain ⟨m1, a1, b1, p1⟩ := ba T j (g ++ [.dct [], .lst [.str "box", .str "lock", .str "lane", .str "door", .str "hand"]]) hn o (k := k) 5 k0 (by omega) (by decide) (by decide)
  let G1 : PH := [.dct [(.inr "box", .ref (g.length + (0 + 1 + 1) + 1 + 1))], .lst [.str "box", .str "lock", .str "lane", .str "door", .str "hand"], .lst ((nm.take m1.toNat).map PV.str), .lst ((nm.drop m1.toNat).map PV.str)]
  obtain ⟨m2, a2, b2, p2⟩ := ba T j (g ++ G1) hn o (k := k + 1) 5 (by omega) (by omega) (by decide) (by decide)
  let G2 : PH := [.dct [(.inr "box", .ref (g.length + (0 + 1 + 1) + 1 + 1)), (.inr "lock", .ref (g.length + (0 + 1 + 1 + 1 + 1) + 1 + 1))], .lst [.str "box", .str "lock", .str "lane", .str "door", .str "hand"], .lst ((nm.take m1.toNat).map PV.str), .lst ((nm.drop m1.toNat).map PV.str), .lst (((nm.drop m1.toNat).take m2.toNat).map PV.str), .lst (((nm.drop m1.toNat).drop m2.toNat).map PV.str)]
  obtain ⟨m3, a3, b3, p3⟩ := ba T j (g ++ G2) hn o (k := k + 1 + 1) 5 (by omega) (by omega) (by decide) (by decide)
  let G3 : PH := [.dct [(.inr "box", .ref (g.length + (0 + 1 + 1) + 1 + 1)), (.inr "lock", .ref (g.length + (0 + 1 + 1 + 1 + 1) + 1 + 1)), (.inr "lane", .ref (g.length + (0 + 1 + 1 + 1 + 1 + 1 + 1) + 1 + 1))], .lst [.str "box", .str "lock", .str "lane", .str "door", .str "hand"], .lst ((nm.take m1.toNat).map PV.str), .lst ((nm.drop m1.toNat).map PV.str), .lst (((nm.drop m1.toNat).take m2.toNat).map PV.str), .lst (((nm.drop m1.toNat).drop m2.toNat).map PV.str),
       .lst ((((nm.drop m1.toNat).drop m2.toNat).take m3.toNat).map PV.str), .lst ((((nm.drop m1.toNat).drop m2.toNat).drop m3.toNat).map PV.str)]
  obtain ⟨m4, a4, b4, p4⟩ := ba T j (g ++ G3) hn o (k := k + 1 + 1 + 1) 5 (by omega) (by omega) (by decide) (by decide)
  let G4 : PH := [.dct [(.inr "box", .ref (g.length + (0 + 1 + 1) + 1 + 1)), (.inr "lock", .ref (g.length + (0 + 1 + 1 + 1 + 1) + 1 + 1)), (.inr "lane", .ref (g.length + (0 + 1 + 1 + 1 + 1 + 1 + 1) + 1 + 1)), (.inr "door", .ref (g.length + (0 + 1 + 1 + 1 + 1 + 1 + 1 + 1 + 1) + 1 + 1))], .lst [.str "box", .str "lock", .str "lane", .str "door", .str "hand"], .lst ((nm.take m1.toNat).map PV.str), .lst ((nm.drop m1.toNat).map PV.str), .lst (((nm.drop m1.toNat).take m2.toNat).map PV.str), .lst (((nm.drop m1.toNat).drop m2.toNat).map PV.str),
       .lst ((((nm.drop m1.toNat).drop m2.toNat).take m3.toNat).map PV.str), .lst ((((nm.drop m1.toNat).drop m2.toNat).drop m3.toNat).map PV.str), .lst (((((nm.drop m1.toNat).drop m2.toNat).drop m3.toNat).take m4.toNat).map PV.str), .lst (((((nm.drop m1.toNat).drop m2.toNat).drop m3.toNat).drop m4.toNat).map PV.str)]
  obtain ⟨m5, a5, b5, p5⟩ := ba T j (g ++ G4) hn o (k := k + 1 + 1 + 1 + 1) 5 (by omega) (by omega) (by decide) (by decide)
  refine ⟨m1, m2, m3, m4, m5, ⟨a1, b1⟩, ⟨a2, b2⟩, ⟨a3, b3⟩, ⟨a4, b4⟩, ⟨a5, b5⟩, fun rest => ?_⟩
  have mm : 0 <= m5 % 4 := Int.emod_nonneg _ (by decide)
  dsimp only [G1, G2, G3, G4] at p2 p3 p4 p5
  have pu := fun a b c d e => wc (a := a) (b := b) (c := c) (d := d) (e := e)
  simp? (disch := first | omega | exact iK aH | (simp only [List.length_cons, List.length_nil] <;> omega)) only [old, jZ, pP, cP, lV, wX, hU, p1, p2, p3, p4, p5, (pu .non .non .non .non .non).1, fun a => (pu a .non .non .non .non).1, fun a b => (pu a b .non .non .non).2.1, fun a b c => (pu a b c .non .non).2.2.1, fun a b c d => (pu a b c d .non).2.2.2.1, fun a b c d e => (pu a b c d e).2.2.2.2]
  have kk : k + 1 + 1 + 1 + 1 + 1 = k + 5 := by omega
  rw [kk]
theorem xa (j:Nat) {ns:List Int} (hn:ns.length<=63) (k:Int) (o:Option Int) (g:PH) {n:Nat} {nm:List Str} (hg:g[n]?=some (.lst (nm.map PV.str))) (k0:0<=k) (k9:k+5 < 1000000) (nl:nm.length=30) (nk: ∀ x∈nm,PyData.strOk x=true) :
  ∃ (g':PH) (nn nd:Nat) (s1 s2 s3 s4 s5 n5:List Str) (u3 u4:Option PV),eg (g++g') nd s1 s2 s3 s4 s5∧(g++g')[nn]?=some (.lst (n5.map PV.str))∧n5.length<=30∧1<=s5.length∧s5.length<=4∧s1++(s2++(s3++(s4++(s5++n5))))=nm∧ ∀ rest:MS,
  ag (ak m6 (gN 2))
  (ag (gX (iE (aQ (aa (eC (.str "box")) (aa (eC (.str "lock")) (aa (eC (.str "lane")) (aa (eC (.str "door")) (aa (eC (.str "hand")) ae))))))) (gN 3) (ag (ak (ah "_law_pick" (aa (ab 0) (aa (eC (.int 5)) ae))) (gN 4))
  (ag (bu (ar (af cu (ab 3) (eC (.str "hand")))) (ak (af aG (eC (.int 1)) (af fw (ab 4) (eC (.int 4)))) (gN 4)) bD)
  (ag (jP iP (ab 2) (ab 3) (kO (ab 1) bY (bX (ab 4))))
  (ak (kO (ab 1) (bX (ab 4)) bY) (gN 1))))))
  rest) (run pg (j+2)) [some (.ref 1),some (.ref (n+1+1)),none,none,none,none,none,none,none] (bB ns::bh k o::g) =
  rest (run pg (j+2)) [some (.ref 1),some (.ref (nn+1+1)),some (.ref (nd+1+1)),u3,u4,none,none,none,none] (bB ns::bh (k+5) o::(g++g')):=by
 obtain ⟨m1,m2,m3,m4,m5,⟨a1,b1⟩,⟨a2,b2⟩,⟨a3,b3⟩,⟨a4,b4⟩,⟨a5,b5⟩,h⟩:=yO T j hn k o g hg k0 k9 nl
 have q5:0<=m5 % 4∧m5 % 4 < 4:=⟨Int.emod_nonneg _ (by decide),Int.emod_lt_of_pos _ (by decide)⟩
 have tk: ∀ {l:List Str} {m:Nat} {x:Str},x∈l.take m->x∈l:=fun h=>List.mem_of_mem_take h
 have dr: ∀ {l:List Str} {m:Nat} {x:Str},x∈l.drop m->x∈l:=fun h=>List.mem_of_mem_drop h
 refine ⟨_,_,_,nm.take m1.toNat,(nm.drop m1.toNat).take m2.toNat,((nm.drop m1.toNat).drop m2.toNat).take m3.toNat,(((nm.drop m1.toNat).drop m2.toNat).drop m3.toNat).take m4.toNat,((((nm.drop m1.toNat).drop m2.toNat).drop m3.toNat).drop m4.toNat).take (1+m5 % 4).toNat,((((nm.drop m1.toNat).drop m2.toNat).drop m3.toNat).drop m4.toNat).drop (1+m5 % 4).toNat,_,_,⟨⟨_,_,_,_,_,bp,aH,aH,aH,aH,aH⟩,⟨fun x m=>nk x (tk m),fun x m=>nk x (dr (tk m)),fun x m=>nk x (dr (dr (tk m))),fun x m=>nk x (dr (dr (dr (tk m))))⟩,?_⟩,aH,?_,?_,?_,by simp only [List.take_append_drop],h⟩
 · simp only [List.length_take,List.length_drop];omega
 · simp only [List.length_take,List.length_drop];omega
 · simp only [List.length_take,List.length_drop];omega
 · simp only [List.length_take,List.length_drop];omega
end
end K12
end
section
open PySem L2 P3
set_option maxHeartbeats 1000000
namespace K12
mutual
def dh:PV->Bool
 | .tup xs=>decide (xs.length<=100000)&&cR xs
 | .non=>true
 | .bl _=>true
 | .int _=>true
 | .str _=>true
 | _=>false
def cR:List PV->Bool
 | []=>true
 | x::r=>dh x&&cR r
end
mutual
def si:PV->Nat
 | .tup xs=>sH xs+1
 | _=>0
def sH:List PV->Nat
 | []=>0
 | x::r=>max (si x) (sH r)
end
theorem oN: ∀ {xs:List PV} {x:PV},cR xs=true->x∈xs->dh x=true
 | y::r,x,h,m=>by
  rw [cR,Bool.and_eq_true] at h
  rcases List.mem_cons.mp m with rfl | m
  · exact h.1
  · exact oN h.2 m
theorem zW: ∀ {xs:List PV} {x:PV},x∈xs->si x<=sH xs
 | y::r,x,m=>by
  rw [sH]
  rcases List.mem_cons.mp m with rfl | m
  · omega
  · have:=zW m;omega
theorem all_true (n:Nat):(List.replicate n true).all id=true:=by simp
theorem cK {xs:List PV} {h:PH}:gR.eX ⟨none,xs⟩ h=true:=rfl
theorem BW (n:Nat):[]++(List.range n).filterMap (fun _=>some (PV.bl true))=(List.replicate n true).map PV.bl:=by simp [List.filterMap_some,List.map_const']
section
variable {pg:Tb} (T:dc pg)
include T
theorem same_refl: ∀ (k:Nat) (h:PH) (v:PV),dh v=true->si v<=k->run pg (k+1) "_law_same" [v,v] h= .ok (.bl true) h:=by
 intro k
 induction k with
 | zero =>
  intro h v hv hd
  rw [run_eq T.kZ rfl]
  cases v with
  | tup xs=>rw [si] at hd;omega
  | non=>simp? (disch:=omega) only [aZ,bC,Ai,As]
  | bl p=>simp? (disch:=omega) only [aZ,bC,yq,yR]
  | int i=>simp? (disch:=omega) only [aZ,bC,zE,yM,ya]
  | str i=>simp? (disch:=omega) only [aZ,bC,zM,yJ,xV,yz]
  | _=>exact nomatch hv
 | succ k ih =>
  intro h v hv hd
  rw [run_eq T.kZ rfl]
  cases v with
  | tup xs =>
   rw [dh,Bool.and_eq_true,decide_eq_true_eq] at hv
   rw [si] at hd
   have e1:fY ⟨none,bF 0 xs.length⟩ (bj 1 (gN 2) bQ (ah "_law_same" (aa (af aq (ab 0) (ab 2)) (aa (af aq (ab 1) (ab 2)) ae))) (run pg (k+1)) [some (.tup xs),some (.tup xs)]) (bF 0 xs.length) [] h= .ok ((List.replicate xs.length true).map PV.bl) h:=by
    rw [show bF 0 xs.length=(List.range xs.length).map (fun i:Nat=>PV.int (0+(i:Int))) from rfl]
    refine (dA (f:=fun _=>some (PV.bl true)) (g:=fun i:Nat=>PV.int (0+(i:Int))) cK (List.range xs.length) [] (fun q m=>?_) (by rw [List.length_range];exact Nat.le_trans hv.1 (by decide))).trans (by rw [BW])
    have hq:q < xs.length:=List.mem_range.mp m
    have ix:=kf (h:=h) (P3.d6 (xs:=xs) (i:=0+(q:Int)) (n:=q) (by omega) (List.getElem?_eq_getElem hq))
    have im:xs[q]∈xs:=List.getElem_mem hq
    have sm:=ih h xs[q] (oN hv.2 im) (by have:=zW im;omega)
    simp? (disch:=omega) only [ix,sm]
   have al:=Lu (h:=h++[.lst ((List.replicate xs.length true).map PV.bl)]) (n:=h.length) bp
   rw [all_true] at al
   simp? (disch:=omega) only [aZ,bC,F4,EV,Fi,Int.toNat_natCast,e1,al]
   exact aN rfl
  | non=>simp? (disch:=omega) only [aZ,bC,Ai,As]
  | bl p=>simp? (disch:=omega) only [aZ,bC,yq,yR]
  | int i=>simp? (disch:=omega) only [aZ,bC,zE,yM,ya]
  | str i=>simp? (disch:=omega) only [aZ,bC,zM,yJ,xV,yz]
  | _=>exact nomatch hv
end
theorem Dk {v:Int} (h0:0<=v) (h1:v < 3): ∃ x:Str,eJ [PV.str "a",.str "ab",.str "boxes"] v=some (.str x):=by
 have:v=0∨v=1∨v=2:=by omega
 rcases this with rfl | rfl | rfl<;>exact ⟨_,rfl⟩
theorem Iu {v w:Int} (h0:0<=v) (h1:v < 4): ∃ n:Int,eJ [PV.int 0,.int 1,.int 999,.int w] v=some (.int n):=by
 have:v=0∨v=1∨v=2∨v=3:=by omega
 rcases this with rfl | rfl | rfl | rfl<;>exact ⟨_,rfl⟩
theorem Cb {v a b c:Int} (h0:0<=v) (h1:v < 4) (a0:0<=a) (a1:a < 4) (b0:0<=b) (b1:b < 6) (c0:0<=c) (c1:c < 6): ∃ n:Int,0<=n∧n<=30∧eJ [PV.int a,.int (3+b),.int (3+c),.int 30] v=some (.int n):=by
 have:v=0∨v=1∨v=2∨v=3:=by omega
 rcases this with rfl | rfl | rfl | rfl
 · exact ⟨a,a0,by omega,rfl⟩
 · exact ⟨3+b,by omega,by omega,rfl⟩
 · exact ⟨3+c,by omega,by omega,rfl⟩
 · exact ⟨30,by decide,by decide,rfl⟩
section
variable {pg:Tb} (T:dc pg)
include T
theorem uH (j:Nat) {ns:List Int} (hn:ns.length<=63) (k:Int) (o:Option Int) (J:PH) {nn nd:Nat} {s1 s2 s3 s4 s5 n5:List Str} (hN:eg J nd s1 s2 s3 s4 s5) (h5:J[nn]?=some (.lst (n5.map PV.str))) (k0:0<=k) (k9:k+1 < 1000000) (u3 u4 n7 n8:Option PV) :
  ∃ (G:PH) (np:Nat) (ps:List Str),(J++G)[np]?=some (.lst (ps.map PV.str))∧0 < ps.length∧ps.length<=5∧ ∀ rest:MS,
  ag (ak (af aG (af aG (af aG (kO (ab 1) bY (bX (eC (.int 2)))) (kO (af aq (ab 2) (eC (.str "box"))) bY (bX (eC (.int 1))))) (kO (af aq (ab 2) (eC (.str "hand"))) bY (bX (eC (.int 1))))) (aQ (aa (af aq (aQ (aa (eC (.str "a")) (aa (eC (.str "ab")) (aa (eC (.str "boxes")) ae)))) (ah "_law_pick" (aa (ab 0) (aa (eC (.int 3)) ae)))) ae))) (gN 5))
  (ag (ak (aQ ae) (gN 6)) rest) (run pg (j+2)) [some (.ref 1),some (.ref (nn+1+1)),some (.ref (nd+1+1)),u3,u4,none,none,n7,n8] (bB ns::bh k o::J) =
  rest (run pg (j+2)) [some (.ref 1),some (.ref (nn+1+1)),some (.ref (nd+1+1)),u3,u4,some (.ref (np+1+1)),some (.ref ((J++G).length+1+1)),n7,n8] (bB ns::bh (k+1) o::(J++G++[.lst []])):=by
 obtain ⟨⟨b1,b2,b3,b4,b5,e0,e1,e2,e3,e4,e5⟩,_,_⟩:=hN
 obtain ⟨w1,w2,w3,w4,w5⟩:=iI (b1:=b1+1+1) (b2:=b2+1+1) (b3:=b3+1+1) (b4:=b4+1+1) (b5:=b5+1+1)
 have o0: ∀ G:PH,(J++G)[nd]?=_:=fun G=>(aM (bq e0)).trans e0
 have o1: ∀ G:PH,(J++G)[b1]?=_:=fun G=>(aM (bq e1)).trans e1
 have o5: ∀ G:PH,(J++G)[b5]?=_:=fun G=>(aM (bq e5)).trans e5
 let A:List PV:=(n5.take 2).map PV.str
 let B:List PV:=(s1.take 1).map PV.str
 let C:List PV:=(s5.take 1).map PV.str
 have t2:dy (n5.map PV.str) none (some 2)=A:=lV (by decide)
 have t1:dy (s1.map PV.str) none (some 1)=B:=lV (by decide)
 have t5:dy (s5.map PV.str) none (some 1)=C:=lV (by decide)
 have lA:A.length<=2:=by simp only [A,List.length_map,List.length_take];omega
 have lB:B.length<=1:=by simp only [B,List.length_map,List.length_take];omega
 have lC:C.length<=1:=by simp only [C,List.length_map,List.length_take];omega
 obtain ⟨v,v0,v1,ev⟩:=ba T j (J++[.lst A,.lst B,.lst (A++B),.lst C,.lst (A++(B++C)),.lst [.str "a",.str "ab",.str "boxes"]]) hn o (k:=k) 3 k0 (by omega) (by decide) (by decide)
 obtain ⟨x,ex⟩:=Dk v0 v1
 have eq:A++(B++(C++[PV.str x]))=(n5.take 2++(s1.take 1++(s5.take 1++[x]))).map PV.str:=by simp only [A,B,C,List.map_append,List.map_cons,List.map_nil]
 refine ⟨[.lst A,.lst B,.lst (A++B),.lst C,.lst (A++(B++C)),.lst [.str "a",.str "ab",.str "boxes"],.lst [.str x],.lst (A++(B++(C++[.str x])))],J.length+(0+1+1+1+1+1+1+1),n5.take 2++(s1.take 1++(s5.take 1++[x])),?_,?_,?_,fun rest=>?_⟩
 · rw [<- eq];exact aH
 · simp only [List.length_append,List.length_cons];omega
 · simp only [List.length_append,List.length_cons,List.length_nil,List.length_take];omega
 · clear_value A B C
   simp? (disch:=first | omega | (simp only [List.length_append,List.length_cons,List.length_nil]<;>omega)) only [e0,o0,w1,w5,o1,o5,h5,t2,t1,t5,Lq,Fy,ev,ex]
theorem Dd (j:Nat) {ns:List Int} (hn:ns.length<=63) {np nd:Nat} {ps L:List Str} (p0:0 < ps.length) (p9:ps.length<=1000) (hL: ∀ x∈ps,x∈L) {s1 s2 s3 s4 s5:List Str} {g:PH} (hN:eg g nd s1 s2 s3 s4 s5) (hp:g[np]?=some (.lst (ps.map PV.str))) (many:Int) (m0:0<=many) (m9:many<=30) (xs0:List PV) (e1 e3 e6 e7 e8:Option PV) :
  ∀ (xs ys:List PV) (k:Int) (o:Option Int),0<=k->k+84*xs.length<=1000000->ys.length+xs.length<=1000-> ∃ (rs:List Rw) (k':Int) (o':Option Int),rs.length=xs.length∧(∀ r∈rs,cV L many.toNat r)∧k<=k'∧k'<=k+84*xs.length ∧
   fY ⟨none,xs0⟩ (bj 1 (gN 9) bQ (ah "_law_row" (aa (ab 0) (aa (ab 2) (aa (ab 5) (aa (ab 4) ae))))) (run pg (j+9)) [some (.ref 1),e1,some (.ref (nd+1+1)),e3,some (.int many),some (.ref (np+1+1)),e6,e7,e8]) xs ys (bB ns::bh k o::g)= .ok (ys++rs.map bV) (bB ns::bh k' o'::g):=by
 intro xs
 induction xs with
 | nil=>intro ys k o k0 k9 _;exact ⟨[],k,o,rfl,fun r m=>(nomatch m),by omega,by simp,by rw [P3.fY,if_pos cK];simp⟩
 | cons x xs ih =>
  intro ys k o k0 k9 hl
  rw [List.length_cons] at k9 hl
  obtain ⟨r,k1,o1,q1,q2,q3,q4⟩:=Fp T j hn p0 p9 hL hN hp k many o k0 (by omega) m0 (by omega)
  obtain ⟨rs,k2,o2,r1,r2,r3,r4,r5⟩:=ih (ys++[bV r]) k1 o1 (by omega) (by omega) (by simp;omega)
  refine ⟨r::rs,k2,o2,by simp [r1],fun z m=>?_,by omega,by rw [List.length_cons];omega,?_⟩
  · rcases List.mem_cons.mp m with rfl | m
    · exact q1
    · exact r2 z m
  · have st:bj 1 (gN 9) bQ (ah "_law_row" (aa (ab 0) (aa (ab 2) (aa (ab 5) (aa (ab 4) ae))))) (run pg (j+9)) [some (.ref 1),e1,some (.ref (nd+1+1)),e3,some (.int many),some (.ref (np+1+1)),e6,e7,e8] x (bB ns::bh k o::g)= .ok (some (bV r)) (bB ns::bh k1 o1::g):=by
     simp? (disch:=omega) only [q4]
    have hz:ys.length < sizeLine:=Nat.lt_of_lt_of_le (show ys.length < 1001 by omega) (by decide)
    rw [P3.fY,if_pos ⟨cK,hz⟩,st,bR]
    simpa using r5
end
end K12
end
section
open PySem L2 P3
set_option maxHeartbeats 1000000
namespace K12
noncomputable def ao (h:Str × List Rw):PV:= .tup [.str h.1,aA h.2]
theorem gK: ∀ hs:List (Str × List Rw),PV.aT (hs.map ao)=true
 | []=>rfl
 | h::r=>by simp only [List.map_cons,PV.aT,gK r,ao,PV.flat,aA,j7,Bool.and_self]
theorem px (n:Nat):(bF 0 n).length=n:=by
 rw [show bF 0 n=(List.range n).map (fun i:Nat=>PV.int (0+(i:Int))) from rfl,List.length_map,List.length_range]
section
variable {pg:Tb} (T:dc pg)
include T
theorem yx (j:Nat) {ns:List Int} (hn:ns.length<=63) {np nd b5:Nat} {ps L:List Str} (p0:0 < ps.length) (p9:ps.length<=1000) (hL: ∀ x∈ps,x∈L) {s1 s2 s3 s4 s5:List Str} {B:PH} (hN:eg B nd s1 s2 s3 s4 s5) (hp:B[np]?=some (.lst (ps.map PV.str))) (h5:B[b5]?=some (.lst (s5.map PV.str))) (u1 u3 n8:Option PV) :
  ∀ (xs:List Str) (hs:List (Str × List Rw)) (k:Int) (o:Option Int) (g2:PH) (u4 u7:Option PV),0<=k->k+2600*xs.length<=1000000->hs.length+xs.length<=100-> ∃ (hs':List (Str × List Rw)) (k':Int) (o':Option Int) (g3:PH) (u4' u7':Option PV),
   hs'.length=xs.length∧(∀ h∈hs',h.2.length<=30∧ ∀ r∈h.2,cV L h.2.length r)∧k<=k'∧k'<=k+2600*xs.length ∧
   cF ⟨some (b5+1+1),s5.map PV.str⟩ (iS (gN 7) (ag (ak (af aq (aQ (aa (ah "_law_pick" (aa (ab 0) (aa (eC (.int 4)) ae))) (aa (af aG (eC (.int 3)) (ah "_law_pick" (aa (ab 0) (aa (eC (.int 6)) ae)))) (aa (af aG (eC (.int 3)) (ah "_law_pick" (aa (ab 0) (aa (eC (.int 6)) ae)))) (aa (eC (.int 30)) ae))))) (ah "_law_pick" (aa (ab 0) (aa (eC (.int 4)) ae)))) (gN 4))
  (dN (eM bT cC (ab 6) (aa (ay (aa (ab 7) (aa (eB aJ (aa (iA 1 (df (aa (ab 4) ae)) (gN 9) bQ (ah "_law_row" (aa (ab 0) (aa (ab 2) (aa (ab 5) (aa (ab 4) ae)))))) ae)) ae))) ae)))) (run pg (j+9))) (xs.map PV.str)
    [some (.ref 1),u1,some (.ref (nd+1+1)),u3,u4,some (.ref (np+1+1)),some (.ref (B.length+1+1)),u7,n8] (bB ns::bh k o::(B++(.lst (hs.map ao)::g2))) =
   .ok (.nx [some (.ref 1),u1,some (.ref (nd+1+1)),u3,u4',some (.ref (np+1+1)),some (.ref (B.length+1+1)),u7',n8]) (bB ns::bh k' o'::(B++(.lst ((hs++hs').map ao)::g3))):=by
 have fin1: ∀ (k:Int) (o:Option Int) (g:PH),gR.eX ⟨some (b5+1+1),s5.map PV.str⟩ (bB ns::bh k o::(B++g))=true:=fun k o g=>iK (show (B++g)[b5]?=_ from (aM (bq h5)).trans h5)
 intro xs
 induction xs with
 | nil=>intro hs k o g2 u4 u7 k0 k9 _;exact ⟨[],k,o,g2,u4,u7,rfl,fun h m=>(nomatch m),by omega,by simp,by rw [List.map_nil,pP (fin1 _ _ _),List.append_nil]⟩
 | cons x xs ih =>
  intro hs k o g2 u4 u7 k0 k9 hl
  rw [List.length_cons] at k9 hl
  obtain ⟨a,a0,a1,ea⟩:=ba T (j+7) (B++(.lst (hs.map ao)::g2)) hn o (k:=k) 4 k0 (by omega) (by decide) (by decide)
  obtain ⟨b,b0,b1,eb⟩:=ba T (j+7) (B++(.lst (hs.map ao)::g2)) hn o (k:=k+1) 6 (by omega) (by omega) (by decide) (by decide)
  obtain ⟨c,c0,c1,ec⟩:=ba T (j+7) (B++(.lst (hs.map ao)::g2)) hn o (k:=k+1+1) 6 (by omega) (by omega) (by decide) (by decide)
  obtain ⟨d,d0,d1,ed⟩:=ba T (j+7) (B++(.lst (hs.map ao)::(g2++[.lst [.int a,.int (3+b),.int (3+c),.int 30]]))) hn o (k:=k+1+1+1) 4 (by omega) (by omega) (by decide) (by decide)
  obtain ⟨m,m0,m9,em⟩:=Cb d0 d1 a0 a1 b0 b1 c0 c1
  have ml:(bF 0 m.toNat).length=m.toNat:=px _
  obtain ⟨rs,k1,o1,r1,r2,r3,r4,r5⟩:=Dd T j hn p0 p9 hL (g:=B++(.lst (hs.map ao)::(g2++[.lst [.int a,.int (3+b),.int (3+c),.int 30]]))) hN.app ((aM (bq hp)).trans hp) m m0 m9 (bF 0 m.toNat) u1 u3 (some (.ref (B.length+1+1))) (some (.str x)) n8 (bF 0 m.toNat) [] (k+1+1+1+1) o (by omega) (by omega) (by rw [ml];simp;omega)
  rw [ml] at r1 r4
  obtain ⟨hs',k2,o2,g3,u4',u7',q1,q2,q3,q4,q5⟩:=ih (hs++[(x,rs)]) k1 o1 (g2++[.lst [.int a,.int (3+b),.int (3+c),.int 30],.lst (rs.map bV)]) (some (.int m)) (some (.str x)) (by omega) (by omega) (by simp;omega)
  refine ⟨(x,rs)::hs',k2,o2,g3,u4',u7',by simp [q1],fun h mm=>?_,by omega,by rw [List.length_cons];omega,?_⟩
  · rcases List.mem_cons.mp mm with rfl | mm
    · exact ⟨by show rs.length<=30;omega,fun r mr=>by show cV L rs.length r;rw [r1];exact r2 r mr⟩
    · exact q2 h mm
  · rw [List.map_cons,jZ (fin1 _ _ _)]
    have hz:(hs.map ao).length < 16777216:=by rw [List.length_map];omega
    have e2:(hs++[(x,rs)]).map ao=hs.map ao++[.tup [.str x,.tup (rs.map bV)]]:=by rw [List.map_append];rfl
    rw [e2] at q5
    rw [show hs++(x,rs)::hs'=hs++[(x,rs)]++hs' by simp]
    rw [List.nil_append] at r5
    simp? (disch:=omega) only [ea,eb,ec,ed,em,r5,ko hz,cP,q5]
theorem zV (j:Nat) {ns:List Int} (hn:ns.length<=63) {b1:Nat} {s1:List Str} {B:PH} (h1:B[b1]?=some (.lst (s1.map PV.str))) (o:Option Int) (e1 e2 e3 e4 e5 e6 e7 e8:Option PV) :
  ∀ (xs:List Str) (ys:List PV) (k:Int) (g2:PH),0<=k->k+2*xs.length<=1000000->ys.length+xs.length<=1000-> ∃ (bs:List PV) (k':Int) (g3:PH),PV.aT bs=true∧((∀ b∈bs,∃ (x:Str) (n:Int),b= .tup [.str x,.int n])∧bs.length=xs.length)∧k<=k'∧k'<=k+2*xs.length ∧
   fY ⟨some (b1+1+1),s1.map PV.str⟩ (bj 1 (gN 9) bQ (ay (aa (ab 9) (aa (af aq (aQ (aa (eC (.int 0)) (aa (eC (.int 1)) (aa (eC (.int 999)) (aa (ah "_law_pick" (aa (ab 0) (aa (eC (.int 1000)) ae))) ae))))) (ah "_law_pick" (aa (ab 0) (aa (eC (.int 4)) ae)))) ae))) (run pg (j+2)) [some (.ref 1),e1,e2,e3,e4,e5,e6,e7,e8]) (xs.map PV.str) ys (bB ns::bh k o::(B++g2))= .ok (ys++bs) (bB ns::bh k' o::(B++(g2++g3))):=by
 have fin1: ∀ (k:Int) (o:Option Int) (g:PH),gR.eX ⟨some (b1+1+1),s1.map PV.str⟩ (bB ns::bh k o::(B++g))=true:=fun k o g=>iK (show (B++g)[b1]?=_ from (aM (bq h1)).trans h1)
 intro xs
 induction xs with
 | nil=>intro ys k g2 k0 k9 _;exact ⟨[],k,[],rfl,⟨(fun b m=>nomatch m),rfl⟩,by omega,by simp,by rw [List.map_nil,P3.fY,if_pos (fin1 _ _ _)];simp⟩
 | cons x xs ih =>
  intro ys k g2 k0 k9 hl
  rw [List.length_cons] at k9 hl
  obtain ⟨a,a0,a1,ea⟩:=ba T j (B++g2) hn o (k:=k) 1000 k0 (by omega) (by decide) (by decide)
  obtain ⟨b,b0,b1,eb⟩:=ba T j (B++(g2++[.lst [.int 0,.int 1,.int 999,.int a]])) hn o (k:=k+1) 4 (by omega) (by omega) (by decide) (by decide)
  obtain ⟨n,en⟩:=Iu (w:=a) b0 b1
  obtain ⟨bs,k2,g3,q1,q5,q2,q3,q4⟩:=ih (ys++[.tup [.str x,.int n]]) (k+1+1) (g2++[.lst [.int 0,.int 1,.int 999,.int a]]) (by omega) (by omega) (by simp;omega)
  refine ⟨.tup [.str x,.int n]::bs,k2,.lst [.int 0,.int 1,.int 999,.int a]::g3,by rw [PV.aT,q1];rfl,⟨fun b m=>(List.mem_cons.mp m).elim (fun e=>⟨x,n,e⟩) (q5.1 b),by simp [q5.2]⟩,by omega,by rw [List.length_cons];omega,?_⟩
  have st:bj 1 (gN 9) bQ (ay (aa (ab 9) (aa (af aq (aQ (aa (eC (.int 0)) (aa (eC (.int 1)) (aa (eC (.int 999)) (aa (ah "_law_pick" (aa (ab 0) (aa (eC (.int 1000)) ae))) ae))))) (ah "_law_pick" (aa (ab 0) (aa (eC (.int 4)) ae)))) ae))) (run pg (j+2)) [some (.ref 1),e1,e2,e3,e4,e5,e6,e7,e8] (.str x) (bB ns::bh k o::(B++g2))= .ok (some (.tup [.str x,.int n])) (bB ns::bh (k+1+1) o::(B++(g2++[.lst [.int 0,.int 1,.int 999,.int a]]))):=by
   simp? (disch:=omega) only [ea,eb,en]
  have hz:ys.length < sizeLine:=Nat.lt_of_lt_of_le (show ys.length < 1001 by omega) (by decide)
  rw [List.map_cons,P3.fY,if_pos ⟨fin1 _ _ _,hz⟩,st,bR]
  simpa using q4
end
end K12
end
section
open PySem L2 P3
set_option maxHeartbeats 1000000
namespace K12
noncomputable def iJ:List Str:=["a", "ab", "boxes", "b", "lets"]
structure nv (L:List Str) (s2:List Str) (hs:List (Str × List Rw)) (p:PV):Prop where
 len:L.length<=10
 Oc: ∀ x∈iJ,x∈L
 N6:s2.length<=10
 Ou:s2.Nodup
 many:1<=hs.length∧hs.length<=4
 rows: ∀ h∈hs,h.2.length<=30∧ ∀ r∈h.2,cV L h.2.length r
 at_: ∃ bs s3 s4:List PV,p= .tup [.tup bs,.tup (s2.map PV.str),.tup s3,.tup s4,.tup (hs.map ao)]
 flat:p.flat=true
 Nr: ∀ bs l2 l3 l4 l5:List PV,p= .tup [.tup bs,.tup l2,.tup l3,.tup l4,.tup l5]->(∀ b∈bs,∃ (x:Str) (n:Int),b= .tup [.str x,.int n])∧bs.length<=10∧l2.length<=10∧l3.length<=10∧l4.length<=10
section
variable {pg:Tb} (T:dc pg)
include T
theorem ud (j:Nat) {ns:List Int} (hn:ns.length<=63) (k:Int) (o:Option Int) (g:PH) (k0:0<=k) (k9:k+11000<=1000000) :
  ∃ (L s2:List Str) (hs:List (Str × List Rw)) (p:PV) (k':Int) (o':Option Int),nv L s2 hs p∧k<=k'∧k'<=k+11000∧run pg (j+10) "_law_program" [.ref 1] (bB ns::bh k o::g)= .ok p (bB ns::bh k' o'::g):=by
 obtain ⟨g1,n,nm,a1,a2,a3,a5,a4⟩:=Aw T (j+6) hn k o g k0 (by omega)
 obtain ⟨g2,nn,nd,s1,s2,s3,s4,s5,n5,u3,u4,b1,b2,b3,b4,b5,b7,b6⟩:=xa T (j+7) hn (k+1) o (g++g1) a1 (by omega) (by omega) a2 a3
 obtain ⟨g3,np,ps,c1,c2,c3,c4⟩:=uH T (j+7) hn (k+1+5) o (g++g1++g2) b1 b2 (by omega) (by omega) u3 u4 none none
 have NB:eg (g++g1++g2++g3) nd s1 s2 s3 s4 s5:=b1.app
 generalize hB:g++g1++g2++g3=B at *
 have NB':=NB
 obtain ⟨⟨x1,x2,x3,x4,x5,e0,e1,e2,e3,e4,e5⟩,_,l1,l2,l3,l4,l5⟩:=NB'
 obtain ⟨w1,w2,w3,w4,w5⟩:=iI (b1:=x1+1+1) (b2:=x2+1+1) (b3:=x3+1+1) (b4:=x4+1+1) (b5:=x5+1+1)
 obtain ⟨hs,k1,o1,g4,v4,v7,d1,d2,d3,d4,d5⟩:=yx T j hn (L:=ps++iJ) c2 (by omega) (fun x m=>List.mem_append_left _ m) NB c1 e5 (some (.ref (nn+1+1))) u3 none s5 [] (k+1+5+1) o [] u4 none (by omega) (by omega) (by simp;omega)
 obtain ⟨bs,k2,g5,f1,f5,f2,f3,f4⟩:=zV T (j+7) hn e1 o1 (some (.ref (nn+1+1))) (some (.ref (nd+1+1))) u3 v4 (some (.ref (np+1+1))) (some (.ref (B.length+1+1))) v7 none s1 [] k1 (.lst (hs.map ao)::g4) (by omega) (by omega) (by simp;omega)
 have pf:PV.flat (.tup [.tup bs,.tup (s2.map PV.str),.tup (s3.map PV.str),.tup (s4.map PV.str),.tup (hs.map ao)])=true:=by
  simp only [PV.flat,PV.aT,f1,ka,gK,Bool.and_self]
 refine ⟨ps++iJ,s2,hs,_,k2,o1,⟨by simp only [List.length_append];have:iJ.length=5:=rfl;omega,fun x m=>List.mem_append_right _ m,l2,by rw [<- b7] at a5;exact (List.nodup_append.mp (List.nodup_append.mp a5).2.1).1,by omega,d2,⟨bs,s3.map PV.str,s4.map PV.str,rfl⟩,pf,fun b' c2 c3 c4 c5 e=>by
  cases e
  exact ⟨f5.1,by rw [f5.2];exact l1,by rw [List.length_map];exact l2,by rw [List.length_map];exact l3,by rw [List.length_map];exact l4⟩⟩,by omega,by omega,?_⟩
 rw [run_eq T.mH rfl]
 unfold cH fc
 have s0: ∀ rest,ag (ak (ah "_law_names" (aa (ab 0) ae)) (gN 1)) rest (run pg (j+9)) [some (.ref 1),none,none,none,none,none,none,none,none] (bB ns::bh k o::g)=rest (run pg (j+9)) [some (.ref 1),some (.ref (n+1+1)),none,none,none,none,none,none,none] (bB ns::bh (k+1) o::(g++g1)):=fun rest=>by
  simp? (disch:=omega) only [a4]
 refine (congrArg (fin _) ((s0 _).trans ((b6 _).trans (c4 _)))).trans ?_
 have o0: ∀ G:PH,(B++G)[nd]?=_:=fun G=>(aM (bq e0)).trans e0
 have y1: ∀ G:PH,(B++G)[x1]?=_:=fun G=>(aM (bq e1)).trans e1
 have y2: ∀ G:PH,(B++G)[x2]?=_:=fun G=>(aM (bq e2)).trans e2
 have y3: ∀ G:PH,(B++G)[x3]?=_:=fun G=>(aM (bq e3)).trans e3
 have y4: ∀ G:PH,(B++G)[x4]?=_:=fun G=>(aM (bq e4)).trans e4
 have y5: ∀ G:PH,(B++G)[x5]?=_:=fun G=>(aM (bq e5)).trans e5
 rw [List.map_nil,List.nil_append] at d5
 rw [List.nil_append,List.cons_append] at f4
 simp? (disch:=omega) only [o0,w1,w2,w3,w4,w5,y1,y2,y3,y4,y5,d5,f4]
 rw [<- hB]
 simp only [List.append_assoc]
 exact cM pf
end
end K12
end
section
open PySem L2 P3
set_option maxHeartbeats 1000000
namespace K12
noncomputable def tE (a b:Int):List (Key × PV):=[(.inr "add",.int ((a+b) % 1000)),(.inr "sub",.int ((a - b) % 1000)),(.inr "mul",.int (a*b % 1000))]
theorem qu (a b:Int) (u v:PV):bJ [] (tE a b)=tE a b∧er (tE a b) (.inr "less") u=tE a b++[(.inr "less",u)]∧er (tE a b++[(.inr "less",u)]) (.inr "same") v=tE a b++[(.inr "less",u),(.inr "same",v)]:=by
 refine ⟨?_,?_,?_⟩<;>simp [tE,bJ,er,aP]
theorem Jg (o:Bo) (a b:Int):bo (tE a b++[(.inr "less",.int (if a < b then 1 else 0)),(.inr "same",.int (if a=b then 1 else 0))]) (.inr o.w)=some (.int (o.f a b)):=by
 cases o<;>simp [tE,bo,aP,Bo.w,Bo.f]
section
variable {pg:Tb} (T:dc pg)
include T
theorem su {D:Pk} {n:Nat} (hf: ∀ x,0<=fP D x∧fP D x<=999): ∀ (e:Sm) (k:Nat) (h:PH),h[n]?=some (.dct (bN D))->e.ok->e.dp<=k->run pg (k+1) "_law_worth" [ef e,.ref n] h= .ok (.int (e.val (fP D))) h
 | .num i,k,h,hn,ho,hk=>by
  rw [run_eq T.eI rfl]
  simp? (disch:=omega) only [bK,cj,ef,Sm.val]
 | .of x,k,h,hn,ho,hk=>by
  rw [run_eq T.eI rfl]
  simp? (disch:=omega) only [bK,cj,ef,Sm.val,hn,tY]
 | .un a,k,h,hn,ho,hk=>by
  obtain ⟨k,rfl⟩: ∃ j,k=j+1:=⟨k - 1,by unfold Sm.dp at hk;omega⟩
  have ih:=su hf a k h hn ho (by unfold Sm.dp at hk;omega)
  have e1:fY ⟨none,[ef a]⟩ (bj 1 (gN 6) bQ (ah "_law_worth" (aa (ab 6) (aa (ab 1) ae))) (run pg (k+1)) [some (.tup [.str "not",ef a]),some (.ref n),none,none,none,none]) [ef a] [] h= .ok [.int (a.val (fP D))] h:=by
   have:=dA (it:=⟨none,[ef a]⟩) (h:=h) cK (step:=bj 1 (gN 6) bQ (ah "_law_worth" (aa (ab 6) (aa (ab 1) ae))) (run pg (k+1)) [some (.tup [.str "not",ef a]),some (.ref n),none,none,none,none]) (f:=fun e:Sm=>some (PV.int (e.val (fP D)))) (g:=ef) [a] [] (fun x m=>by
    rw [List.mem_singleton] at m;subst m
    simp? (disch:=omega) only [ih]) (show 1+0<=16777216 by decide)
   exact this
  rw [run_eq T.eI rfl]
  simp? (disch:=omega) only [bK,cj,ef,Sm.val,F6,e1,wJ]
  split<;>exact aN rfl
 | .bin o a b,k,h,hn,ho,hk=>by
  obtain ⟨k,rfl⟩: ∃ j,k=j+1:=⟨k - 1,by unfold Sm.dp at hk;omega⟩
  have ih1:=su hf a k h hn ho.1 (by unfold Sm.dp at hk;omega)
  have ih2:=su hf b k h hn ho.2 (by unfold Sm.dp at hk;omega)
  have va:=Sm.kn hf a ho.1
  have vb:=Sm.kn hf b ho.2
  show run pg (k+1+1) "_law_worth" [.tup [.str o.w,ef a,ef b],.ref n] h= .ok (.int (o.f (a.val (fP D)) (b.val (fP D)))) h
  generalize a.val (fP D)=x at ih1 va ⊢
  generalize b.val (fP D)=y at ih2 vb ⊢
  have e1:fY ⟨none,[ef a,ef b]⟩ (bj 1 (gN 6) bQ (ah "_law_worth" (aa (ab 6) (aa (ab 1) ae))) (run pg (k+1)) [some (.tup [.str o.w,ef a,ef b]),some (.ref n),none,none,none,none]) [ef a,ef b] [] h= .ok [.int x,.int y] h:=by
   have:=dA (it:=⟨none,[ef a,ef b]⟩) (h:=h) cK (step:=bj 1 (gN 6) bQ (ah "_law_worth" (aa (ab 6) (aa (ab 1) ae))) (run pg (k+1)) [some (.tup [.str o.w,ef a,ef b]),some (.ref n),none,none,none,none]) (f:=fun q:PV × Int=>some (PV.int q.2)) (g:=fun q:PV × Int=>q.1) [(ef a,x),(ef b,y)] [] (fun q m=>by
    rcases List.mem_cons.mp m with rfl | m
    · simp? (disch:=omega) only [ih1]
    · rw [List.mem_singleton] at m;subst m
      simp? (disch:=omega) only [ih2]) (show 2+0<=16777216 by decide)
   exact this
  rw [run_eq T.eI rfl]
  have dk:Fm (h.length+(0+1)) (tE x y) (h++[.lst [.int x,.int y],.dct []])= .ok (.ref (h.length+(0+1))) (h++[.lst [.int x,.int y],.dct (tE x y)]):=by
   have:=pT (h:=h++[.lst [.int x,.int y]]) (kvs:=tE x y) (show 3<=15 by decide)
   rw [(qu x y .non .non).1] at this
   simpa using this
  have l3:(tE x y).length < 16777216:=by show 3 < 16777216;decide
  have l4: ∀ u,(tE x y++[((.inr "less" :Key),u)]).length < 16777216:=fun u=>by show 4 < 16777216;decide
  have p3:=fun u=>(qu x y u .non).2.1
  have p4:=fun u v=>(qu x y u v).2.2
  have tv:=Jg o x y
  have ne: ¬ o.w= "not" :=by cases o<;>decide
  have n1: ¬ o.w= "num" :=by cases o<;>decide
  have n2: ¬ o.w= "of" :=by cases o<;>decide
  unfold tE at dk l3 l4 p3 p4 tv
  simp only [List.cons_append,List.nil_append] at l4 p3 p4 tv
  by_cases c2:x=y
  · subst c2
    have c1: ¬ x < x:=by omega
    simp only [c1,eq_self,if_true,if_false,reduceIte] at tv
    simp? (disch:=first | omega | exact l3 | exact l4 _) only [bK,cj,n1,n2,ne,c1,eq_self,F6,e1,vt,yN,vv,lJ,qm,lX,qL,qK,pU,dk,hU,p3,p4,tv]
    exact aN (v:= .int _) rfl
  · by_cases c1:x < y<;>simp only [c1,c2,if_true,if_false,reduceIte] at tv <;>
     (simp? (disch:=first | omega | exact l3 | exact l4 _) only [bK,cj,n1,n2,ne,c1,c2,F6,e1,vt,yN,vv,lJ,qm,lX,qL,qK,pU,dk,hU,p3,p4,tv];exact aN (v:= .int _) rfl)
end
end K12
end
section
open PySem L2 P3
set_option maxHeartbeats 1000000
namespace K12
structure rY (L:List Str) (D:Pk):Prop where
 nd:(D.map (·.1)).Nodup
 mem: ∀ q∈D,q.1∈L∧0<=q.2∧q.2<=999
noncomputable def putD (D:Pk) (x:Str) (v:Int):Pk:=if x∈D.map (·.1) then D.map (fun q=>if q.1=x then (q.1,v) else q) else D++[(x,v)]
theorem uM (D:Pk) (x:Str) (v:Int):(D.map (fun q=>if q.1=x then (q.1,v) else q)).map (·.1)=D.map (·.1):=by
 rw [List.map_map]
 refine List.map_congr_left fun q _=>?_
 show (if q.1=x then (q.1,v) else q).1=q.1
 split<;>rfl
theorem iw (D:Pk) (x:Str) (v:Int):er (bN D) (.inr x) (.int v)=bN (putD D x v):=by
 unfold er putD
 have e:((bN D).any fun kv=>decide (kv.1= .inr x))=decide (x∈D.map (·.1)):=by
  rw [Bool.eq_iff_iff]
  simp only [List.any_eq_true,decide_eq_true_eq,bN,List.mem_map]
  constructor
  · rintro ⟨kv,⟨q,m,rfl⟩,e⟩;exact ⟨q,m,Sum.inr.inj e⟩
  · rintro ⟨q,m,rfl⟩;exact ⟨_,⟨q,m,rfl⟩,rfl⟩
 rw [e]
 by_cases h:x∈D.map (·.1)
 · rw [if_pos (by simpa only [decide_eq_true_eq] using h),if_pos h]
   unfold bN
   rw [List.map_map];rw [List.map_map]
   refine List.map_congr_left fun q _=>?_
   show (if (Sum.inr q.1:Key)=Sum.inr x then ((Sum.inr q.1:Key),PV.int v) else (Sum.inr q.1,PV.int q.2))=_
   by_cases z:q.1=x
   · rw [if_pos (by rw [z])];simp [z]
   · rw [if_neg (fun e=>z (Sum.inr.inj e))];simp [z]
 · rw [if_neg (by simpa only [decide_eq_true_eq] using h),if_neg h]
   unfold bN
   rw [List.map_append];rfl
theorem tZ (x:Str) (v:Int) (y:Str): ∀ D:Pk,x∈D.map (·.1)->fP (D.map (fun q=>if q.1=x then (q.1,v) else q)) y=if y=x then v else fP D y
 | q::r,h=>by
  rw [List.map_cons,fP,fP]
  by_cases z:q.1=x
  · rw [if_pos z]
    by_cases w:y=x
    · subst w;rw [if_pos z,if_pos rfl]
    · rw [if_neg (fun e=>w (e.symm.trans z)),if_neg w,if_neg (fun e=>w (e.symm.trans z))]
      by_cases hr:x∈r.map (·.1)
      · rw [tZ x v y r hr,if_neg w]
      · congr 1
        refine (List.map_congr_left fun p m=>?_).trans (List.map_id _)
        show (if p.1=x then (p.1,v) else p)=p
        rw [if_neg (fun e=>hr (List.mem_map.mpr ⟨p,m,e⟩))]
  · rw [if_neg z]
    have hr:x∈r.map (·.1):=by
     rcases List.mem_cons.mp h with e | m
     · exact absurd e.symm z
     · exact m
    rw [tZ x v y r hr]
    by_cases w:q.1=y
    · rw [if_pos w,if_pos w,if_neg (fun e=>z (w.trans e))]
    · rw [if_neg w,if_neg w]
theorem yr (x:Str) (v:Int) (y:Str): ∀ D:Pk,x ∉ D.map (·.1)->fP (D++[(x,v)]) y=if y=x then v else fP D y
 | [],_=>by
  rw [List.nil_append,fP,fP]
  by_cases w:y=x
  · rw [if_pos w,if_pos w.symm]
  · rw [if_neg w,if_neg (fun e=>w e.symm)];rfl
 | q::r,h=>by
  rw [List.map_cons,List.mem_cons,not_or] at h
  rw [List.cons_append,fP,fP,yr x v y r h.2]
  by_cases w:q.1=y
  · rw [if_pos w,if_pos w,if_neg (fun e=>h.1 (e.symm.trans w.symm))]
  · rw [if_neg w,if_neg w]
theorem uV (D:Pk) (x:Str) (v:Int) (y:Str):fP (putD D x v) y=if y=x then v else fP D y:=by
 unfold putD
 split
 · rename_i h;exact tZ x v y D h
 · rename_i h;exact yr x v y D h
theorem vN {L:List Str} {D:Pk} {x:Str} {v:Int} (h:rY L D) (hx:x∈L) (h0:0<=v) (h9:v<=999):rY L (putD D x v):=by
 unfold putD
 split
 · refine ⟨by rw [uM];exact h.nd,fun q m=>?_⟩
   obtain ⟨p,mp,rfl⟩:=List.mem_map.mp m
   by_cases z:p.1=x
   · rw [if_pos z];exact ⟨(h.mem p mp).1,h0,h9⟩
   · rw [if_neg z];exact h.mem p mp
 · rename_i hn
   refine ⟨?_,fun q m=>?_⟩
   · rw [List.map_append]
     refine List.nodup_append.mpr ⟨h.nd,by simp,fun a ha b hb e=>?_⟩
     have hb':b=x:=by simpa using hb
     exact hn (by rw [<- hb',<- e];exact ha)
   · rcases List.mem_append.mp m with m | m
     · exact h.mem q m
     · rw [List.mem_singleton.mp m];exact ⟨hx,h0,h9⟩
theorem rY.yC {L:List Str} {D:Pk} (h:rY L D): ∀ x,0<=fP D x∧fP D x<=999:=fun x=>by
 by_cases hx:x∈D.map (·.1)
 · obtain ⟨q,m,rfl⟩:=List.mem_map.mp hx
   rw [kb h.nd q m];exact (h.mem q m).2
 · rw [je hx];decide
end K12
end
section
open PySem L2 P3
set_option maxHeartbeats 1000000
namespace K12
theorem set_same {h:PH} {n:Nat} {o:PO} (e:h[n]?=some o):h.set n o=h:=by
 refine List.ext_getElem? fun i=>?_
 by_cases z:n=i
 · subst z;rw [List.getElem?_set_self (bq e),e]
 · rw [List.getElem?_set_ne z]
section
variable {pg:Tb} (T:dc pg)
include T
theorem gx (k:Nat) (h:PH) (n:Nat) {rs:List Rw} {s:aO} (hs:s.row<=rs.length) (hr:a8 rs s=true):run pg (k+1) "_law_own" [aA rs,.int s.row,.ref n,cb s.held] h= .ok .non h:=by
 rw [run_eq T.mR rfl]
 cases e:rs[s.row]? with
 | none =>
  have:s.row=rs.length:=by have:=List.getElem?_eq_none_iff.mp e;omega
  simp? (disch:=omega) only [bt,bO,aA,this,List.length_map]
 | some r =>
  have hlt:s.row < rs.length:=(List.getElem?_eq_some_iff.mp e).1
  have ne: ¬ (s.row:Int)=(rs.length:Int):=by omega
  have ix:=kf (h:=h) (d8 e)
  have ho:own s.held r=false:=by unfold a8 at hr;rw [e] at hr;simpa using hr
  cases r with
  | take l =>
   have hl: ¬ l∈s.held:=by simpa [own] using ho
   simp? (disch:=omega) only [bt,bO,aA,ne,ix,bV,Rw.w,Rw.ps,cb,hl,List.length_map]
  | free l =>
   have hl:l∈s.held:=by simpa [own] using ho
   simp? (disch:=omega) only [bt,bO,aA,ne,ix,bV,Rw.w,Rw.ps,cb,hl,List.length_map]
  | let_ x e0=>exact nomatch ho
  | leap x e0=>exact nomatch ho
  | _=>simp? (disch:=omega) only [bt,bO,aA,ne,ix,bV,Rw.w,Rw.ps,cb,List.length_map]
theorem gB (k:Nat) (h:PH) (n:Nat) {L:List Str} {rs:List Rw} {s:aO} {r:Rw} {D:Pk} (e:rs[s.row]?=some r) (ho:own s.held r=true) (hr:cV L rs.length r) (hn:h[n]?=some (.dct (bN D))) (hD:rY L D) (hf: ∀ x,fP D x=fP s.ps x) (nd:(s.ps.map (·.1)).Nodup) (dl:D.length<=1000) :
  ∃ D':Pk,rY L D'∧(∀ x,fP D' x=fP (behind s r).ps x)∧D'.length<=D.length+1∧run pg (k+9) "_law_own" [aA rs,.int s.row,.ref n,cb s.held] h= .ok (.int (behind s r).row) (h.set n (.dct (bN D'))):=by
 have hlt:s.row < rs.length:=(List.getElem?_eq_some_iff.mp e).1
 have ne: ¬ (s.row:Int)=(rs.length:Int):=by omega
 have ix:=kf (h:=h) (d8 e)
 have ff:fP D=fP s.ps:=funext hf
 have w: ∀ e0:Sm,nF e0->run pg (k+8) "_law_worth" [ef e0,.ref n] h= .ok (.int (e0.val (fP s.ps))) h:=fun e0 he=>by
  rw [<- ff];exact su T hD.yC e0 (k+7) h hn he.1 (by have:=he.2;omega)
 have hl9:(bN D).length < 16777216:=by unfold bN;rw [List.length_map];omega
 rw [run_eq T.mR rfl]
 cases r with
 | let_ x e0 =>
  have hv:=Sm.kn (f:=fP s.ps) (by rw [<- ff];exact hD.yC) e0 hr.2.1
  refine ⟨putD D x (e0.val (fP s.ps)),vN hD hr.1 hv.1 hv.2,fun y=>?_,?_,?_⟩
  · rw [uV,behind,AA nd,hf]
  · unfold putD;split<;>simp
  · simp? (disch:=omega) only [bt,bO,aA,ne,ix,bV,Rw.w,Rw.ps,cb,List.length_map,w e0 hr.2,hn,hU hl9,iw,lb (o:=PO.dct (bN D)),behind]
    rfl
 | leap j e0 =>
  refine ⟨D,hD,fun y=>?_,by omega,?_⟩
  · rw [hf];show _=fP (if e0.val (fP s.ps)=0 then (⟨s.row+1,s.ps,s.held⟩:aO) else ⟨j.toNat,s.ps,s.held⟩).ps y;split<;>rfl
  · rw [set_same hn]
    have hv:=Sm.kn (f:=fP s.ps) (by rw [<- ff];exact hD.yC) e0 hr.2.2.1
    by_cases z:e0.val (fP s.ps)=0
    · have z': ¬ 0 < e0.val (fP s.ps):=by omega
      simp? (disch:=omega) only [bt,bO,aA,ne,ix,bV,Rw.w,Rw.ps,cb,List.length_map,w e0 hr.2.2,z',behind,z]
      rfl
    · have z':0 < e0.val (fP s.ps):=by omega
      have jj:((j.toNat:Nat):Int)=j:=by have:=hr.1;omega
      simp? (disch:=omega) only [bt,bO,aA,ne,ix,bV,Rw.w,Rw.ps,cb,List.length_map,w e0 hr.2.2,z',behind,z,jj]
 | take l =>
  have hl:l∈s.held:=by simpa [own] using ho
  refine ⟨D,hD,hf,by omega,?_⟩
  rw [set_same hn]
  simp? (disch:=omega) only [bt,bO,aA,ne,ix,bV,Rw.w,Rw.ps,cb,hl,behind,List.length_map]
  rfl
 | free l =>
  have hl: ¬ l∈s.held:=by simpa [own] using ho
  refine ⟨D,hD,hf,by omega,?_⟩
  rw [set_same hn]
  simp? (disch:=omega) only [bt,bO,aA,ne,ix,bV,Rw.w,Rw.ps,cb,hl,behind,List.length_map]
  rfl
 | _=>exact nomatch ho
end
end K12
end
section
open PySem L2 P3
set_option maxHeartbeats 1000000
namespace K12
theorem gv {t:ax->PH->RV Bool} {b:ax->PH->RV Fl} {f:Nat} {e:ax} {h h1:PH} (ht:t e h= .ok false h1):cq t b (f+1) e h= .ok (.nx e) h1:=by
 rw [cq,ht,bR];rfl
theorem nN {t:ax->PH->RV Bool} {b:ax->PH->RV Fl} {f:Nat} {e e1:ax} {h h1 h2:PH} (ht:t e h= .ok true h1) (hb:b e h1= .ok (.nx e1) h2):cq t b (f+1) e h=cq t b f e1 h2:=by
 rw [cq,ht,bR,if_pos rfl,hb,bR]
theorem pG {h g:PH} {D:Pk} (nd:(D.map (·.1)).Nodup) (dl:D.length<=1000):eF [.ref h.length] (h++ .dct (bN D)::g)= .ok (.ref (h.length+(g.length+1))) (h++ .dct (bN D)::(g++[.dct (bN D)])):=by
 have e:(h++ .dct (bN D)::g)[h.length]?=some (.dct (bN D)):=bp
 have z:(bN D).length<=sizeLine:=by unfold bN;rw [List.length_map];exact Nat.le_trans dl (by decide)
 simp only [eF,e,if_pos z,jY nd,List.length_append,List.length_cons,List.append_assoc,List.cons_append]
theorem rY.len {L:List Str} {D:Pk} (h:rY L D):D.length<=L.length:=by
 have:=List.Nodup.length_le_of_subset h.nd (l₂ :=L) (fun x hx=>by obtain ⟨q,hq,rfl⟩:=List.mem_map.mp hx;exact (h.mem q hq).1)
 simpa using this
theorem fI (s:aO) (r:Rw):(behind s r).held=s.held:=by
 cases r with
 | leap j e0=>show (if e0.val (fP s.ps)=0 then (⟨s.row+1,s.ps,s.held⟩:aO) else ⟨j.toNat,s.ps,s.held⟩).held=s.held;split<;>rfl
 | _=>rfl
theorem jq {rs:List Rw} {s:aO} (h:a8 rs s=false): ∃ r,rs[s.row]?=some r∧own s.held r=true:=by
 unfold a8 at h
 cases e:rs[s.row]? with
 | none=>rw [e] at h;exact nomatch h
 | some r=>rw [e] at h;exact ⟨r,rfl,by simpa using h⟩
section
variable {pg:Tb} (T:dc pg)
include T
theorem xu (k:Nat) (h:PH) {L:List Str} (hL:L.length<=20) {rs:List Rw} (hr: ∀ r∈rs,cV L rs.length r) (s0:aO): ∀ (m i:Nat) (t:aO) (D:Pk) (g:PH) (a0:Int) (u6:Option PV) (f:Nat),i+m=199->m+2<=f->cx L rs t->t.held=s0.held->rY L D->(∀ x,fP D x=fP t.ps x) ->
  ∃ (n':Nat) (D':Pk) (G:PH) (p':Int) (u6':Option PV),(h++G)[n']?=some (.dct (bN D'))∧rY L D'∧(∀ x,fP D' x=fP (az rs m t).ps x) ∧
  cq (ar (pQ (cZ true) (ab 5)) (run pg (k+9))) ((ag (ak (ab 5) (gN 3))
  (ag (ak (af aG (ab 4) (eC (.int 1))) (gN 4))
  (ag (ak (eB eF (aa (ab 2) ae)) (gN 6))
  (ag (ak (ah "_law_own" (aa (ab 0) (aa (ab 3) (aa (ab 2) (aa (af aq (ab 1) (eC (.int 2))) ae))))) (gN 5))
  (bu (kF (ar (af cu (ab 4) (eC (.int 200)))) (ar (pQ (cZ true) (ab 5)))) (ag (ak (ab 6) (gN 2))
  (ag (ak (eB bE (aa (ab 0) ae)) (gN 3))
  (ak (eC .non) (gN 5)))) bD))))) (run pg (k+9))) f [some (aA rs),some (aj s0),some (.ref h.length),some (.int a0),some (.int i),some (.int t.row),u6] (h++ .dct (bN D)::g) =
  .ok (.nx [some (aA rs),some (aj s0),some (.ref n'),some (.int (az rs m t).row),some (.int p'),some .non,u6']) (h++G):=by
 intro m
 induction m with
 | zero =>
  intro i t D g a0 u6 f hi hf hs hh hD hp
  obtain ⟨f,rfl⟩: ∃ j,f=j+1+1:=⟨f - 2,by omega⟩
  have ct:=pG (h:=h) (g:=g) hD.nd (by have:=hD.len;omega)
  have p200:(i:Int)+1=200:=by omega
  have hd:aq (aj s0) (.int 2) (h++ .dct (bN D)::(g++[.dct (bN D)]))= .ok (cb t.held) (h++ .dct (bN D)::(g++[.dct (bN D)])):=by rw [hh];rfl
  cases r1:a8 rs t with
  | true =>
   have on:=gx T (k+8) (h++ .dct (bN D)::(g++[.dct (bN D)])) h.length hs.le r1
   have fr:az rs 0 t=t:=by unfold az;rw [if_pos r1]
   refine ⟨h.length,D,.dct (bN D)::(g++[.dct (bN D)]),i+1,some (.ref (h.length+(g.length+1))),bp,hD,by rw [fr];exact hp,?_⟩
   rw [fr]
   rw [nN (h1:=h++ .dct (bN D)::g) (e1:=[some (aA rs),some (aj s0),some (.ref h.length),some (.int t.row),some (.int (i+1)),some .non,some (.ref (h.length+(g.length+1)))]) (h2:=h++ .dct (bN D)::(g++[.dct (bN D)])) ?_ ?_]
   · refine gv ?_
     simp? (disch:=omega) only [List.map_nil]
   · simp? (disch:=omega) only [List.map_nil]
   · simp? (disch:=omega) only [ct,hd,on,p200]
  | false =>
   obtain ⟨r,e,ho⟩:=jq r1
   obtain ⟨D1,q1,q2,q3,q4⟩:=gB T k (h++ .dct (bN D)::(g++[.dct (bN D)])) h.length e ho (hr r (List.mem_of_getElem? e)) bp hD hp hs.pk.nd (by have:=hD.len;omega)
   rw [eN,List.set_cons_zero] at q4
   have fr:az rs 0 t=⟨rs.length,t.ps,t.held⟩:=by unfold az;rw [if_neg (by simp [r1])]
   refine ⟨h.length+(g.length+1),D,.dct (bN D1)::(g++[.dct (bN D)]),i+1,some (.ref (h.length+(g.length+1))),by rw [aH,List.getElem?_cons_succ];exact bp,hD,by rw [fr];exact hp,?_⟩
   rw [fr]
   rw [nN (h1:=h++ .dct (bN D)::g) (e1:=[some (aA rs),some (aj s0),some (.ref (h.length+(g.length+1))),some (.int rs.length),some (.int (i+1)),some .non,some (.ref (h.length+(g.length+1)))]) (h2:=h++ .dct (bN D1)::(g++[.dct (bN D)])) ?_ ?_]
   · refine gv ?_
     simp? (disch:=omega) only [List.map_nil]
   · simp? (disch:=omega) only [List.map_nil]
   · have rl:bE [aA rs] (h++ .dct (bN D1)::(g++[.dct (bN D)]))= .ok (.int rs.length) (h++ .dct (bN D1)::(g++[.dct (bN D)])):=by unfold aA;rw [len_T,List.length_map]
     simp? (disch:=omega) only [ct,hd,q4,p200,rl]
 | succ m ih =>
  intro i t D g a0 u6 f hi hf hs hh hD hp
  obtain ⟨f,rfl⟩: ∃ j,f=j+1+1:=⟨f - 2,by omega⟩
  have ct:=pG (h:=h) (g:=g) hD.nd (by have:=hD.len;omega)
  have n200: ¬ (i:Int)+1=200:=by omega
  have hd:aq (aj s0) (.int 2) (h++ .dct (bN D)::(g++[.dct (bN D)]))= .ok (cb t.held) (h++ .dct (bN D)::(g++[.dct (bN D)])):=by rw [hh];rfl
  cases r1:a8 rs t with
  | true =>
   have on:=gx T (k+8) (h++ .dct (bN D)::(g++[.dct (bN D)])) h.length hs.le r1
   have fr:az rs (m+1) t=t:=by unfold az;rw [if_pos r1]
   refine ⟨h.length,D,.dct (bN D)::(g++[.dct (bN D)]),i+1,some (.ref (h.length+(g.length+1))),bp,hD,by rw [fr];exact hp,?_⟩
   rw [fr]
   rw [nN (h1:=h++ .dct (bN D)::g) (e1:=[some (aA rs),some (aj s0),some (.ref h.length),some (.int t.row),some (.int (i+1)),some .non,some (.ref (h.length+(g.length+1)))]) (h2:=h++ .dct (bN D)::(g++[.dct (bN D)])) ?_ ?_]
   · refine gv ?_
     simp? (disch:=omega) only [List.map_nil]
   · simp? (disch:=omega) only [List.map_nil]
   · simp? (disch:=omega) only [ct,hd,on,n200]
  | false =>
   obtain ⟨r,e,ho⟩:=jq r1
   have hm:=hr r (List.mem_of_getElem? e)
   obtain ⟨D1,q1,q2,q3,q4⟩:=gB T k (h++ .dct (bN D)::(g++[.dct (bN D)])) h.length e ho hm bp hD hp hs.pk.nd (by have:=hD.len;omega)
   rw [eN,List.set_cons_zero] at q4
   have fr:az rs (m+1) t=az rs m (behind t r):=by rw [az,if_neg (by simp [r1]),e]
   obtain ⟨n',D',G,p',u6',w1,w2,w3,w4⟩:=ih (i+1) (behind t r) D1 (g++[.dct (bN D)]) t.row (some (.ref (h.length+(g.length+1)))) (f+1) (by omega) (by omega) (eO hs hm e) (by rw [fI];exact hh) q1 q2
   refine ⟨n',D',G,p',u6',w1,w2,by rw [fr];exact w3,?_⟩
   rw [fr]
   rw [nN (h1:=h++ .dct (bN D)::g) (e1:=[some (aA rs),some (aj s0),some (.ref h.length),some (.int t.row),some (.int ((i+1:Nat):Int)),some (.int (behind t r).row),some (.ref (h.length+(g.length+1)))]) (h2:=h++ .dct (bN D1)::(g++[.dct (bN D)])) ?_ ?_]
   · exact w4
   · simp? (disch:=omega) only [List.map_nil]
   · simp? (disch:=omega) only [ct,hd,q4,n200]
     rfl
end
end K12
end
section
open PySem L2 P3
set_option maxHeartbeats 1000000
namespace K12
theorem zI {a b:MS} {c:CF} {e e1:ax} {h h1:PH} (q:a c e h= .ok (.nx e1) h1):ag a b c e h=b c e1 h1:=by rw [Ad,q,sQ,vW]
theorem vi {t:MT} {b:MS} {c:CF} {e:ax} {h:PH}:mO t b c e h=cq (t c) (b c) 100000 e h:=(rfl)
theorem cI (ss:List Str):(bf ss).Perm ss:=List.mergeSort_perm ss _
theorem pL {ss:List Str} (nd:ss.Nodup):(bf ss).Pairwise gQ:=by
 have h1:(bf ss).Pairwise fun a b=>lj a b=true:=List.pairwise_mergeSort fX (fun a b=>by simpa using iD a b) ss
 have h2:(bf ss).Pairwise (· ≠ ·):=(cI ss).nodup_iff.mpr nd
 refine h1.imp₂ (fun a b z1 z2=>?_) h2
 rcases kN z2 with z | z
 · exact z
 · unfold lj at z1;simp [z] at z1
theorem yp {D:Pk} {f:Key × PV->PV} (hf: ∀ q:Str × Int,f (.inr q.1,.int q.2)= .str q.1):(bN D).map f=(D.map (·.1)).map PV.str:=by
 unfold bN;rw [List.map_map,List.map_map];exact List.map_congr_left fun q _=>hf q
theorem uX {h:PH} {n:Nat} {D:Pk} (e:h[n]?=some (.dct (bN D))) (hl:D.length < 64):bG [.ref n] h= .ok (.ref h.length) (h++[.lst ((bf (D.map (·.1))).map PV.str)]):=by
 have i0:itemsOf h (.ref n)=none:=by simp [itemsOf,cQ,e]
 show eK [.ref n] h=_
 unfold eK
 simp only [i0,e]
 rw [yp,P3.dR]
 · simp only [List.length_map,if_pos hl]
 · exact fun q=>rfl
theorem zG {D:Pk} {x:Str}: ∀ {D:Pk},x∈D.map (·.1)->bo (bN D) (.inr x)=some (.int (fP D x))
 | q::r,m=>by
  unfold fP bN
  rw [List.map_cons]
  by_cases e:q.1=x
  · rw [if_pos e,e,qJ]
  · rw [if_neg e,sy (by simpa using e)]
    rcases List.mem_cons.mp m with m | m
    · exact absurd m.symm e
    · exact zG (D:=D) m
noncomputable def tell (D:Pk) (ns:List Str):Pk:=(ns.filter fun x=>decide (0 < fP D x)).map fun x=>(x,fP D x)
theorem lW (D:Pk): ∀ ns:List Str,(ns.filterMap fun x=>if 0 < fP D x then some (fg (x,fP D x)) else none)=(tell D ns).map fg
 | []=>rfl
 | x::r=>by
  unfold tell
  by_cases z:0 < fP D x
  · rw [List.filterMap_cons_some (by rw [if_pos z]),List.filter_cons_of_pos (by simpa using z),List.map_cons,List.map_cons,lW D r];rfl
  · rw [List.filterMap_cons_none (by rw [if_neg z]),List.filter_cons_of_neg (by simpa using z),lW D r];rfl
theorem m8 (D:Pk) (ns:List Str):(tell D ns).map (·.1)=ns.filter fun x=>decide (0 < fP D x):=by
 unfold tell;rw [List.map_map];exact List.map_id _
theorem vF {L:List Str} {D ps:Pk} (h:rY L D) (hp:fB L ps) (e: ∀ x,fP D x=fP ps x):tell D (bf (D.map (·.1)))=ps:=by
 have hin:fB L (tell D (bf (D.map (·.1)))):=by
  refine ⟨?_,fun q m=>?_⟩
  · rw [m8];exact (pL h.nd).sublist List.filter_sublist
  · unfold tell at m
    obtain ⟨x,mx,rfl⟩:=List.mem_map.mp m
    obtain ⟨m1,m2⟩:=List.mem_filter.mp mx
    obtain ⟨q,mq,rfl⟩:=List.mem_map.mp ((cI _).mem_iff.mp m1)
    have:=h.yC q.1
    have m3:0 < fP D q.1:=by simpa using m2
    exact ⟨(h.mem q mq).1,by show 1<=fP D q.1;omega,by show fP D q.1<=999;omega⟩
 refine GA hin hp fun x=>?_
 rw [<- e]
 by_cases hx:x∈(tell D (bf (D.map (·.1)))).map (·.1)
 · obtain ⟨q,m,rfl⟩:=List.mem_map.mp hx
   rw [kb hin.nd q m]
   unfold tell at m
   obtain ⟨y,_,rfl⟩:=List.mem_map.mp m
   rfl
 · rw [je hx]
   rw [m8] at hx
   have:=h.yC x
   by_cases hy:x∈D.map (·.1)
   · have: ¬ 0 < fP D x:=fun z=>hx (List.mem_filter.mpr ⟨(cI _).mem_iff.mpr hy,by simpa using z⟩)
     omega
   · rw [je hy]
theorem fh {rs:List Rw}: ∀ (n:Nat) (s:aO),(az rs n s).held=s.held
 | 0,s=>by unfold az;split<;>rfl
 | n+1,s=>by
  unfold az;split
  · rfl
  · split
    · rfl
    · rw [fh n,fI]
section
variable {pg:Tb} (T:dc pg)
include T
theorem o6 (k:Nat) (h G:PH) {L:List Str} (hL:L.length<=20) {rs:List Rw} {s t:aO} {n':Nat} {D':Pk} (p':PV) (u5 u6:Option PV) (e:(h++G)[n']?=some (.dct (bN D'))) (hD:rY L D') (hp: ∀ x,fP D' x=fP t.ps x) (ht:cx L rs t) (hh:t.held=s.held) :
  fin h ((aB (ay (aa (ab 3) (aa (eB aJ (aa (iA 1 (iE (eB bG (aa (ab 2) ae))) (gN 7) (ar (af uh (af aq (ab 2) (ab 7)) (eC (.int 0)))) (ay (aa (ab 7) (aa (af aq (ab 2) (ab 7)) ae)))) ae)) (aa (af aq (ab 1) (eC (.int 2))) ae))))) (run pg k) [some (aA rs),some (aj s),some (.ref n'),some (.int t.row),some p',u5,u6] (h++G))= .ok (aj t) h:=by
 have dl:=hD.len
 have so:=uX e (show D'.length < 64 by omega)
 have e':(h++(G++[.lst ((bf (D'.map (·.1))).map PV.str)]))[n']?=some (.dct (bN D')):=by rw [<- List.append_assoc,aM (bq e)];exact e
 have fi:gR.eX ⟨some (h.length+G.length),(bf (D'.map (·.1))).map PV.str⟩ (h++(G++[.lst ((bf (D'.map (·.1))).map PV.str)]))=true:=by
  unfold gR.eX
  have:(h++(G++[PO.lst ((bf (D'.map (·.1))).map PV.str)]))[h.length+G.length]?=some (.lst ((bf (D'.map (·.1))).map PV.str)):=by rw [aH];exact bp
  simp only [this,true_or,decide_true]
 have lc:fY ⟨some (h.length+G.length),(bf (D'.map (·.1))).map PV.str⟩ (bj 1 (gN 7) (ar (af uh (af aq (ab 2) (ab 7)) (eC (.int 0)))) (ay (aa (ab 7) (aa (af aq (ab 2) (ab 7)) ae))) (run pg k) [some (aA rs),some (aj s),some (.ref n'),some (.int t.row),some p',u5,u6]) ((bf (D'.map (·.1))).map PV.str) [] (h++(G++[.lst ((bf (D'.map (·.1))).map PV.str)]))= .ok (t.ps.map fg) (h++(G++[.lst ((bf (D'.map (·.1))).map PV.str)])):=by
  refine (dA (f:=fun x:Str=>if 0 < fP D' x then some (fg (x,fP D' x)) else none) (g:=PV.str) fi (bf (D'.map (·.1))) [] (fun x m=>?_) (by rw [(cI _).length_eq];simp;omega)).trans (by rw [lW,vF hD ht.pk hp,List.nil_append])
  have hv:=zG (D:=D') ((cI _).mem_iff.mp m)
  simp? (disch:=omega) only [e',hv,fg]
  split<;>rfl
 have i2: ∀ g,aq (aj s) (.int 2) g= .ok (cb t.held) g:=fun g=>by rw [hh];rfl
 simp? (disch:=omega) only [so,lc,i2]
 exact aN (v:=aj t) (dS t)
theorem iT (k:Nat) (h:PH) {L:List Str} (hL:L.length<=20) {rs:List Rw} (hr: ∀ r∈rs,cV L rs.length r) {s:aO} (hs:cx L rs s):run pg (k+10) "_law_rested" [aA rs,aj s] h= .ok (aj (az rs 200 s)) h:=by
 have hz:(s.ps.map fg).length < 16777216:=by rw [List.length_map];have:=hs.pk.len;omega
 have dp:eF [kL s.ps] h= .ok (.ref h.length) (h++[.dct (bN s.ps)]):=by unfold kL;rw [uP,jB,qA hz,jY hs.pk.nd]
 have hD:rY L s.ps:=⟨hs.pk.nd,fun q m=>⟨(hs.pk.mem q m).1,by have:=(hs.pk.mem q m).2.1;omega,(hs.pk.mem q m).2.2⟩⟩
 have i0: ∀ g,aq (aj s) (.int 0) g= .ok (.int s.row) g:=fun g=>rfl
 have i1: ∀ g,aq (aj s) (.int 1) g= .ok (kL s.ps) g:=fun g=>rfl
 have i2: ∀ g,aq (aj s) (.int 2) g= .ok (cb s.held) g:=fun g=>rfl
 rw [run_eq T.nX rfl]
 have hd: ∀ (rest:MS) (v:PV) (h1:PH),run pg (k+9) "_law_own" [aA rs,.int s.row,.ref h.length,cb s.held] (h++[.dct (bN s.ps)])= .ok v h1->(ag (ak (eB eF (aa (af aq (ab 1) (eC (.int 1))) ae)) (gN 2))
  (ag (ak (af aq (ab 1) (eC (.int 0))) (gN 3))
  (ag (ak (eC (.int 0)) (gN 4))
  (ag (ak (ah "_law_own" (aa (ab 0) (aa (ab 3) (aa (ab 2) (aa (af aq (ab 1) (eC (.int 2))) ae))))) (gN 5)) rest)))) (run pg (k+9)) [some (aA rs),some (aj s),none,none,none,none,none] h=rest (run pg (k+9)) [some (aA rs),some (aj s),some (.ref h.length),some (.int s.row),some (.int 0),some v,none] h1:=fun rest v h1 q=>by
  simp? (disch:=omega) only [i0,i1,i2,dp,q]
 cases r1:a8 rs s with
 | true =>
  have on:=gx T (k+8) (h++[.dct (bN s.ps)]) h.length hs.le r1
  have fr:az rs 200 s=s:=by rw [az,if_pos r1]
  rw [fr]
  refine (congrArg (fin h) ((hd _ _ _ on).trans (zI ?_))).trans (o6 T (k+9) h [.dct (bN s.ps)] hL (.int 0) (some .non) none bp hD (fun _=>rfl) hs rfl)
  rw [vi]
  refine gv (f:=99999) ?_
  simp? (disch:=omega) only [List.map_nil]
 | false =>
  obtain ⟨r,e,ho⟩:=jq r1
  have hm:=hr r (List.mem_of_getElem? e)
  obtain ⟨D1,q1,q2,q3,q4⟩:=gB T k (h++[.dct (bN s.ps)]) h.length e ho hm bp hD (fun _=>rfl) hs.pk.nd (by have:=hD.len;omega)
  rw [eN,List.set_cons_zero] at q4
  have fr:az rs 200 s=az rs 199 (behind s r):=by rw [az,if_neg (by simp [r1]),e]
  rw [fr]
  obtain ⟨n',D',G,p',u6',w1,w2,w3,w4⟩:=xu T k h hL hr s 199 0 (behind s r) D1 [] s.row none 100000 (by decide) (by decide) (eO hs hm e) (fI s r) q1 q2
  have hb:=jy hr 199 _ (eO hs hm e)
  refine (congrArg (fin h) ((hd _ _ _ q4).trans (zI ?_))).trans (o6 T (k+9) h G hL (s:=s) (.int p') (some .non) u6' w1 w2 w3 hb (by rw [fh,fI]))
  rw [show ((0:Nat):Int)=(0:Int) from rfl] at w4
  rw [vi]
  exact w4
end
end K12
end
section
open PySem L2 P3
set_option maxHeartbeats 1000000
namespace K12
theorem Fj {h:PH} {n:Nat} {ss:List Str} (e:h[n]?=some (.lst (ss.map PV.str))) (hl:ss.length < 64):bG [.ref n] h= .ok (.ref h.length) (h++[.lst ((bf ss).map PV.str)]):=by
 have i0:itemsOf h (.ref n)=some (ss.map PV.str):=by simp [itemsOf,cQ,e]
 show eK [.ref n] h=_
 unfold eK
 simp only [i0,P3.dR,if_pos hl]
section
variable {pg:Tb} (T:dc pg)
include T
theorem nv.hand {L s2:List Str} {hs:List (Str × List Rw)} {p:PV} (P:nv L s2 hs p) {i:Nat} {h:Str × List Rw} (e:hs[i]?=some h):fS p (i:Int) h.2∧ ∀ r∈h.2,cV L h.2.length r:=by
 obtain ⟨bs,s3,s4,rfl⟩:=P.at_
 exact ⟨⟨_,_,_,_,_,_,rfl,P3.d6 rfl (by rw [List.getElem?_map,e];rfl)⟩,(P.rows h (List.mem_of_getElem? e)).2⟩
end
end K12
end
section
open PySem L2 P3
set_option maxHeartbeats 1000000
namespace K12
theorem jn (s:aO) (h1:s.ps.length<=1000) (h2:s.held.length<=1000):dh (aj s)=true:=by
 have p1: ∀ ps:Pk,cR (ps.map fg)=true:=by
  intro ps
  induction ps with
  | nil=>rfl
  | cons q r ih=>rw [List.map_cons,cR,ih];simp [fg,dh,cR]
 have p2: ∀ hs:List Str,cR (hs.map PV.str)=true:=by
  intro ps
  induction ps with
  | nil=>rfl
  | cons q r ih=>rw [List.map_cons,cR,ih];simp [dh]
 have q1:s.ps.length<=100000:=by omega
 have q2:s.held.length<=100000:=by omega
 simp [aj,kL,cb,dh,cR,p1,p2,q1,q2]
theorem qR (s : aO) : si (aj s) <= 3 := by
  have p1 : ∀ ps : Pk, sH (ps.map fg) <= 1 := by
    intro ps
    induction ps with
    | nil => simp [sH]
    | cons q r ih => rw [List.map_cons, sH]; have : si (fg q) = 1 := by simp [fg, si, sH]
                     omega
  have p2 : ∀ hs : List Str, sH (hs.map PV.str) = 0 := by
    intro ps
    induction ps with
    | nil => rfl
    | cons q r ih => rw [List.map_cons, sH, ih]; simp [si]
  have := p1 s.ps
  simp only [aj, kL, cb, si, sH, p2]; omega
theorem gJ {rs:List Rw}: ∀ (n:Nat) (s:aO),a8 rs (az rs n s)=true
 | 0,s=>by
  unfold az;split
  · assumption
  · unfold a8;rw [List.getElem?_eq_none (Nat.le_refl _)]
 | n+1,s=>by
  unfold az;split
  · assumption
  · split
    · rename_i e;unfold a8;rw [e]
    · exact gJ n _
end K12
end
section
open PySem L2 P3
set_option maxHeartbeats 1000000
namespace K12
theorem HD {x y:PV} {h:PH}:aq (.tup [x,y]) (.int (((0+1+1:Nat):Int) - 1)) h= .ok y h:=Jf
theorem G9 {x y z:PV} {h:PH}:aq (.tup [x,y,z]) (.int (((0+1+1+1:Nat):Int) - 1)) h= .ok z h:=IF
theorem yP (a:Str) (h:PH):ju (.str a) (.tup [.str "put",.str "send",.str "say"]) h= .ok (.bl (decide (a∈(["put", "send", "say"]:List Str)))) h:=we (ss:=["put", "send", "say"])
theorem Ci (a:Str) (h:PH):ju (.str a) (.tup [.str "get",.str "fetch",.str "clock",.str "lot",.str "hear"]) h= .ok (.bl (decide (a∈(["get", "fetch", "clock", "lot", "hear"]:List Str)))) h:=we (ss:=["get", "fetch", "clock", "lot", "hear"])
theorem in4 (a:Str) (h:PH):ju (.str a) (.tup [.str "get",.str "fetch",.str "clock",.str "hear"]) h= .ok (.bl (decide (a∈(["get", "fetch", "clock", "hear"]:List Str)))) h:=we (ss:=["get", "fetch", "clock", "hear"])
theorem vX {h:PH} {L:List Str} {ps:Pk} (hL:L.length<=20) (hp:fB L ps):eF [kL ps] h= .ok (.ref h.length) (h++[.dct (bN ps)]):=by
 have hz:(ps.map fg).length < 16777216:=by rw [List.length_map];have:=hp.len;omega
 unfold kL;rw [uP,jB,qA hz,jY hp.nd]
theorem fB.Kf {L:List Str} {ps:Pk} (hp:fB L ps):rY L ps:=⟨hp.nd,fun q m=>⟨(hp.mem q m).1,by have:=(hp.mem q m).2.1;omega,(hp.mem q m).2.2⟩⟩
section
variable {pg:Tb} (T:dc pg)
include T
theorem gF (k:Nat) (h:PH) {L:List Str} (hL:L.length<=20) {rs:List Rw} (hr: ∀ r∈rs,cV L rs.length r) {s:aO} (hs:cx L rs s) (h1:a8 rs s=true):run pg (k+10) "_law_touch" [aA rs,aj s] h= .ok (bH rs s) h:=by
 have i0: ∀ g,aq (aj s) (.int 0) g= .ok (.int s.row) g:=fun g=>rfl
 have i1: ∀ g,aq (aj s) (.int 1) g= .ok (kL s.ps) g:=fun g=>rfl
 have rl: ∀ g,bE [aA rs] g= .ok (.int rs.length) g:=fun g=>by unfold aA;rw [len_T,List.length_map]
 rw [run_eq T.qg rfl]
 cases e:rs[s.row]? with
 | none =>
  have:s.row=rs.length:=by have:=List.getElem?_eq_none_iff.mp e;have:=hs.le;omega
  have t1:bH rs s= .non:=by unfold bH;rw [e]
  simp? (disch:=omega) only [bI,ck,t1,this,i0,rl]
 | some r =>
  have hlt:s.row < rs.length:=(List.getElem?_eq_some_iff.mp e).1
  have ne: ¬ (s.row:Int)=(rs.length:Int):=by omega
  have ix: ∀ g,aq (aA rs) (.int s.row) g= .ok (bV r) g:=fun g=>kf (d8 e)
  have hrr:=hr r (List.mem_of_getElem? e)
  have t1:bH rs s=cm s r:=by unfold bH;rw [e]
  have ho:own s.held r=false:=by unfold a8 at h1;rw [e] at h1;simpa using h1
  have pd:=vX (h:=h) hL hs.pk
  have w: ∀ e0:Sm,nF e0->run pg (k+9) "_law_worth" [ef e0,.ref h.length] (h++[.dct (bN s.ps)])= .ok (.int (e0.val (fP s.ps))) (h++[.dct (bN s.ps)]):=fun e0 he=>su T hs.pk.Kf.yC e0 (k+8) _ bp he.1 (by have:=he.2;omega)
  rw [t1]
  cases r with
  | let_ x e0=>exact nomatch ho
  | leap x e0=>exact nomatch ho
  | put b e0=>simp? (disch:=omega) only [bI,ck,i0,i1,rl,ne,ix,bV,Rw.w,Rw.ps,yP,List.mem_cons,List.not_mem_nil,or_false,or_true,true_or,false_or,pd,w e0 hrr,cm];exact aN rfl
  | send b e0=>simp? (disch:=omega) only [bI,ck,i0,i1,rl,ne,ix,bV,Rw.w,Rw.ps,yP,List.mem_cons,List.not_mem_nil,or_false,or_true,true_or,false_or,pd,w e0 hrr,cm];exact aN rfl
  | say b e0=>simp? (disch:=omega) only [bI,ck,i0,i1,rl,ne,ix,bV,Rw.w,Rw.ps,yP,List.mem_cons,List.not_mem_nil,or_false,or_true,true_or,false_or,pd,w e0 hrr,cm];exact aN rfl
  | _=>simp? (disch:=omega) only [bI,ck,i0,i1,rl,ne,ix,bV,Rw.w,Rw.ps,yP,List.mem_cons,List.not_mem_nil,or_false,or_true,true_or,false_or,HD,G9,cm]
end
end K12
end
section
open PySem L2 P3
set_option maxHeartbeats 1000000
namespace K12
theorem sE {ss:List Str} (h:ss.Pairwise gQ):bf ss=ss:=List.mergeSort_of_pairwise (h.imp fun {a b} z=>by unfold lj;simp [iH z])
theorem qP {ss:List Str} (h:ss.Pairwise gQ):ss.Nodup:=h.imp fun {a b} z e=>by subst e;exact gH _ z
theorem qr (l:Str): ∀ {ss:List Str},ss.Nodup->wu ss l=ss.filter fun z=> !decide (z=l)
 | [],_=>rfl
 | q::r,nd=>by
  rw [List.nodup_cons] at nd
  unfold wu
  by_cases z:q=l
  · subst z
    rw [List.idxOf_cons_self,List.filter_cons_of_neg (by simp)]
    show r=_
    exact (List.filter_eq_self.mpr fun a m=>by simp;rintro rfl;exact nd.1 m).symm
  · have:(q::r).idxOf l=r.idxOf l+1:=by rw [List.idxOf_cons,show (q == l)=false by simpa using z];rfl
    rw [this,List.filter_cons_of_pos (by simpa using z),List.eraseIdx_cons_succ]
    congr 1
    exact qr l nd.2
noncomputable def yt:MS:=ag (ak (eB aJ (aa (iA 1 (iE (eB bG (aa (ab 4) ae))) (gN 7) (ar (af uh (af aq (ab 4) (ab 7)) (eC (.int 0)))) (ay (aa (ab 7) (aa (af aq (ab 4) (ab 7)) ae)))) ae)) (gN 6))
  (aB (ah "_law_rested" (aa (ab 0) (aa (ay (aa (af aG (af aq (ab 1) (eC (.int 0))) (eC (.int 1))) (aa (ab 6) (aa (eB aJ (aa (eB bG (aa (ab 5) ae)) ae)) ae)))) ae))))
section
variable {pg:Tb} (T:dc pg)
include T
theorem sT (k:Nat) (h:PH) {L:List Str} (hL:L.length<=20) {rs:List Rw} (hr: ∀ r∈rs,cV L rs.length r) {s:aO} (hlt:s.row < rs.length) {D ps:Pk} {hl:List Str} (v r:PV) (u6:Option PV) (hD:rY L D) (hp:fB L ps) (hf: ∀ x,fP D x=fP ps x) (hz:hl.length < 64) :
  fin h (yt (run pg (k+10)) [some (aA rs),some (aj s),some v,some r,some (.ref h.length),some (.ref (h.length+1)),u6] (h++[.dct (bN D),.lst (hl.map PV.str)]))= .ok (aj (az rs 200 ⟨s.row+1,ps,bf hl⟩)) h:=by
 have dl:=hD.len
 have so:=uX (h:=h++[.dct (bN D),.lst (hl.map PV.str)]) (n:=h.length) bp (show D.length < 64 by omega)
 generalize hN:bf (D.map (·.1))=N at so
 have fi:gR.eX ⟨some (h.length+(0+1+1)),N.map PV.str⟩ (h++[.dct (bN D),.lst (hl.map PV.str),.lst (N.map PV.str)])=true:=iK (by rw [aH];rfl)
 have e':(h++[PO.dct (bN D),.lst (hl.map PV.str),.lst (N.map PV.str)])[h.length]?=some (.dct (bN D)):=bp
 have lc:P3.fY ⟨some (h.length+(0+1+1)),N.map PV.str⟩ (bj 1 (gN 7) (ar (af uh (af aq (ab 4) (ab 7)) (eC (.int 0)))) (ay (aa (ab 7) (aa (af aq (ab 4) (ab 7)) ae))) (run pg (k+10)) [some (aA rs),some (aj s),some v,some r,some (.ref h.length),some (.ref (h.length+1)),u6]) (N.map PV.str) [] (h++[.dct (bN D),.lst (hl.map PV.str),.lst (N.map PV.str)])= .ok (ps.map fg) (h++[.dct (bN D),.lst (hl.map PV.str),.lst (N.map PV.str)]):=by
  refine (dA (f:=fun x:Str=>if 0 < fP D x then some (fg (x,fP D x)) else none) (g:=PV.str) fi N [] (fun x m=>?_) (by rw [<- hN,(cI _).length_eq];simp;omega)).trans (by rw [lW,<- hN,vF hD hp hf,List.nil_append])
  have hv:=zG (D:=D) (x:=x) (by rw [<- hN] at m;exact (cI _).mem_iff.mp m)
  simp? (disch:=omega) only [e',hv,fg]
  split<;>rfl
 have sh:=Fj (h:=h++[PO.dct (bN D),.lst (hl.map PV.str),.lst (N.map PV.str),.lst (ps.map fg)]) (n:=h.length+1) (ss:=hl) (by rw [aH];rfl) hz
 have le:=iT T k (h++[PO.dct (bN D),.lst (hl.map PV.str),.lst (N.map PV.str),.lst (ps.map fg),.lst ((bf hl).map PV.str)]) hL hr (s:=⟨s.row+1,ps,bf hl⟩) ⟨hp,hlt⟩
 have i0: ∀ g,aq (aj s) (.int 0) g= .ok (.int s.row) g:=fun g=>rfl
 have le':run pg (k+10) "_law_rested" [aA rs,.tup [.int ((s.row:Int)+1),.tup (ps.map fg),.tup ((bf hl).map PV.str)]] (h++[PO.dct (bN D),.lst (hl.map PV.str),.lst (N.map PV.str),.lst (ps.map fg),.lst ((bf hl).map PV.str)])=_:=le
 simp? (disch:=omega) only [yt,so,lc,sh,i0,le']
 exact aN (dS _)
theorem iW (k:Nat) (h:PH) {L:List Str} (hL:L.length<=20) {rs:List Rw} (hr: ∀ r∈rs,cV L rs.length r) {s:aO} (hs:cx L rs s) (hst:s.held.Pairwise gQ) (hh:s.held.length<=60) {r:Rw} (e:rs[s.row]?=some r) (ho:own s.held r=false) {v:PV} (hv: ∀ x,r.aV=some x-> ∃ i:Int,v= .int i∧0<=i∧i<=999) :
  run pg (k+11) "_law_behind" [aA rs,aj s,v] h= .ok (aj (az rs 200 (after s v r))) h:=by
 have i0: ∀ g,aq (aj s) (.int 0) g= .ok (.int s.row) g:=fun g=>rfl
 have i1: ∀ g,aq (aj s) (.int 1) g= .ok (kL s.ps) g:=fun g=>rfl
 have i2: ∀ g,aq (aj s) (.int 2) g= .ok (.tup (s.held.map PV.str)) g:=fun g=>rfl
 have hlt:s.row < rs.length:=(List.getElem?_eq_some_iff.mp e).1
 have ix: ∀ g,aq (aA rs) (.int s.row) g= .ok (bV r) g:=fun g=>kf (d8 e)
 have hrr:=hr r (List.mem_of_getElem? e)
 have pd:=vX (h:=h) hL hs.pk
 have pn:(bN s.ps).length < 16777216:=by unfold bN;rw [List.length_map];have:=hs.pk.len;omega
 have hn:(s.held.map PV.str).length < 16777216:=by rw [List.length_map];omega
 rw [run_eq T.n6 rfl]
 have hd: ∀ (D:Pk) (hl:List Str),(∀ rest:MS,(ag (ak (af aq (ab 0) (af aq (ab 1) (eC (.int 0)))) (gN 3))
  (ag (ak (eB eF (aa (af aq (ab 1) (eC (.int 1))) ae)) (gN 4))
  (ag (ak (eB oQ (aa (af aq (ab 1) (eC (.int 2))) ae)) (gN 5))
  (ag (bu (ar (af ju (af aq (ab 3) (eC (.int 0))) (ay (aa (eC (.str "get")) (aa (eC (.str "fetch")) (aa (eC (.str "clock")) (aa (eC (.str "lot")) (aa (eC (.str "hear")) ae)))))))) (jP iP (ab 4) (af aq (ab 3) (eC (.int 1))) (ab 2)) bD)
  (ag (bu (ar (af cu (af aq (ab 3) (eC (.int 0))) (eC (.str "take")))) (dN (eM bT cC (ab 5) (aa (af aq (ab 3) (eC (.int 1))) ae))) bD)
  (ag (bu (ar (af cu (af aq (ab 3) (eC (.int 0))) (eC (.str "free")))) (dN (eM iG cC (ab 5) (aa (af aq (ab 3) (eC (.int 1))) ae))) bD)
  rest)))))) (run pg (k+10)) [some (aA rs),some (aj s),some v,none,none,none,none] h=rest (run pg (k+10)) [some (aA rs),some (aj s),some v,some (bV r),some (.ref h.length),some (.ref (h.length+1)),none] (h++[.dct (bN D),.lst (hl.map PV.str)])) ->
   ∀ ps:Pk,rY L D->fB L ps->(∀ x,fP D x=fP ps x)->hl.length < 64->after s v r=⟨s.row+1,ps,bf hl⟩ ->
   fin h (cy.body (run pg (k+10)) ([aA rs,aj s,v].map some++List.replicate cy.nl none) h)= .ok (aj (az rs 200 (after s v r))) h:=fun D hl q ps a1 a2 a3 a4 a5=>by
  rw [a5]
  exact (congrArg (fin h) (q yt)).trans (sT T k h hL hr hlt v (bV r) none a1 a2 a3 a4)
 have pk: ∀ x,r.aV=some x->x∈L-> ∃ i:Int,v= .int i∧fB L (lay s.ps x i)∧rY L (putD s.ps x i)∧ ∀ y,fP (putD s.ps x i) y=fP (lay s.ps x i) y:=fun x hx hxL=>by
  obtain ⟨i,rfl,h0,h9⟩:=hv x hx
  exact ⟨i,rfl,p7 hs.pk hxL h0 h9,vN hs.pk.Kf hxL h0 h9,fun y=>by rw [uV,AA hs.pk.nd]⟩
 have sid:=sE hst
 cases r with
 | get x b =>
  obtain ⟨i,rfl,q1,q2,q3⟩:=pk x rfl hrr
  refine hd (putD s.ps x i) s.held (fun rest=>?_) _ q2 q1 q3 (by omega) (by rw [sid];rfl)
  simp? (disch:=omega) only [i0,i1,i2,ix,pd,bV,Rw.w,Rw.ps,Ci,List.mem_cons,List.not_mem_nil,or_false,or_true,true_or,false_or,hU pn,iw]
 | fetch x b =>
  obtain ⟨i,rfl,q1,q2,q3⟩:=pk x rfl hrr
  refine hd (putD s.ps x i) s.held (fun rest=>?_) _ q2 q1 q3 (by omega) (by rw [sid];rfl)
  simp? (disch:=omega) only [i0,i1,i2,ix,pd,bV,Rw.w,Rw.ps,Ci,List.mem_cons,List.not_mem_nil,or_false,or_true,true_or,false_or,hU pn,iw]
 | clock x =>
  obtain ⟨i,rfl,q1,q2,q3⟩:=pk x rfl hrr
  refine hd (putD s.ps x i) s.held (fun rest=>?_) _ q2 q1 q3 (by omega) (by rw [sid];rfl)
  simp? (disch:=omega) only [i0,i1,i2,ix,pd,bV,Rw.w,Rw.ps,Ci,List.mem_cons,List.not_mem_nil,or_false,or_true,true_or,false_or,hU pn,iw]
 | lot x n =>
  obtain ⟨i,rfl,q1,q2,q3⟩:=pk x rfl hrr.1
  refine hd (putD s.ps x i) s.held (fun rest=>?_) _ q2 q1 q3 (by omega) (by rw [sid];rfl)
  simp? (disch:=omega) only [i0,i1,i2,ix,pd,bV,Rw.w,Rw.ps,Ci,List.mem_cons,List.not_mem_nil,or_false,or_true,true_or,false_or,hU pn,iw]
 | hear x b =>
  obtain ⟨i,rfl,q1,q2,q3⟩:=pk x rfl hrr
  refine hd (putD s.ps x i) s.held (fun rest=>?_) _ q2 q1 q3 (by omega) (by rw [sid];rfl)
  simp? (disch:=omega) only [i0,i1,i2,ix,pd,bV,Rw.w,Rw.ps,Ci,List.mem_cons,List.not_mem_nil,or_false,or_true,true_or,false_or,hU pn,iw]
 | take l =>
  refine hd s.ps (s.held++[l]) (fun rest=>?_) _ hs.pk.Kf hs.pk (fun _=>rfl) (by simp;omega) rfl
  simp? (disch:=omega) only [i0,i1,i2,ix,pd,bV,Rw.w,Rw.ps,Ci,List.mem_cons,List.not_mem_nil,or_false,or_true,true_or,false_or,ko hn,List.map_append]
 | free l =>
  have hl:l∈s.held:=by simpa [own] using ho
  have rm:=ML (h:=h++[PO.dct (bN s.ps),.lst (s.held.map PV.str)]) (n:=h.length+(0+1)) (by rw [aH];rfl) hl
  refine hd s.ps (wu s.held l) (fun rest=>?_) _ hs.pk.Kf hs.pk (fun _=>rfl) ?_ ?_
  · simp? (disch:=omega) only [i0,i1,i2,ix,pd,bV,Rw.w,Rw.ps,Ci,List.mem_cons,List.not_mem_nil,or_false,or_true,true_or,false_or,rm]
  · rw [qr l (qP hst)];have:=List.length_filter_le (fun z=> !decide (z=l)) s.held;omega
  · rw [qr l (qP hst),sE (hst.sublist List.filter_sublist)];rfl
 | let_ x e0=>exact nomatch ho
 | leap x e0=>exact nomatch ho
 | _ =>
  refine hd s.ps s.held (fun rest=>?_) _ hs.pk.Kf hs.pk (fun _=>rfl) (by omega) (by rw [sid];rfl)
  simp? (disch:=omega) only [i0,i1,i2,ix,pd,bV,Rw.w,Rw.ps,Ci,List.mem_cons,List.not_mem_nil,or_false,or_true,true_or,false_or]
end
end K12
end
section
open PySem L2 P3
set_option maxHeartbeats 1000000
namespace K12
theorem ee {S:aO} {r:Rw} (ho:own S.held r=false): ∃ th vl,cm S r= .tup [.str r.w,th,vl]∧(vl= .non∨ ∃ i,vl= .int i)∧(∀ x n,r= .lot x n->vl= .int n):=by
 cases r with
 | let_ _ _=>exact nomatch ho
 | leap _ _=>exact nomatch ho
 | put b e=>exact ⟨_,_,rfl,.inr ⟨_,rfl⟩,fun _ _ q=>nomatch q⟩
 | send b e=>exact ⟨_,_,rfl,.inr ⟨_,rfl⟩,fun _ _ q=>nomatch q⟩
 | say b e=>exact ⟨_,_,rfl,.inr ⟨_,rfl⟩,fun _ _ q=>nomatch q⟩
 | lot x n=>exact ⟨_,_,rfl,.inr ⟨_,rfl⟩,fun _ _ q=>by cases q;rfl⟩
 | _=>exact ⟨_,_,rfl,.inl rfl,fun _ _ q=>nomatch q⟩
theorem ub {S:aO} {r:Rw} (ho:own S.held r=false):(∃ x n,r= .lot x n)∨(¬ r.w= "lot" ∧(r.w∈(["get", "fetch", "clock", "hear"]:List Str)↔r.aV.isSome=true)):=by
 cases r with
 | let_ _ _=>exact nomatch ho
 | leap _ _=>exact nomatch ho
 | lot x n=>exact .inl ⟨x,n,rfl⟩
 | _=>exact .inr (by simp only [Rw.w,Rw.aV,Option.isSome_some,Option.isSome_none];decide +kernel)
theorem D5 {n w c:Int} (hn:2<=n∧n<=1000) (w0:0<=w) (w1:w < n) (c0:0<=c) (c1:c < 3): ∃ v:Int,0<=v∧v<=999∧eJ [PV.int 0,.int (n - 1),.int w] c=some (.int v):=by
 rcases (show c=0∨c=1∨c=2 by omega) with rfl | rfl | rfl
 · exact ⟨0,by decide,by decide,wJ⟩
 · exact ⟨n - 1,by omega,by omega,B9⟩
 · exact ⟨w,by omega,by omega,IL⟩
theorem Ic {w c:Int} (w0:0<=w) (w1:w < 1000) (c0:0<=c) (c1:c < 4): ∃ v:Int,0<=v∧v<=999∧eJ [PV.int 0,.int 1,.int 999,.int w] c=some (.int v):=by
 rcases (show c=0∨c=1∨c=2∨c=3 by omega) with rfl | rfl | rfl | rfl
 · exact ⟨0,by decide,by decide,wJ⟩
 · exact ⟨1,by decide,by decide,B9⟩
 · exact ⟨999,by decide,by decide,IL⟩
 · exact ⟨w,by omega,by omega,LI⟩
section
variable {pg:Tb} (T:dc pg)
include T
theorem qI (j:Nat) {ns:List Int} (hn:ns.length<=63) {L:List Str} {n:Nat} {S:aO} {r:Rw} (hr:cV L n r) (ho:own S.held r=false) (k:Int) (o:Option Int) (g:PH) (k0:0<=k) (k9:k+10<=1000000) :
  ∃ (v:PV) (k':Int),(∀ x,r.aV=some x-> ∃ i:Int,v= .int i∧0<=i∧i<=999)∧(r.aV=none->v= .non)∧k<=k'∧k'<=k+10∧run pg (j+3) "_law_value" [.ref 1,cm S r] (bB ns::bh k o::g)= .ok v (bB ns::bh k' o::g):=by
 obtain ⟨th,vl,e,_,hv⟩:=ee ho
 rw [e]
 rcases ub ho with ⟨x,m,rfl⟩ | ⟨nl,km⟩
 · rw [hv x m rfl]
   obtain ⟨w,w0,w1,ew⟩:=ba T j g hn o (k:=k) m k0 (by omega) (by have:=hr.2;omega) (by have:=hr.2;omega)
   obtain ⟨c,c0,c1,ec⟩:=ba T j (g++[.lst [.int 0,.int (m - 1),.int w]]) hn o (k:=k+1) 3 (by omega) (by omega) (by decide) (by decide)
   obtain ⟨v,v0,v9,ev⟩:=D5 hr.2 w0 w1 c0 c1
   refine ⟨.int v,k+1+1,fun y q=>⟨v,rfl,v0,v9⟩,(fun q=>nomatch q),by omega,by omega,?_⟩
   rw [run_eq T.gz rfl]
   simp? (disch:=omega) only [cw,dB,Rw.w,ew,ec,ev]
   exact cM rfl
 · cases hp:r.aV with
   | none =>
    have nm: ¬ r.w∈(["get", "fetch", "clock", "hear"]:List Str):=fun z=>by have:=km.mp z;rw [hp] at this;exact nomatch this
    refine ⟨.non,k,(fun y q=>nomatch q),fun _=>rfl,by omega,by omega,?_⟩
    rw [run_eq T.gz rfl]
    simp? (disch:=omega) only [cw,dB,nl,in4,nm]
   | some y =>
    have nm:r.w∈(["get", "fetch", "clock", "hear"]:List Str):=km.mpr (by rw [hp];rfl)
    obtain ⟨w,w0,w1,ew⟩:=ba T j g hn o (k:=k) 1000 k0 (by omega) (by decide) (by decide)
    obtain ⟨c,c0,c1,ec⟩:=ba T j (g++[.lst [.int 0,.int 1,.int 999,.int w]]) hn o (k:=k+1) 4 (by omega) (by omega) (by decide) (by decide)
    obtain ⟨v,v0,v9,ev⟩:=Ic w0 w1 c0 c1
    refine ⟨.int v,k+1+1,fun z q=>⟨v,rfl,v0,v9⟩,(fun q=>nomatch q),by omega,by omega,?_⟩
    rw [run_eq T.gz rfl]
    simp? (disch:=omega) only [cw,dB,nl,in4,nm,ew,ec,ev]
    exact cM rfl
end
end K12
end
section
open PySem L2 P3
set_option maxHeartbeats 1000000
namespace K12
theorem mE {f:Nat->Option PyData}: ∀ vs:List Int,cE f (vs.map PV.int)=some (vs.map PyData.int)
 | []=>rfl
 | x::r=>by rw [List.map_cons,cE,mE r];rfl
theorem lay_ints: ∀ vs:List Int,PyData.canLayAll0 (vs.map PyData.int)=true
 | []=>rfl
 | x::r=>by rw [List.map_cons,PyData.canLayAll0,lay_ints r];rfl
theorem DS {h:PH} {n m:Nat} {vs:List Int} (e1:h[n]?=some (.lst (vs.map PV.int))) (e2:h[m]?=some (.lst [])):cu (.ref n) (.ref m) h= .ok (.bl (decide (vs=[]))) h:=by
 have d1:dat 6 h (.ref n)=some (.list (vs.map PyData.int)):=by unfold dat;simp only [kM,e1,mE,Option.map_some]
 have d2:dat 6 h (.ref m)=some (.list []):=by unfold dat;simp only [kM,e2,cE,Option.map_some]
 have sc:ic (.ref n) (.ref m)=false:=rfl
 have al:alike (.ref n) (.ref m) h=some (decide (vs=[])):=by
  unfold alike
  rw [sc,d1,d2]
  have c1:(PyData.list (vs.map PyData.int)).canLay0=true:=by rw [PyData.canLay0];exact lay_ints vs
  have c2:(PyData.list []).canLay0=true:=rfl
  have c3:min (PyData.list (vs.map PyData.int)).depth (PyData.list []).depth<=64:=Nat.le_trans (Nat.min_le_right _ _) (by decide)
  simp only [if_false,Bool.false_eq_true,c1,c2,c3,and_self,if_true]
  cases vs<;>rfl
 unfold cu;rw [al]
noncomputable def told (s:aO) (r:Rw) (v:PV):PV:=match cm s r with
 | .tup [a,b,_]=> .tup [a,b,v]
 | x=>x
noncomputable def gy (s:aO) (r:Rw):PV:=match cm s r with
 | .tup [_,_,c]=>c
 | _=> .non
noncomputable def dH (rs:List Rw):Nat->aO->List Int->List PV × aO
 | 0,s,_=>([],s)
 | n+1,s,vs=>match rs[s.row]? with
  | none=>([],s)
  | some r=>match r.aV,vs with
   | some _,[]=>([],s)
   | some _,v::vs=>let q:=dH rs n (az rs 200 (after s (.int v) r)) vs;(told s r (.int v)::q.1,q.2)
   | none,vs=>let q:=dH rs n (az rs 200 (after s (gy s r) r)) vs;(told s r (gy s r)::q.1,q.2)
structure rK (L M:List Str) (rs:List Rw) (s:aO):Prop where
 ok:cx L rs s
 rest:a8 rs s=true
 zN:s.held.Pairwise gQ
 sub: ∀ x∈s.held,x∈M
noncomputable def iZ (M:List Str) (rs:List Rw):Prop:= ∀ l,Rw.take l∈rs->l∈M
theorem rK.len {L M:List Str} {rs:List Rw} {s:aO} (h:rK L M rs s):s.held.length<=M.length:=List.Nodup.length_le_of_subset (qP h.zN) h.sub
theorem rK.idle {L M:List Str} {rs:List Rw} {s:aO} (h:rK L M rs s) {r:Rw} (e:rs[s.row]?=some r):own s.held r=false:=by
 have h1:=h.rest
 unfold a8 at h1;rw [e] at h1;simpa using h1
theorem y0 {L:List Str} {rs:List Rw} {s:aO} {r:Rw} {v:PV} (hs:cx L rs s) (hr:cV L rs.length r) (e:rs[s.row]?=some r) (hv: ∀ x,r.aV=some x-> ∃ i:Int,v= .int i∧0<=i∧i<=999):cx L rs (after s v r):=by
 have hlt:s.row < rs.length:=(List.getElem?_eq_some_iff.mp e).1
 have pk: ∀ x,r.aV=some x->x∈L->fB L (lay s.ps x (PV.num v)):=fun x q hx=>by
  obtain ⟨i,rfl,h0,h9⟩:=hv x q
  exact p7 hs.pk hx h0 h9
 cases r with
 | get x b=>exact ⟨pk x rfl hr,hlt⟩
 | fetch x b=>exact ⟨pk x rfl hr,hlt⟩
 | clock x=>exact ⟨pk x rfl hr,hlt⟩
 | lot x n=>exact ⟨pk x rfl hr.1,hlt⟩
 | hear x d=>exact ⟨pk x rfl hr,hlt⟩
 | _=>exact ⟨hs.pk,hlt⟩
theorem rK.next {L M:List Str} {rs:List Rw} {s:aO} (h:rK L M rs s) (hM:iZ M rs) (hr: ∀ r∈rs,cV L rs.length r) {r:Rw} (e:rs[s.row]?=some r) {v:PV} (hv: ∀ x,r.aV=some x-> ∃ i:Int,v= .int i∧0<=i∧i<=999):rK L M rs (az rs 200 (after s v r)):=by
 have hm:=List.mem_of_getElem? e
 refine ⟨jy hr 200 _ (y0 h.ok (hr r hm) e hv),gJ 200 _,?_,?_⟩<;>rw [fh]
 · cases r with
   | take l =>
    have hl: ¬ l∈s.held:=by simpa [own] using h.idle e
    exact pL (List.nodup_append.mpr ⟨qP h.zN,by simp,fun a ha b hb q=>hl (by rw [<- List.mem_singleton.mp hb,<- q];exact ha)⟩)
   | free l=>exact h.zN.sublist List.filter_sublist
   | _=>exact h.zN
 · cases r with
   | take l =>
    intro x m
    rcases List.mem_append.1 ((cI _).mem_iff.mp m) with m | m
    · exact h.sub x m
    · rw [List.mem_singleton.mp m];exact hM l hm
   | free l=>exact fun x m=>h.sub x (List.mem_filter.mp m).1
   | _=>exact h.sub
theorem jJ {s:aO} {r:Rw} {th vl v:PV} (e:cm s r= .tup [.str r.w,th,vl]):told s r v= .tup [.str r.w,th,v]∧gy s r=vl:=by
 unfold told gy;rw [e];exact ⟨rfl,rfl⟩
theorem pj {S:aO} {r:Rw} (ho:own S.held r=false):(r.w∈(["get", "fetch", "clock", "lot", "hear"]:List Str))↔r.aV.isSome=true:=by
 cases r with
 | let_ _ _=>exact nomatch ho
 | leap _ _=>exact nomatch ho
 | _=>simp only [Rw.w,Rw.aV,Option.isSome_some,Option.isSome_none];decide +kernel
section
variable {rs:List Rw} {n:Nat} {s:aO} {r:Rw} {vs:List Int} {v:Int} {y:Str}
theorem dW (e:rs[s.row]?=none):dH rs (n+1) s vs=([],s):=by rw [dH,e]
theorem dZ (e:rs[s.row]?=some r) (hp:r.aV=none):dH rs (n+1) s vs=(told s r (gy s r)::(dH rs n (az rs 200 (after s (gy s r) r)) vs).1,(dH rs n (az rs 200 (after s (gy s r) r)) vs).2):=by rw [dH,e];simp only [hp]
theorem fH (e:rs[s.row]?=some r) (hp:r.aV=some y):dH rs (n+1) s []=([],s):=by rw [dH,e];simp only [hp]
theorem dw (e:rs[s.row]?=some r) (hp:r.aV=some y):dH rs (n+1) s (v::vs)=(told s r (.int v)::(dH rs n (az rs 200 (after s (.int v) r)) vs).1,(dH rs n (az rs 200 (after s (.int v) r)) vs).2):=by rw [dH,e];simp only [hp]
end
end K12
end
section
open PySem L2 P3
set_option maxHeartbeats 1000000
namespace K12
noncomputable def cT:MT:=(ar (af xG (eB bE (aa (ab 5) ae)) (eC (.int 60))))
noncomputable def cB:MS:=(ag (ak (ah "touch_of" (aa (ab 0) (aa (ab 1) (aa (ab 4) ae)))) (gN 7)) (ag (bu (ar (pQ (cZ false) (ab 7))) j5 bD) (ag (ak (af aq (ab 7) (eC (.int 2))) (gN 8)) (ag (bu (ar (af ju (af aq (ab 7) (eC (.int 0))) (eC (.ktup [(.str "get"),(.str "fetch"),(.str "clock"),(.str "lot"),(.str "hear")])))) (ag (bu (ar (af cu (ab 6) (eB bE (aa (ab 3) ae)))) j5 bD) (ag (ak (af aq (ab 3) (ab 6)) (gN 8)) (ak (af rA (ab 6) (eC (.int 1))) (gN 6)))) bD) (ag (dN (eM bT cC (ab 5) (aa (ay (aa (af aq (ab 7) (eC (.int 0))) (aa (af aq (ab 7) (eC (.int 1))) (aa (ab 8) ae)))) ae))) (ak (ah "seat_behind" (aa (ab 0) (aa (ab 1) (aa (ab 4) (aa (ab 8) ae))))) (gN 4)))))))
noncomputable def lT:MT:=(kF (ar (pQ (cZ true) (ab 5))) (ar (af xG (eB bE (aa (ab 3) ae)) (eC (.int 60)))))
noncomputable def lB:MS:=(ag (ak (eC .non) (gN 6)) (ag (bu (ar (af ju (af aq (ab 5) (eC (.int 0))) (ay (aa (eC (.str "put")) (aa (eC (.str "send")) (aa (eC (.str "say")) ae)))))) (ak (af aq (ab 5) (eC (.int 2))) (gN 6)) (bu (ar (af gE (af aq (ab 5) (eC (.int 0))) (ay (aa (eC (.str "take")) (aa (eC (.str "free")) ae))))) (ag (bu (ar (af cu (ab 4) (aQ ae))) (aB (ay (aa (eB aJ (aa (ab 3) ae)) (aa (ab 1) ae)))) bD) (ak (eM oX cC (ab 4) (aa (eC (.int 0)) ae)) (gN 6))) bD)) (ag (dN (eM bT cC (ab 3) (aa (ay (aa (af aq (ab 5) (eC (.int 0))) (aa (af aq (ab 5) (eC (.int 1))) (aa (ab 6) ae)))) ae))) (ag (ak (ah "_law_behind" (aa (ab 0) (aa (ab 1) (aa (ab 6) ae)))) (gN 1)) (ak (ah "_law_touch" (aa (ab 0) (aa (ab 1) ae))) (gN 5))))))
noncomputable def lR:MS:=(aB (ay (aa (eB aJ (aa (ab 3) ae)) (aa (ab 1) ae))))
theorem Aq {t:ax->PH->RV Bool} {b:ax->PH->RV Fl} {f:Nat} {e e1:ax} {h h1 h2:PH} (ht:t e h= .ok true h1) (hb:b e h1= .ok (.bk e1) h2):cq t b (f+1) e h= .ok (.nx e1) h2:=by
 rw [cq,ht,bR,if_pos rfl,hb,bR]
theorem Hi {t:ax->PH->RV Bool} {b:ax->PH->RV Fl} {f:Nat} {e:ax} {v:PV} {h h1 h2:PH} (ht:t e h= .ok true h1) (hb:b e h1= .ok (.rt v) h2):cq t b (f+1) e h= .ok (.rt v) h2:=by
 rw [cq,ht,bR,if_pos rfl,hb,bR]
theorem Nh {vs:List Int} {u:Nat} {v:Int} {r:List Int} (h:vs.drop u=v::r):eJ (vs.map PV.int) (u:Int)=some (.int v)∧vs.drop (u+1)=r∧u < vs.length:=by
 have e:vs[u]?=some v:=by rw [<- List.head?_drop,h];rfl
 exact ⟨P3.d6 rfl (by rw [List.getElem?_map,e];rfl),by rw [<- List.drop_drop,h];rfl,(List.getElem?_eq_some_iff.mp e).1⟩
section
variable {pg:Tb} (T:dc pg)
include T
theorem rh (k:Nat) (h:PH) {L M:List Str} (hL:L.length<=20) {p:PV} {j:Int} {rs:List Rw} (ha:fS p j rs) (hr: ∀ r∈rs,cV L rs.length r) (hM:iZ M rs) (lM:M.length<=60) {vs:List Int} (hv: ∀ v∈vs,0<=v∧v<=999) (s0:PV): ∀ (m:Nat) (s:aO) (ts:List PV) (u f:Nat) (u7 u8:Option PV),ts.length+m=60->m+2<=f->rK L M rs s->u<=vs.length-> ∃ u6' u7' u8':Option PV,
  cq (cT (run pg (k+11))) (cB (run pg (k+11))) f [some p,some (.int j),some s0,some (.tup (vs.map PV.int)),some (aj s),some (.ref h.length),some (.int u),u7,u8] (h++[.lst ts]) =
  .ok (.nx [some p,some (.int j),some s0,some (.tup (vs.map PV.int)),some (aj (dH rs m s (vs.drop u)).2),some (.ref h.length),u6',u7',u8']) (h++[.lst (ts++(dH rs m s (vs.drop u)).1)]):=by
 intro m
 induction m with
 | zero =>
  intro s ts u f u7 u8 hm hf hs hu
  obtain ⟨f,rfl⟩: ∃ z,f=z+1:=⟨f - 1,by omega⟩
  have h60: ¬ (ts.length:Int) < 60:=by omega
  refine ⟨some (.int u),u7,u8,?_⟩
  rw [gv (h1:=h++[.lst ts]) ?_]
  · simp only [dH,List.append_nil]
  · simp? (disch:=omega) only [cT,h60]
 | succ m ih =>
  intro s ts u f u7 u8 hm hf hs hu
  obtain ⟨f,rfl⟩: ∃ z,f=z+1:=⟨f - 1,by omega⟩
  have h60:(ts.length:Int) < 60:=by omega
  have ht:cT (run pg (k+11)) [some p,some (.int j),some s0,some (.tup (vs.map PV.int)),some (aj s),some (.ref h.length),some (.int u),u7,u8] (h++[.lst ts])= .ok true (h++[.lst ts]):=by
   simp? (disch:=omega) only [cT,h60]
  have t1:run pg (k+11) "touch_of" [p,.int j,aj s] (h++[.lst ts])=_:=sY T (k+1) _ hL ha hr hs.ok
  have hz:ts.length < 16777216:=by omega
  cases e:rs[s.row]? with
  | none =>
   have tn:bH rs s= .non:=by unfold bH;rw [e]
   rw [tn] at t1
   refine ⟨some (.int u),some .non,u8,?_⟩
   rw [dW e,List.append_nil]
   refine Aq ht ?_
   simp? (disch:=omega) only [cB,t1]
  | some r =>
   have ho:=hs.idle e
   obtain ⟨th,vl,te,_,_⟩:=ee ho
   have tr:bH rs s= .tup [.str r.w,th,vl]:=by unfold bH;rw [e];exact te
   rw [tr] at t1
   have ink: ∀ g,ju (.str r.w) (.ktup [(.str "get"),(.str "fetch"),(.str "clock"),(.str "lot"),(.str "hear")]) g= .ok (.bl (decide (r.w∈(["get", "fetch", "clock", "lot", "hear"]:List Str)))) g:=fun g=>in_K (ss:=["get", "fetch", "clock", "lot", "hear"])
   have hh:s.held.length<=60:=Nat.le_trans hs.len lM
   cases hp:r.aV with
   | none =>
    have nk: ¬ r.w∈(["get", "fetch", "clock", "lot", "hear"]:List Str):=fun z=>by have:=(pj ho).mp z;rw [hp] at this;exact nomatch this
    have b1: ∀ g,run pg (k+11) "seat_behind" [p,.int j,aj s,vl] g=_:=fun g=>g9 T k g hL ha hr hs.ok hh e (v:=vl) (fun x q=>by rw [hp] at q;exact nomatch q)
    have sn:=hs.next hM hr e (v:=vl) (fun x q=>by rw [hp] at q;exact nomatch q)
    obtain ⟨u6',u7',u8',q⟩:=ih (az rs 200 (after s vl r)) (ts++[.tup [.str r.w,th,vl]]) u f (some (.tup [.str r.w,th,vl])) (some vl) (by simp;omega) (by omega) sn hu
    refine ⟨u6',u7',u8',?_⟩
    rw [dZ e hp,(jJ te).1,(jJ (v:= .non) te).2,nN ht (e1:=[some p,some (.int j),some s0,some (.tup (vs.map PV.int)),some (aj (az rs 200 (after s vl r))),some (.ref h.length),some (.int u),some (.tup [.str r.w,th,vl]),some vl]) (h2:=h++[.lst (ts++[.tup [.str r.w,th,vl]])]) ?_,q]
    · simp only [List.append_assoc,List.cons_append,List.nil_append]
    · simp? (disch:=omega) only [cB,t1,ink,nk,ko hz,b1]
   | some y =>
    have nk:r.w∈(["get", "fetch", "clock", "lot", "hear"]:List Str):=(pj ho).mpr (by rw [hp];rfl)
    cases hd:vs.drop u with
    | nil =>
     have ul:u=vs.length:=by have:=List.drop_eq_nil_iff.mp hd;omega
     refine ⟨some (.int u),some (.tup [.str r.w,th,vl]),some vl,?_⟩
     rw [fH e hp,List.append_nil]
     refine Aq ht ?_
     simp? (disch:=omega) only [cB,t1,ink,nk,ul,List.length_map]
    | cons v rest =>
     obtain ⟨av,du,ul⟩:=Nh hd
     have ne: ¬ (u:Int)=(vs.length:Int):=by omega
     have hv1: ∀ x,r.aV=some x-> ∃ i:Int,PV.int v= .int i∧0<=i∧i<=999:=fun x _=>⟨v,rfl,hv v (List.mem_of_mem_drop (by rw [hd];exact List.mem_cons_self))⟩
     have b1: ∀ g,run pg (k+11) "seat_behind" [p,.int j,aj s,.int v] g=_:=fun g=>g9 T k g hL ha hr hs.ok hh e hv1
     have ix: ∀ g,aq (.tup (vs.map PV.int)) (.int u) g= .ok (.int v) g:=fun g=>kf av
     obtain ⟨u6',u7',u8',q⟩:=ih (az rs 200 (after s (.int v) r)) (ts++[.tup [.str r.w,th,.int v]]) (u+1) f (some (.tup [.str r.w,th,vl])) (some (.int v)) (by simp;omega) (by omega) (hs.next hM hr e hv1) ul
     refine ⟨u6',u7',u8',?_⟩
     rw [dw e hp,(jJ te).1,<- du,nN ht (e1:=[some p,some (.int j),some s0,some (.tup (vs.map PV.int)),some (aj (az rs 200 (after s (.int v) r))),some (.ref h.length),some (.int ((u+1:Nat):Int)),some (.tup [.str r.w,th,vl]),some (.int v)]) (h2:=h++[.lst (ts++[.tup [.str r.w,th,.int v]])]) ?_,q]
     · simp only [List.append_assoc,List.cons_append,List.nil_append]
     · simp? (disch:=omega) only [cB,t1,ink,nk,ne,ix,B7,ko hz,b1,List.length_map]
       rfl
noncomputable def fz (q:List PV × aO):PV:= .tup [.tup q.1,aj q.2]
omit T in
theorem iu: ∀ {rs:List Rw} (n:Nat) (s:aO) (vs:List Int),PV.aT (dH rs n s vs).1=true
 | rs,0,s,vs=>rfl
 | rs,n+1,s,vs=>by
  have tf: ∀ (r:Rw) (v:PV),v.flat=true->(told s r v).flat=true:=fun r v hv=>by unfold told cm;cases r<;>simp [PV.flat,PV.aT,hv]
  have of: ∀ r:Rw,(gy s r).flat=true:=fun r=>by unfold gy cm;cases r<;>rfl
  unfold dH
  split
  · rfl
  · split
    · rfl
    · simp only [PV.aT,iu n,tf _ _ (show (PV.int _).flat=true from rfl),Bool.and_self]
    · simp only [PV.aT,iu n,tf _ _ (of _),Bool.and_self]
theorem gb (k:Nat) (h:PH) {L M:List Str} (hL:L.length<=20) {p:PV} {j:Int} {rs:List Rw} (ha:fS p j rs) (hr: ∀ r∈rs,cV L rs.length r) (hM:iZ M rs) (lM:M.length<=60) {vs:List Int} (hv: ∀ v∈vs,0<=v∧v<=999) {s:aO} (hs:rK L M rs s) :
  run pg (k+12) "course" [p,.int j,aj s,.tup (vs.map PV.int)] h= .ok (fz (dH rs 60 s vs)) h:=by
 obtain ⟨u6,u7,u8,q⟩:=rh T k h hL ha hr hM lM hv (aj s) 60 s [] 0 100000 none none rfl (by decide) hs (Nat.zero_le _)
 rw [List.nil_append,List.drop_zero,show ((0:Nat):Int)=(0:Int) from rfl] at q
 unfold cT cB at q
 rw [run_eq T.y7 rfl]
 simp? (disch:=omega) only [gU,mB,vi,q]
 exact aN (v:=fz (dH rs 60 s vs)) (by simp only [fz,PV.flat,PV.aT,iu,dS,Bool.and_self])
end
theorem rM {s:aO} {r:Rw} (ho:own s.held r=false):(r.w∈(["put", "send", "say"]:List Str)∧r.aV=none)∨(¬ r.w∈(["put", "send", "say"]:List Str)∧r.w∈(["take", "free"]:List Str)∧r.aV=none∧gy s r= .non)∨(¬ r.w∈(["put", "send", "say"]:List Str)∧ ¬ r.w∈(["take", "free"]:List Str)∧r.aV.isSome=true):=by
 cases r with
 | let_ _ _=>exact nomatch ho
 | leap _ _=>exact nomatch ho
 | put _ _=>exact .inl ⟨by simp only [Rw.w];decide +kernel,rfl⟩
 | send _ _=>exact .inl ⟨by simp only [Rw.w];decide +kernel,rfl⟩
 | say _ _=>exact .inl ⟨by simp only [Rw.w];decide +kernel,rfl⟩
 | take _=>exact .inr (.inl ⟨by simp only [Rw.w];decide +kernel,by simp only [Rw.w];decide +kernel,rfl,rfl⟩)
 | free _=>exact .inr (.inl ⟨by simp only [Rw.w];decide +kernel,by simp only [Rw.w];decide +kernel,rfl,rfl⟩)
 | _=>exact .inr (.inr ⟨by simp only [Rw.w];decide +kernel,by simp only [Rw.w];decide +kernel,rfl⟩)
theorem MJ (a:Str) (h:PH):gE (.str a) (.tup [.str "take",.str "free"]) h= .ok (.bl (!decide (a∈(["take", "free"]:List Str)))) h:=vU (ss:=["take", "free"])
section
variable {pg:Tb} (T:dc pg)
include T
theorem lF (k:Nat) (h:PH) {L M:List Str} (hL:L.length<=20) {rs:List Rw} (hr: ∀ r∈rs,cV L rs.length r) (hM:iZ M rs) (lM:M.length<=60) (u2:Option PV): ∀ (m:Nat) (s:aO) (ts:List PV) (vs:List Int) (g:PH) (f:Nat) (u6:Option PV),ts.length+m=60->m+2<=f->rK L M rs s->(∀ v∈vs,0<=v∧v<=999)-> ∃ G:PH,
  (cq (lT (run pg (k+11))) (lB (run pg (k+11))) f [some (aA rs),some (aj s),u2,some (.ref h.length),some (.ref (h.length+1)),some (bH rs s),u6] (h++ .lst ts:: .lst (vs.map PV.int)::g)).bind (oI lR (run pg (k+11)))= .ok (.rt (.tup [.tup (ts++(dH rs m s vs).1),aj (dH rs m s vs).2])) (h++G):=by
 have fin1: ∀ (s:aO) (ts:List PV) (vs:List Int) (g:PH) (u5 u6:Option PV),((RV.ok (.nx [some (aA rs),some (aj s),u2,some (.ref h.length),some (.ref (h.length+1)),u5,u6]) (h++ .lst ts:: .lst (vs.map PV.int)::g)).bind (oI lR (run pg (k+11))))= .ok (.rt (.tup [.tup ts,aj s])) (h++ .lst ts:: .lst (vs.map PV.int)::g):=fun s ts vs g u5 u6=>by
  simp? (disch:=omega) only [lR]
 intro m
 induction m with
 | zero =>
  intro s ts vs g f u6 hm hf hs hv
  obtain ⟨f,rfl⟩: ∃ z,f=z+1:=⟨f - 1,by omega⟩
  have h60: ¬ (ts.length:Int) < 60:=by omega
  refine ⟨.lst ts:: .lst (vs.map PV.int)::g,?_⟩
  rw [gv (h1:=h++ .lst ts:: .lst (vs.map PV.int)::g) ?_]
  · rw [fin1];simp only [dH,List.append_nil]
  · cases e:rs[s.row]? with
    | none =>
     have tn:bH rs s= .non:=by unfold bH;rw [e]
     rw [tn];simp? (disch:=omega) only [lT]
    | some r =>
     obtain ⟨th,vl,te,_,_⟩:=ee (hs.idle e)
     have tr:bH rs s= .tup [.str r.w,th,vl]:=by unfold bH;rw [e];exact te
     rw [tr];simp? (disch:=omega) only [lT,h60]
 | succ m ih =>
  intro s ts vs g f u6 hm hf hs hv
  obtain ⟨f,rfl⟩: ∃ z,f=z+1:=⟨f - 1,by omega⟩
  have h60:(ts.length:Int) < 60:=by omega
  have hz:ts.length < 16777216:=by omega
  cases e:rs[s.row]? with
  | none =>
   have tn:bH rs s= .non:=by unfold bH;rw [e]
   refine ⟨.lst ts:: .lst (vs.map PV.int)::g,?_⟩
   rw [dW e,List.append_nil,gv (h1:=h++ .lst ts:: .lst (vs.map PV.int)::g) ?_]
   · exact fin1 ..
   · rw [tn];simp? (disch:=omega) only [lT]
  | some r =>
   have ho:=hs.idle e
   obtain ⟨th,vl,te,_,_⟩:=ee ho
   have tr:bH rs s= .tup [.str r.w,th,vl]:=by unfold bH;rw [e];exact te
   have hh:s.held.length<=60:=Nat.le_trans hs.len lM
   have ht:lT (run pg (k+11)) [some (aA rs),some (aj s),u2,some (.ref h.length),some (.ref (h.length+1)),some (bH rs s),u6] (h++ .lst ts:: .lst (vs.map PV.int)::g)= .ok true (h++ .lst ts:: .lst (vs.map PV.int)::g):=by
    rw [tr];simp? (disch:=omega) only [lT,h60]
   have go: ∀ (v:PV) (ws:List Int) (g2:PH),(∀ x,r.aV=some x-> ∃ i:Int,v= .int i∧0<=i∧i<=999)->(∀ v∈ws,0<=v∧v<=999) ->
     dH rs (m+1) s vs=(told s r v::(dH rs m (az rs 200 (after s v r)) ws).1,(dH rs m (az rs 200 (after s v r)) ws).2) ->
     ((∀ g,run pg (k+11) "_law_behind" [aA rs,aj s,v] g= .ok (aj (az rs 200 (after s v r))) g)->(∀ g,run pg (k+11) "_law_touch" [aA rs,aj (az rs 200 (after s v r))] g= .ok (bH rs (az rs 200 (after s v r))) g)->lB (run pg (k+11)) [some (aA rs),some (aj s),u2,some (.ref h.length),some (.ref (h.length+1)),some (.tup [.str r.w,th,vl]),u6] (h++ .lst ts:: .lst (vs.map PV.int)::g)= .ok (.nx [some (aA rs),some (aj (az rs 200 (after s v r))),u2,some (.ref h.length),some (.ref (h.length+1)),some (bH rs (az rs 200 (after s v r))),some v]) (h++ .lst (ts++[.tup [.str r.w,th,v]]):: .lst (ws.map PV.int)::g2)) ->
     ∃ G:PH,(cq (lT (run pg (k+11))) (lB (run pg (k+11))) (f+1) [some (aA rs),some (aj s),u2,some (.ref h.length),some (.ref (h.length+1)),some (bH rs s),u6] (h++ .lst ts:: .lst (vs.map PV.int)::g)).bind (oI lR (run pg (k+11)))= .ok (.rt (.tup [.tup (ts++(dH rs (m+1) s vs).1),aj (dH rs (m+1) s vs).2])) (h++G):=by
    intro v ws g2 v1 v2 c1 st
    have sn:=hs.next hM hr e v1
    have hb:=st (fun g=>iW T k g hL hr hs.ok hs.zN hh e ho v1) (fun g=>gF T (k+1) g hL hr sn.ok sn.rest)
    rw [<- tr] at hb
    obtain ⟨G,q⟩:=ih (az rs 200 (after s v r)) (ts++[.tup [.str r.w,th,v]]) ws g2 f (some v) (by simp;omega) (by omega) sn v2
    refine ⟨G,?_⟩
    rw [c1,(jJ te).1,nN ht hb,q]
    simp only [List.append_assoc,List.cons_append,List.nil_append]
   have own1:=(jJ (v:= .non) te).2
   rcases rM ho with ⟨k1,hp⟩ | ⟨k1,k2,hp,ov⟩ | ⟨k1,k2,hp⟩
   · refine go vl vs g (fun x q=>by rw [hp] at q;exact nomatch q) hv (by rw [dZ e hp,own1]) fun b1 b2=>?_
     simp? (disch:=omega) only [lB,yP,k1,ko hz,b1,b2]
   · rw [own1] at ov;subst ov
     refine go .non vs g (fun x q=>by rw [hp] at q;exact nomatch q) hv (by rw [dZ e hp,own1]) fun b1 b2=>?_
     simp? (disch:=omega) only [lB,yP,k1,MJ,k2,ko hz,b1,b2]
   · obtain ⟨y,hy⟩:=Option.isSome_iff_exists.mp hp
     have en:=DS (h:=h++ .lst ts:: .lst (vs.map PV.int)::(g++[.lst []])) (n:=h.length+1) (m:=h.length+(g.length+1+1)) (vs:=vs) (by rw [aH];rfl) (by rw [aH,List.getElem?_cons_succ,List.getElem?_cons_succ];exact bp)
     cases vs with
     | nil =>
      refine ⟨.lst ts:: .lst []::(g++[.lst []]),?_⟩
      rw [fH e hy,List.append_nil,Hi ht (v:= .tup [.tup ts,aj s]) (h2:=h++ .lst ts:: .lst []::(g++[.lst []])) ?_]
      · rfl
      · rw [tr]
        simp only [List.map_nil] at en
        simp? (disch:=omega) only [lB,yP,k1,MJ,k2,List.map_nil,en]
     | cons v ws =>
      have po:=Ks (h:=h++ .lst ts:: .lst ((v::ws).map PV.int)::(g++[.lst []])) (n:=h.length+1) (y:= .int v) (r:=ws.map PV.int) (by rw [aH];rfl)
      have nn: ¬ v::ws=[]:=by simp
      simp only [List.map_cons] at en po
      refine go (.int v) ws (g++[.lst []]) (fun x _=>⟨v,rfl,hv v List.mem_cons_self⟩) (fun x m=>hv x (List.mem_cons_of_mem _ m)) (dw e hy) fun b1 b2=>?_
      simp? (disch:=omega) only [lB,yP,k1,MJ,k2,List.map_cons,en,nn,po,ko hz,b1,b2]
theorem oE (k:Nat) (h:PH) {L M:List Str} (hL:L.length<=20) {rs:List Rw} (hr: ∀ r∈rs,cV L rs.length r) (hM:iZ M rs) (lM:M.length<=60) {vs:List Int} (hv: ∀ v∈vs,0<=v∧v<=999) {s:aO} (hs:rK L M rs s) :
  run pg (k+12) "_law_course" [aA rs,aj s,.tup (vs.map PV.int)] h= .ok (fz (dH rs 60 s vs)) h:=by
 obtain ⟨G,q⟩:=lF T k h hL hr hM lM (some (.tup (vs.map PV.int))) 60 s [] vs [] 100000 none rfl (by decide) hs hv
 rw [List.nil_append] at q
 unfold lT lB lR at q
 have t1: ∀ g,run pg (k+11) "_law_touch" [aA rs,aj s] g= .ok (bH rs s) g:=fun g=>gF T (k+1) g hL hr hs.ok hs.rest
 rw [run_eq T.nT rfl]
 simp? (disch:=omega) only [c7,fT,vi,t1]
 refine (congrArg (fin h) q).trans ?_
 exact aN (v:=fz (dH rs 60 s vs)) (by simp only [fz,PV.flat,PV.aT,iu,dS,Bool.and_self])
end
end K12
end
section
open PySem L2 P3
set_option maxHeartbeats 1000000
namespace K12
noncomputable def vB:MS:=(ag (ak (ah "_law_touch" (aa (ab 1) (aa (ab 2) ae))) (gN 6)) (ag (bu (EK (ar (pQ (cZ false) (ab 6))) (ar (af cu (eB bE (aa (ab 4) ae)) (ab 3)))) (aB (eB aJ (aa (ab 4) ae))) bD) (ag (ak (ah "_law_value" (aa (ab 0) (aa (ab 6) ae))) (gN 7)) (ag (bu (ar (pQ (cZ true) (ab 7))) (dN (eM bT cC (ab 4) (aa (ab 7) ae))) bD) (ak (ah "_law_behind" (aa (ab 1) (aa (ab 2) (aa (ab 7) ae)))) (gN 2))))))
noncomputable def vR:MS:=(aB (eB aJ (aa (ab 4) ae)))
section
variable {pg:Tb} (T:dc pg)
include T
theorem rZ (k:Nat) {ns:List Int} (hn:ns.length<=63) {L M:List Str} (hL:L.length<=20) {rs:List Rw} (hr: ∀ r∈rs,cV L rs.length r) (hM:iZ M rs) (lM:M.length<=60) (most:Int) (o:Option Int) (g:PH) (xs0:List PV): ∀ (xs:List PV) (s:aO) (vs:List Int) (kk:Int) (u5 u6 u7:Option PV),rK L M rs s->(∀ v∈vs,0<=v∧v<=999)->vs.length+xs.length<=60->0<=kk->kk+10*xs.length+10<=1000000-> ∃ (ws:List Int) (kk':Int),(∀ v∈ws,0<=v∧v<=999)∧ws.length<=60∧kk<=kk'∧kk'<=kk+10*xs.length ∧
  (cF ⟨none,xs0⟩ (iS (gN 5) vB (run pg (k+11))) xs [some (.ref 1),some (aA rs),some (aj s),some (.int most),some (.ref (g.length+1+1)),u5,u6,u7] (bB ns::bh kk o::(g++[.lst (vs.map PV.int)]))).bind (oI vR (run pg (k+11)))= .ok (.rt (.tup (ws.map PV.int))) (bB ns::bh kk' o::(g++[.lst (ws.map PV.int)])):=by
 intro xs
 induction xs with
 | nil =>
  intro s vs kk u5 u6 u7 hs hv hl k0 k9
  refine ⟨vs,kk,hv,by simpa using hl,by omega,by simp,?_⟩
  rw [ku]
  simp? (disch:=omega) only [vR]
 | cons x xs ih =>
  intro s vs kk u5 u6 u7 hs hv hl k0 k9
  rw [List.length_cons] at hl k9
  have t1: ∀ g,run pg (k+11) "_law_touch" [aA rs,aj s] g= .ok (bH rs s) g:=fun g=>gF T (k+1) g hL hr hs.ok hs.rest
  cases e:rs[s.row]? with
  | none =>
   have tn:bH rs s= .non:=by unfold bH;rw [e]
   refine ⟨vs,kk,hv,by omega,by omega,by omega,?_⟩
   rw [fV]
   simp? (disch:=omega) only [vB,vR,t1,tn,lK]
  | some r =>
   have ho:=hs.idle e
   obtain ⟨th,vl,te,_,_⟩:=ee ho
   have tr:bH rs s= .tup [.str r.w,th,vl]:=by unfold bH;rw [e];exact te
   by_cases em:(vs.length:Int)=most
   · refine ⟨vs,kk,hv,by omega,by omega,by omega,?_⟩
     rw [fV]
     simp? (disch:=omega) only [vB,vR,t1,tr,em,List.length_map,lK]
   · have hrr:=hr r (List.mem_of_getElem? e)
     have hh:s.held.length<=60:=Nat.le_trans hs.len lM
     obtain ⟨v,k1,v1,v2,v3,v4,v5⟩:=qI T (k+8) hn hrr ho kk o (g++[.lst (vs.map PV.int)]) k0 (by omega)
     rw [te,show k+8+3=k+11 from rfl] at v5
     have b1: ∀ g,run pg (k+11) "_law_behind" [aA rs,aj s,v] g= .ok (aj (az rs 200 (after s v r))) g:=fun g=>iW T k g hL hr hs.ok hs.zN hh e ho v1
     have sn:=hs.next hM hr e v1
     have hz:(vs.map PV.int).length < 16777216:=by rw [List.length_map];omega
     cases hp:r.aV with
     | none =>
      have vn:=v2 hp;subst vn
      obtain ⟨ws,kk',a1,a2,a3,a4,a5⟩:=ih (az rs 200 (after s .non r)) vs k1 (some x) (some (.tup [.str r.w,th,vl])) (some .non) sn hv (by omega) (by omega) (by omega)
      refine ⟨ws,kk',a1,a2,by omega,by rw [List.length_cons];omega,?_⟩
      rw [fV]
      unfold vB vR at a5 ⊢
      simp? (disch:=omega) only [t1,tr,em,List.length_map,v5,b1,cP,a5]
     | some y =>
      obtain ⟨i,rfl,i0,i9⟩:=v1 y hp
      obtain ⟨ws,kk',a1,a2,a3,a4,a5⟩:=ih (az rs 200 (after s (.int i) r)) (vs++[i]) k1 (some x) (some (.tup [.str r.w,th,vl])) (some (.int i)) sn (fun z m=>by
       rcases List.mem_append.1 m with m | m
       · exact hv z m
       · rw [List.mem_singleton.mp m];exact ⟨i0,i9⟩) (by simp;omega) (by omega) (by omega)
      refine ⟨ws,kk',a1,a2,by omega,by rw [List.length_cons];omega,?_⟩
      rw [fV]
      unfold vB vR at a5 ⊢
      rw [List.map_append,List.map_cons,List.map_nil] at a5
      simp? (disch:=omega) only [t1,tr,em,List.length_map,v5,b1,ko hz,cP,a5]
theorem wd (k:Nat) {ns:List Int} (hn:ns.length<=63) {L M:List Str} (hL:L.length<=20) {rs:List Rw} (hr: ∀ r∈rs,cV L rs.length r) (hM:iZ M rs) (lM:M.length<=60) (most:Int) (o:Option Int) (g:PH) {s:aO} (hs:rK L M rs s) (kk:Int) (k0:0<=kk) (k9:kk+610<=1000000): ∃ (ws:List Int) (kk':Int),(∀ v∈ws,0<=v∧v<=999)∧ws.length<=60∧kk<=kk'∧kk'<=kk+600 ∧
  run pg (k+12) "_law_values" [.ref 1,aA rs,aj s,.int most] (bB ns::bh kk o::g)= .ok (.tup (ws.map PV.int)) (bB ns::bh kk' o::g):=by
 have l60:(bF 0 60).length=60:=px _
 obtain ⟨ws,kk',a1,a2,a3,a4,a5⟩:=rZ T k hn hL hr hM lM most o g (bF 0 60) (bF 0 60) s [] kk none none none hs (fun v m=>nomatch m) (by rw [l60];decide) k0 (by rw [l60];omega)
 rw [l60] at a4
 refine ⟨ws,kk',a1,a2,a3,by omega,?_⟩
 unfold vB vR at a5
 rw [List.map_nil] at a5
 rw [run_eq T.nS rfl]
 simp? (disch:=omega) only [c6,fQ]
 refine (congrArg (fin _) a5).trans ?_
 have fl: ∀ xs:List Int,PV.aT (xs.map PV.int)=true:=fun xs=>by
  induction xs with
  | nil=>rfl
  | cons x r ih=>rw [List.map_cons,PV.aT,ih];rfl
 exact cM (v:= .tup (ws.map PV.int)) (fl ws)
end
theorem dP: ∀ {rs:List Rw} (n:Nat) (s:aO) (vs:List Int),cR (dH rs n s vs).1=true∧sH (dH rs n s vs).1<=1∧(dH rs n s vs).1.length<=n
 | rs,0,s,vs=>⟨rfl,Nat.zero_le _,Nat.le_refl _⟩
 | rs,n+1,s,vs=>by
  have tp: ∀ (r:Rw) (v:PV),dh v=true->si v=0->dh (told s r v)=true∧si (told s r v)<=1:=fun r v h1 h2=>by unfold told cm;cases r<;>simp [dh,cR,si,sH,h1,h2]
  have ow: ∀ r:Rw,dh (gy s r)=true∧si (gy s r)=0:=fun r=>by unfold gy cm;cases r<;>exact ⟨rfl,rfl⟩
  cases e:rs[s.row]? with
  | none=>rw [dW e];exact ⟨rfl,Nat.zero_le _,Nat.zero_le _⟩
  | some r =>
   cases hp:r.aV with
   | none =>
    rw [dZ e hp]
    have q:=dP (rs:=rs) n (az rs 200 (after s (gy s r) r)) vs
    have t:=tp r _ (ow r).1 (ow r).2
    exact ⟨by simp only [cR,q.1,t.1,Bool.and_self],by simp only [sH];exact Nat.max_le.mpr ⟨t.2,q.2.1⟩,Nat.succ_le_succ q.2.2⟩
   | some y =>
    cases vs with
    | nil=>rw [fH e hp];exact ⟨rfl,Nat.zero_le _,Nat.zero_le _⟩
    | cons v vs =>
     rw [dw e hp]
     have q:=dP (rs:=rs) n (az rs 200 (after s (.int v) r)) vs
     have t:=tp r (.int v) rfl rfl
     exact ⟨by simp only [cR,q.1,t.1,Bool.and_self],by simp only [sH];exact Nat.max_le.mpr ⟨t.2,q.2.1⟩,Nat.succ_le_succ q.2.2⟩
noncomputable def lL (rs:List Rw):List Str:=rs.filterMap fun r=>match r with
 | .take l=>some l
 | _=>none
theorem zR (rs:List Rw) (M:List Str):iZ (lL rs++M) rs:=fun l m=>List.mem_append_left _ (List.mem_filterMap.mpr ⟨_,m,rfl⟩)
theorem jI {L M:List Str} {rs:List Rw} (hM:iZ M rs) (hr: ∀ r∈rs,cV L rs.length r): ∀ (n:Nat) (s:aO) (vs:List Int),rK L M rs s->(∀ v∈vs,0<=v∧v<=999)->rK L M rs (dH rs n s vs).2
 | 0,s,vs,hs,_=>hs
 | n+1,s,vs,hs,hv=>by
  cases e:rs[s.row]? with
  | none=>rw [dW e];exact hs
  | some r =>
   cases hp:r.aV with
   | none=>rw [dZ e hp];exact jI hM hr n _ vs (hs.next hM hr e (fun x q=>by rw [hp] at q;exact nomatch q)) hv
   | some y =>
    cases vs with
    | nil=>rw [fH e hp];exact hs
    | cons v vs=>rw [dw e hp];exact jI hM hr n _ vs (hs.next hM hr e (fun x _=>⟨v,rfl,hv v List.mem_cons_self⟩)) (fun x m=>hv x (List.mem_cons_of_mem _ m))
end K12
end
section
open PySem L2 P3
set_option maxHeartbeats 1000000
namespace K12
noncomputable def xO:List Str:=["get", "fetch", "clock", "lot", "hear"]
noncomputable def qF:PV->Bool
 | .tup (.str w::_)=>decide (w∈xO)
 | _=>false
noncomputable def cnt (ts:List PV):Nat:=(ts.filter qF).length
theorem o9 (s:aO) (r:Rw) (v:PV): ∃ th,told s r v= .tup [.str r.w,th,v]:=by
 unfold told cm
 cases r<;>exact ⟨_,rfl⟩
theorem uR (s:aO) (r:Rw) (v:PV):qF (told s r v)=r.aV.isSome:=by
 obtain ⟨th,e⟩:=o9 s r v
 rw [e]
 cases r<;>simp [qF,Rw.w,Rw.aV,xO,aP]
theorem l9 {rs:List Rw}: ∀ (n:Nat) (s:aO) (vs:List Int),∀ x∈(dH rs n s vs).1,∃ w th v,x= .tup [.str w,th,v]
 | 0,s,vs,x,m=>nomatch m
 | n+1,s,vs,x,m=>by
  have one: ∀ {r:Rw} {v:PV} {q:List PV},(∀ x∈q,∃ w th v,x=PV.tup [.str w,th,v])->x∈told s r v::q-> ∃ w th v,x= .tup [.str w,th,v]:=fun {r v q} h m=>by
   rcases List.mem_cons.mp m with z | m
   · obtain ⟨th,e⟩:=o9 s r v;exact ⟨_,th,v,z.trans e⟩
   · exact h x m
  cases e:rs[s.row]? with
  | none=>rw [dW e] at m;exact nomatch m
  | some r =>
   cases hp:r.aV with
   | none=>rw [dZ e hp] at m;exact one (l9 n _ _) m
   | some y =>
    cases vs with
    | nil=>rw [fH e hp] at m;exact nomatch m
    | cons v vs=>rw [dw e hp] at m;exact one (l9 n _ _) m
theorem mC {rs:List Rw}: ∀ (n m:Nat) (s:aO) (vs:List Int),n<=m->(dH rs n s vs).1=(dH rs m s vs).1.take n∧((dH rs m s vs).1.length < n->dH rs n s vs=dH rs m s vs)
 | 0,m,s,vs,_=>⟨by rw [List.take_zero];rfl,fun h=>absurd h (Nat.not_lt_zero _)⟩
 | n+1,0,s,vs,h=>absurd h (Nat.not_succ_le_zero _)
 | n+1,m+1,s,vs,h=>by
  have h':n<=m:=Nat.le_of_succ_le_succ h
  cases e:rs[s.row]? with
  | none=>rw [dW e,dW e];exact ⟨rfl,fun _=>rfl⟩
  | some r =>
   cases hp:r.aV with
   | none =>
    have q:=mC (rs:=rs) n m (az rs 200 (after s (gy s r) r)) vs h'
    rw [dZ e hp,dZ e hp]
    exact ⟨by rw [List.take_succ_cons,q.1],fun z=>by rw [q.2 (by simpa using z)]⟩
   | some y =>
    cases vs with
    | nil=>rw [fH e hp,fH e hp];exact ⟨rfl,fun _=>rfl⟩
    | cons v vs =>
     have q:=mC (rs:=rs) n m (az rs 200 (after s (.int v) r)) vs h'
     rw [dw e hp,dw e hp]
     exact ⟨by rw [List.take_succ_cons,q.1],fun z=>by rw [q.2 (by simpa using z)]⟩
theorem ky {rs:List Rw} (m:Nat): ∀ (n:Nat) (s:aO) (vs:List Int) (pl:Nat),n<=m-> ∀ (A B:List PV × aO),A=dH rs n s (vs.take pl)->B=dH rs m A.2 (vs.drop (cnt A.1)) ->
  (dH rs n s vs).1=(A.1++B.1).take n∧((A.1++B.1).length < n->dH rs n s vs=(A.1++B.1,B.2))
 | 0,s,vs,pl,_,A,B,_,_=>⟨by rw [List.take_zero];rfl,fun h=>absurd h (Nat.not_lt_zero _)⟩
 | n+1,s,vs,pl,hm,A,B,hA,hB=>by
  cases e:rs[s.row]? with
  | none =>
   obtain ⟨m',rfl⟩: ∃ z,m=z+1:=⟨m - 1,by omega⟩
   rw [dW e] at hA;subst hA
   rw [dW e] at hB;subst hB
   rw [dW e];exact ⟨rfl,fun _=>rfl⟩
  | some r =>
   cases hp:r.aV with
   | none =>
    rw [dZ e hp] at hA;subst hA
    have c1:cnt (told s r (gy s r)::(dH rs n (az rs 200 (after s (gy s r) r)) (vs.take pl)).1)=cnt (dH rs n (az rs 200 (after s (gy s r) r)) (vs.take pl)).1:=by
     unfold cnt;rw [List.filter_cons_of_neg (by rw [uR,hp];simp)]
    simp only [c1] at hB
    have q:=ky m n (az rs 200 (after s (gy s r) r)) vs pl (by omega) _ B rfl hB
    rw [dZ e hp]
    exact ⟨by simp only [List.cons_append,List.take_succ_cons,q.1],fun z=>by simp only [q.2 (by simpa using z),List.cons_append]⟩
   | some y =>
    cases hv:vs.take pl with
    | nil =>
     rw [hv,fH e hp] at hA;subst hA
     have c0:cnt ([]:List PV)=0:=rfl
     simp only [c0,List.drop_zero] at hB
     subst hB
     have q:=mC (rs:=rs) (n+1) m s vs hm
     exact ⟨q.1,fun z=>q.2 z⟩
    | cons v ws =>
     obtain ⟨vs',pl',rfl,rfl,rfl⟩: ∃ vs' pl',vs=v::vs'∧pl=pl'+1∧ws=vs'.take pl':=by
      cases vs with
      | nil=>simp at hv
      | cons a r =>
       cases pl with
       | zero=>simp at hv
       | succ pl=>simp only [List.take_succ_cons,List.cons.injEq] at hv;exact ⟨r,pl,by rw [hv.1],rfl,hv.2.symm⟩
     rw [hv,dw e hp] at hA;subst hA
     have c1:cnt (told s r (.int v)::(dH rs n (az rs 200 (after s (.int v) r)) (vs'.take pl')).1)=cnt (dH rs n (az rs 200 (after s (.int v) r)) (vs'.take pl')).1+1:=by
      unfold cnt;rw [List.filter_cons_of_pos (by rw [uR,hp];rfl),List.length_cons]
     simp only [c1,List.drop_succ_cons] at hB
     have q:=ky m n (az rs 200 (after s (.int v) r)) vs' pl' (by omega) _ B rfl hB
     rw [dw e hp]
     exact ⟨by simp only [List.cons_append,List.take_succ_cons,q.1],fun z=>by simp only [q.2 (by simpa using z),List.cons_append]⟩
end K12
end
section
open PySem L2 P3
set_option maxHeartbeats 1000000
namespace K12
theorem Jz (c:CF) (env:ax) (h:PH) (xs0:List PV) (hl:env.length=10): ∀ ts ys:List PV,(∀ x∈ts,∃ w th v,x=PV.tup [.str w,th,v])->ts.length+ys.length<=1000->P3.fY ⟨none,xs0⟩ (bj 1 (gN 10) (ar (af ju (af aq (ab 10) (eC (.int 0))) (ay (aa (eC (.str "get")) (aa (eC (.str "fetch")) (aa (eC (.str "clock")) (aa (eC (.str "lot")) (aa (eC (.str "hear")) ae)))))))) (ab 10) c env) ts ys h= .ok (ys++ts.filter qF) h:=by
 intro ts ys hx hs
 have e:ts.filterMap (fun x=>if qF x=true then some x else none)=ts.filter qF:=by
  clear hx hs
  induction ts with
  | nil=>rfl
  | cons x r ih =>
   by_cases z:qF x=true
   · rw [List.filterMap_cons_some (by rw [if_pos z]),List.filter_cons_of_pos z,ih]
   · rw [List.filterMap_cons_none (by rw [if_neg z]),List.filter_cons_of_neg z,ih]
 rw [<- e]
 refine jw ts ys (fun x m=>?_) (by omega)
 obtain ⟨w,th,v,rfl⟩:=hx x m
 have g1:((env++[none]).set 10 (some (PV.tup [.str w,th,v])))[10]?=some (some (.tup [.str w,th,v])):=by rw [List.getElem?_set_self (by simp [hl])]
 have ik:qF (.tup [.str w,th,v])=decide (w∈(["get", "fetch", "clock", "lot", "hear"]:List Str)):=rfl
 rw [ik]
 simp? (disch:=omega) only [g1,Ci]
 by_cases z:w∈(["get", "fetch", "clock", "lot", "hear"]:List Str)<;>simp [z]
section
variable {pg:Tb} (T:dc pg)
include T
theorem pK (k:Nat) (h:PH) {L M:List Str} (hL:L.length<=20) {p:PV} {j:Int} {rs:List Rw} (ha:fS p j rs) (hr: ∀ r∈rs,cV L rs.length r) (hM:iZ M rs) (lM:M.length<=60) {vs:List Int} (hv: ∀ v∈vs,0<=v∧v<=999) {s:aO} (hs:rK L M rs s) (pl:Nat) :
  run pg (k+13) "_law_pieces_right" [p,.int j,aj s,.tup (vs.map PV.int),.int pl] h= .ok (.bl true) h:=by
 have ht: ∀ v∈vs.take pl,0<=v∧v<=999:=fun v m=>hv v (List.mem_of_mem_take m)
 have d1: ∀ h,run pg (k+12) "course" [p,.int j,aj s,.tup (vs.map PV.int)] h=_:=fun h=>gb T k h hL ha hr hM lM hv hs
 have d2: ∀ h,run pg (k+12) "course" [p,.int j,aj s,.tup ((vs.take pl).map PV.int)] h=_:=fun h=>gb T k h hL ha hr hM lM ht hs
 have sA:=jI hM hr 60 s (vs.take pl) hs ht
 have fA:=l9 (rs:=rs) 60 s (vs.take pl)
 have pA:=dP (rs:=rs) 60 s (vs.take pl)
 have pW:=dP (rs:=rs) 60 s vs
 have sW:=jI hM hr 60 s vs hs hv
 generalize eA:dH rs 60 s (vs.take pl)=A at d2 sA fA pA
 have hd: ∀ v∈vs.drop (cnt A.1),0<=v∧v<=999:=fun v m=>hv v (List.mem_of_mem_drop m)
 have d3: ∀ h,run pg (k+12) "course" [p,.int j,aj A.2,.tup ((vs.drop (cnt A.1)).map PV.int)] h=_:=fun h=>gb T k h hL ha hr hM lM hd sA
 have pB:=dP (rs:=rs) 60 A.2 (vs.drop (cnt A.1))
 generalize eB:dH rs 60 A.2 (vs.drop (cnt A.1))=B at d3 pB
 have sp:=ky 60 60 s vs pl (Nat.le_refl _) A B eA.symm eB.symm
 generalize eW:dH rs 60 s vs=W at d1 sp pW sW
 have c1:dy (vs.map PV.int) none (some (pl:Int))=(vs.take pl).map PV.int:=by rw [P3.jl (by omega),List.map_take];rfl
 have c2:dy (vs.map PV.int) (some (((A.1.filter qF).length:Nat):Int)) none=(vs.drop (cnt A.1)).map PV.int:=by rw [P3.eS (by omega),List.map_drop];rfl
 have c3:dy (A.1++B.1) none (some 60)=W.1:=by rw [P3.jl (by decide),sp.1];rfl
 have lc:=Jz (run pg (k+12)) [some p,some (.int j),some (aj s),some (.tup (vs.map PV.int)),some (.int pl),some (fz W),some (fz A),none,none,none] h A.1 rfl A.1 [] fA (by have:=pA.2.2;simp;omega)
 rw [List.nil_append] at lc
 have i0: ∀ (q:List PV × aO) h,aq (fz q) (.int 0) h= .ok (.tup q.1) h:=fun q h=>rfl
 have i1: ∀ (q:List PV × aO) h,aq (fz q) (.int 1) h= .ok (aj q.2) h:=fun q h=>rfl
 have lt:A.1.length+B.1.length<=16777216:=by have:=pA.2.2;have:=pB.2.2;omega
 have sm1: ∀ h,run pg (k+12) "_law_same" [.tup W.1,.tup W.1] h= .ok (.bl true) h:=fun h=>same_refl T (k+11) h _ (by
  have q:W.1.length<=100000:=by have:=pW.2.2;omega
  simp [dh,pW.1,q]) (by have:=pW.2.1;simp only [si];omega)
 have sm2: ∀ h,run pg (k+12) "_law_same" [fz W,fz W] h= .ok (.bl true) h:=fun h=>same_refl T (k+11) h _ (by
  have sp:=jn W.2 (by have:=sW.ok.pk.len;omega) (by have:=sW.len;omega)
  have q:W.1.length<=100000:=by have:=pW.2.2;omega
  simp [fz,dh,cR,pW.1,sp,q]) (by
  have sd:=qR W.2
  have:=pW.2.1
  simp only [fz,si,sH];omega)
 rw [run_eq T.iQ rfl]
 by_cases z:(59:Int) < ((A.1.length+B.1.length:Nat):Int)
 · simp? (disch:=first | omega | exact lt) only [bg,bW,d1,d2,d3,c1,c2,c3,i0,i1,lc,z,sm1]
   exact aN rfl
 · have ew:PV.tup [.tup (A.1++B.1),aj B.2]=fz W:=by rw [sp.2 (by rw [List.length_append];omega)];rfl
   simp? (disch:=first | omega | exact lt) only [bg,bW,d1,d2,d3,c1,c2,i0,i1,lc,z,ew,sm2]
   exact aN rfl
end
end K12
end
section
open PySem L2 P3
set_option maxHeartbeats 1000000
namespace K12
theorem JX (h:PH):aq (.str "abcd") (.int 0) h= .ok (.str "a") h:=by simp only [aq];rfl
theorem Lm (h:PH):aq (.str "abcd") (.int 1) h= .ok (.str "b") h:=by simp only [aq];rfl
theorem Kh (h:PH):aq (.str "abcd") (.int 2) h= .ok (.str "c") h:=by simp only [aq];rfl
theorem Kb (h:PH):aq (.str "abcd") (.int 3) h= .ok (.str "d") h:=by simp only [aq];rfl
theorem Hh (z:Str) (hz:z.length<=10) (h:PH):aG (.str "xx") (.str z) h= .ok (.str ("xx" ++z)) h:=Bw (by have:(Str.ofString "xx").length=2:=rfl;omega)
noncomputable def rg:MS:=dN (eM bT cC (ab 4) (aa (af eQ (ay (aa (af aG (eC (.str "xx")) (af aq (eC (.str "abcd")) (ab 5))) ae)) (eB yA (aa (qb (af xG (eB bE (aa (af aq (ab 1) (ab 5)) ae)) (eC (.int 4))) (af cu (ah "_law_pick" (aa (ab 0) (aa (eC (.int 2)) ae))) (eC (.int 0)))) ae))) ae))
section
variable {pg:Tb} (T:dc pg)
include T
theorem Lk (j:Nat) {ns:List Int} (hn:ns.length<=63) {xs0:List PV} {B:PH} (o:Option Int) (e1 e2 e3 e4 e5 e6 e7 e8:Option PV) :
  ∀ (xs ys:List PV) (k:Int),(∀ b∈xs,∃ (x:Str) (n:Int),b= .tup [.str x,.int n])->0<=k->k+xs.length<=1000000->ys.length+xs.length<=1000-> ∃ bs:List PV,bs.length=xs.length∧PV.aT bs=true ∧
   P3.fY ⟨none,xs0⟩ (bj 1 (gN 9) bQ (ay (aa (af aq (ab 9) (eC (.int 0))) (aa (ah "_law_pick" (aa (ab 0) (aa (eC (.int 1000)) ae))) ae))) (run pg (j+2)) [some (.ref 1),e1,e2,e3,e4,e5,e6,e7,e8]) xs ys (bB ns::bh k o::B)= .ok (ys++bs) (bB ns::bh (k+xs.length) o::B):=by
 intro xs
 induction xs with
 | nil=>intro ys k _ _ _ _;exact ⟨[],rfl,rfl,by rw [P3.fY,if_pos cK];simp⟩
 | cons x xs ih =>
  intro ys k hx k0 k9 hl
  rw [List.length_cons] at k9 hl
  obtain ⟨a,n,rfl⟩:=hx x List.mem_cons_self
  obtain ⟨c,c0,c1,ec⟩:=ba T j B hn o (k:=k) 1000 k0 (by omega) (by decide) (by decide)
  obtain ⟨bs,q1,q2,q3⟩:=ih (ys++[.tup [.str a,.int c]]) (k+1) (fun b m=>hx b (List.mem_cons_of_mem _ m)) (by omega) (by omega) (by simp;omega)
  refine ⟨.tup [.str a,.int c]::bs,by simp [q1],by rw [PV.aT,q2];rfl,?_⟩
  have hz:ys.length < sizeLine:=Nat.lt_of_lt_of_le (show ys.length < 1001 by omega) (by decide)
  have st:bj 1 (gN 9) bQ (ay (aa (af aq (ab 9) (eC (.int 0))) (aa (ah "_law_pick" (aa (ab 0) (aa (eC (.int 1000)) ae))) ae))) (run pg (j+2)) [some (.ref 1),e1,e2,e3,e4,e5,e6,e7,e8] (.tup [.str a,.int n]) (bB ns::bh k o::B)= .ok (some (.tup [.str a,.int c])) (bB ns::bh (k+1) o::B):=by
   simp? (disch:=omega) only [ec]
  rw [P3.fY,if_pos ⟨cK,hz⟩,st,bR]
  refine q3.trans ?_
  rw [show k+1+(xs.length:Int)=k+((PV.tup [.str a,.int n]::xs).length:Nat) by rw [List.length_cons];omega]
  simp
theorem iq (j:Nat) {ns:List Int} (hn:ns.length<=63) {G:PH} (o:Option Int) (p:PV) (e2 e3 e6 e7 e8:Option PV) {q:Int} {z:Str} {xs:List PV} (hz: ∀ g,aq (.str "abcd") (.int q) g= .ok (.str z) g) (lz:z.length<=10) (hp: ∀ g,aq p (.int q) g= .ok (.tup xs) g) (ms:List PV) (lm:ms.length<=10) (k:Int) (k0:0<=k) (k9:k < 1000000) :
  ∃ (m:List PV) (k':Int),m.length<=1∧PV.aT m=true∧k<=k'∧k'<=k+1∧rg (run pg (j+2)) [some (.ref 1),some p,e2,e3,some (.ref (G.length+1+1)),some (.int q),e6,e7,e8] (bB ns::bh k o::(G++[.lst ms]))= .ok (.nx [some (.ref 1),some p,e2,e3,some (.ref (G.length+1+1)),some (.int q),e6,e7,e8]) (bB ns::bh k' o::(G++[.lst (ms++[.tup m])])):=by
 have ad:=Hh z lz
 have lm':ms.length < 16777216:=by omega
 have m0: ∀ g,eQ (.tup [.str ("xx" ++z)]) (.int 0) g= .ok (.tup []) g:=fun g=>vD (by simp)
 have m1: ∀ g,eQ (.tup [.str ("xx" ++z)]) (.int 1) g= .ok (.tup [.str ("xx" ++z)]) g:=fun g=>vD (by simp)
 by_cases h4:(xs.length:Int) < 4
 · obtain ⟨c,c0,c1,ec⟩:=ba T j (G++[.lst ms]) hn o (k:=k) 2 k0 k9 (by decide) (by decide)
   by_cases hc:c=0
   · refine ⟨[.str ("xx" ++z)],k+1,Nat.le_refl _,rfl,by omega,by omega,?_⟩
     subst hc
     simp? (disch:=omega) only [rg,hz,ad,hp,h4,ec,m1,ko lm']
   · refine ⟨[],k+1,Nat.zero_le _,rfl,by omega,by omega,?_⟩
     simp? (disch:=omega) only [rg,hz,ad,hp,h4,ec,hc,m0,ko lm']
 · refine ⟨[],k,Nat.zero_le _,rfl,by omega,by omega,?_⟩
   simp? (disch:=omega) only [rg,hz,ad,hp,h4,m0,ko lm']
theorem tP (j:Nat) {ns:List Int} (hn:ns.length<=63) {b:Nat} {B:PH} {os:List (Str × List Rw)} (h1:B[b]?=some (.lst (os.map ao))) (o:Option Int) (e1 e2 e3 e4 e5 e6 e7 e8:Option PV) :
  ∀ (xs ys:List (Str × List Rw)) (k:Int),(∀ h∈xs,h.2.length<=30)->0<=k->k+xs.length<=1000000->ys.length+xs.length<=1000-> ∃ hs:List (Str × List Rw),hs.length=xs.length∧(∀ h∈hs,h.2.length<=30) ∧
   P3.fY ⟨some (b+1+1),os.map ao⟩ (bj 1 (gN 9) bQ (ay (aa (af aq (ab 9) (eC (.int 0))) (aa (kO (af aq (ab 9) (eC (.int 1))) bY (bX (ah "_law_pick" (aa (ab 0) (aa (af aG (eB bE (aa (af aq (ab 9) (eC (.int 1))) ae)) (eC (.int 1))) ae))))) ae))) (run pg (j+2)) [some (.ref 1),e1,e2,e3,e4,e5,e6,e7,e8]) (xs.map ao) (ys.map ao) (bB ns::bh k o::B)= .ok ((ys++hs).map ao) (bB ns::bh (k+xs.length) o::B):=by
 have fin1: ∀ k:Int,gR.eX ⟨some (b+1+1),os.map ao⟩ (bB ns::bh k o::B)=true:=fun k=>iK (show B[b]?=_ from h1)
 intro xs
 induction xs with
 | nil=>intro ys k _ _ _ _;exact ⟨[],rfl,(fun h m=>nomatch m),by rw [List.map_nil,P3.fY,if_pos (fin1 _)];simp⟩
 | cons x xs ih =>
  intro ys k hx k0 k9 hl
  rw [List.length_cons] at k9 hl
  have x30:=hx x List.mem_cons_self
  obtain ⟨c,c0,c1,ec⟩:=ba T j B hn o (k:=k) (x.2.length+1) k0 (by omega) (by omega) (by omega)
  obtain ⟨hs,q1,q2,q3⟩:=ih (ys++[(x.1,x.2.take c.toNat)]) (k+1) (fun b m=>hx b (List.mem_cons_of_mem _ m)) (by omega) (by omega) (by simp;omega)
  refine ⟨(x.1,x.2.take c.toNat)::hs,by simp [q1],fun h m=>?_,?_⟩
  · rcases List.mem_cons.mp m with rfl | m
    · show (x.2.take c.toNat).length<=30;rw [List.length_take];omega
    · exact q2 h m
  have hz:(ys.map ao).length < sizeLine:=Nat.lt_of_lt_of_le (show (ys.map ao).length < 1001 by rw [List.length_map];omega) (by decide)
  have cc:dy (x.2.map bV) none (some c)=(x.2.take c.toNat).map bV:=by rw [P3.jl c0,List.map_take]
  have st:bj 1 (gN 9) bQ (ay (aa (af aq (ab 9) (eC (.int 0))) (aa (kO (af aq (ab 9) (eC (.int 1))) bY (bX (ah "_law_pick" (aa (ab 0) (aa (af aG (eB bE (aa (af aq (ab 9) (eC (.int 1))) ae)) (eC (.int 1))) ae))))) ae))) (run pg (j+2)) [some (.ref 1),e1,e2,e3,e4,e5,e6,e7,e8] (ao x) (bB ns::bh k o::B)= .ok (some (ao (x.1,x.2.take c.toNat))) (bB ns::bh (k+1) o::B):=by
   simp? (disch:=omega) only [ao,aA,List.length_map,ec,cc]
  rw [List.map_cons,P3.fY,if_pos ⟨fin1 _,hz⟩,st,bR]
  have e2:ys.map ao++[ao (x.1,x.2.take c.toNat)]=(ys++[(x.1,x.2.take c.toNat)]).map ao:=by rw [List.map_append];rfl
  rw [<- e2] at q3
  refine q3.trans ?_
  rw [show k+1+(xs.length:Int)=k+((x::xs).length:Nat) by rw [List.length_cons];omega]
  simp
noncomputable def dU (h:Str × List Rw):Str × List Rw:=(h.1,h.2.filter fun r:Rw=> !decide (r.w=("leap" :Str)))
omit T in
theorem pX: ∀ rs:List Rw,(rs.filterMap fun r:Rw=>if r.w=("leap" :Str) then none else some (bV r))=(rs.filter fun r:Rw=> !decide (r.w=("leap" :Str))).map bV
 | []=>rfl
 | r::t=>by
  by_cases z:r.w=("leap" :Str)
  · rw [List.filterMap_cons_none (by rw [if_pos z]),List.filter_cons_of_neg (by simp [z]),pX t]
  · rw [List.filterMap_cons_some (by rw [if_neg z]),List.filter_cons_of_pos (by simp [z]),List.map_cons,pX t]
theorem wB (j:Nat) {b:Nat} {x y:PO} {B:PH} {os:List (Str × List Rw)} (h1:B[b]?=some (.lst (os.map ao))) (e0 e1 e2 e3 e4 e5 e6 e7 e8:Option PV) :
  ∀ (xs ys:List (Str × List Rw)) (g:PH),(∀ h∈xs,h.2.length<=30)->ys.length+xs.length<=1000-> ∃ g':PH,
   P3.fY ⟨some (b+1+1),os.map ao⟩ (bj 2 (gT 2 (aR (gN 9) (aR (gN 10) dF))) bQ (ay (aa (ab 9) (aa (eB aJ (aa (iA 1 (iE (ab 10)) (gN 11) (ar (af gS (af aq (ab 11) (eC (.int 0))) (eC (.str "leap")))) (ab 11)) ae)) ae))) (run pg j) [e0,e1,e2,e3,e4,e5,e6,e7,e8]) (xs.map ao) (ys.map ao) (x::y::(B++g))= .ok ((ys++xs.map dU).map ao) (x::y::(B++(g++g'))):=by
 have fin1: ∀ g:PH,gR.eX ⟨some (b+1+1),os.map ao⟩ (x::y::(B++g))=true:=fun g=>iK (show (B++g)[b]?=_ from (aM (bq h1)).trans h1)
 intro xs
 induction xs with
 | nil=>intro ys g _ _;exact ⟨[],by rw [List.map_nil,P3.fY,if_pos (fin1 _)];simp⟩
 | cons h xs ih =>
  intro ys g hx hl
  rw [List.length_cons] at hl
  have h30:=hx h List.mem_cons_self
  obtain ⟨g',q⟩:=ih (ys++[dU h]) (g++[.lst ((dU h).2.map bV)]) (fun b m=>hx b (List.mem_cons_of_mem _ m)) (by simp;omega)
  refine ⟨.lst ((dU h).2.map bV)::g',?_⟩
  have hz:(ys.map ao).length < sizeLine:=Nat.lt_of_lt_of_le (show (ys.map ao).length < 1001 by rw [List.length_map];omega) (by decide)
  have lc:P3.fY ⟨none,h.2.map bV⟩ (bj 1 (gN 11) (ar (af gS (af aq (ab 11) (eC (.int 0))) (eC (.str "leap")))) (ab 11) (run pg j) [e0,e1,e2,e3,e4,e5,e6,e7,e8,some (.str h.1),some (.tup (h.2.map bV))]) (h.2.map bV) [] (x::y::(B++g))= .ok ((dU h).2.map bV) (x::y::(B++g)):=by
   refine (dA (f:=fun r:Rw=>if r.w=("leap" :Str) then none else some (bV r)) (g:=bV) cK h.2 [] (fun r m=>?_) (by simp;omega)).trans (by rw [pX,List.nil_append];rfl)
   simp? (disch:=omega) only [bV]
   by_cases z:r.w=("leap" :Str)<;>simp [z]
  have st:bj 2 (gT 2 (aR (gN 9) (aR (gN 10) dF))) bQ (ay (aa (ab 9) (aa (eB aJ (aa (iA 1 (iE (ab 10)) (gN 11) (ar (af gS (af aq (ab 11) (eC (.int 0))) (eC (.str "leap")))) (ab 11)) ae)) ae))) (run pg j) [e0,e1,e2,e3,e4,e5,e6,e7,e8] (ao h) (x::y::(B++g))= .ok (some (ao (dU h))) (x::y::(B++(g++[.lst ((dU h).2.map bV)]))):=by
   have hv:ao (dU h)= .tup [.str h.1,.tup ((dU h).2.map bV)]:=rfl
   rw [hv]
   simp? (disch:=omega) only [ao,aA,lc]
  rw [List.map_cons,P3.fY,if_pos ⟨fin1 _,hz⟩,st,bR]
  have e2:ys.map ao++[ao (dU h)]=(ys++[dU h]).map ao:=by rw [List.map_append];rfl
  rw [<- e2] at q
  refine q.trans ?_
  simp
end
end K12
end
section
open PySem L2 P3
set_option maxHeartbeats 1000000
namespace K12
theorem qo (a:Str): ∀ hs:List (Str × List Rw),(hs.filterMap fun h=>if h.1=a then none else some (ao h))=(hs.filter fun h=> !decide (h.1=a)).map ao
 | []=>rfl
 | r::t=>by
  by_cases z:r.1=a
  · rw [List.filterMap_cons_none (by rw [if_pos z]),List.filter_cons_of_neg (by simp [z]),qo a t]
  · rw [List.filterMap_cons_some (by rw [if_neg z]),List.filter_cons_of_pos (by simp [z]),List.map_cons,qo a t]
section
variable {pg:Tb} (T:dc pg)
include T
theorem Az (j:Nat) {ns:List Int} (hn:ns.length<=63) {L s2:List Str} {hs:List (Str × List Rw)} {p:PV} (P:nv L s2 hs p) {i:Nat} {hd:Str × List Rw} (ei:hs[i]?=some hd) (k:Int) (o:Option Int) (g:PH) (k0:0<=k) (k9:k+100<=1000000) :
  ∃ (op:PV) (at':Nat) (k':Int),fS op (at':Int) hd.2∧k<=k'∧k'<=k+100∧run pg (j+3) "_law_other" [.ref 1,p,.int i] (bB ns::bh k o::g)= .ok (.tup [op,.int at']) (bB ns::bh k' o::g):=by
 obtain ⟨bs,s3,s4,rfl⟩:=P.at_
 obtain ⟨bx,l1,l2,l3,l4⟩:=P.Nr _ _ _ _ _ rfl
 have hm:=P.many
 obtain ⟨b1,c1,c2,c3⟩:=Lk T j hn (xs0:=bs) (B:=g) o (some (.tup [.tup bs,.tup (s2.map PV.str),.tup s3,.tup s4,.tup (hs.map ao)])) (some (.int i)) none none none none none none bs [] k bx k0 (by omega) (by simp;omega)
 rw [List.nil_append] at c3
 generalize hk1:k+(bs.length:Int)=k1 at c3
 have A1: ∀ rest,ag (ak (eB aJ (aa (iA 1 (iE (af aq (ab 1) (eC (.int 0)))) (gN 9) bQ (ay (aa (af aq (ab 9) (eC (.int 0))) (aa (ah "_law_pick" (aa (ab 0) (aa (eC (.int 1000)) ae))) ae)))) ae)) (gN 3)) rest (run pg (j+2)) [some (.ref 1),some (.tup [.tup bs,.tup (s2.map PV.str),.tup s3,.tup s4,.tup (hs.map ao)]),some (.int i),none,none,none,none,none,none] (bB ns::bh k o::g)=rest (run pg (j+2)) [some (.ref 1),some (.tup [.tup bs,.tup (s2.map PV.str),.tup s3,.tup s4,.tup (hs.map ao)]),some (.int i),some (.tup b1),none,none,none,none,none] (bB ns::bh k1 o::(g++[.lst b1])):=fun rest=>by
  simp? (disch:=omega) only [c3]
 generalize hG:g++[PO.lst b1]=G at A1
 obtain ⟨m0,k2,x1,x2,x3,x4,x5⟩:=iq T j hn (G:=G) o (.tup [.tup bs,.tup (s2.map PV.str),.tup s3,.tup s4,.tup (hs.map ao)]) (some (.int i)) (some (.tup b1)) none none none JX (by decide) (fun g=>K0) [] (by decide) k1 (by omega) (by omega)
 obtain ⟨m1,k3,y1,y2,y3,y4,y5⟩:=iq T j hn (G:=G) o (.tup [.tup bs,.tup (s2.map PV.str),.tup s3,.tup s4,.tup (hs.map ao)]) (some (.int i)) (some (.tup b1)) none none none Lm (by decide) (fun g=>Jf) ([]++[.tup m0]) (by simp) k2 (by omega) (by omega)
 obtain ⟨m2,k4,z1,z2,z3,z4,z5⟩:=iq T j hn (G:=G) o (.tup [.tup bs,.tup (s2.map PV.str),.tup s3,.tup s4,.tup (hs.map ao)]) (some (.int i)) (some (.tup b1)) none none none Kh (by decide) (fun g=>IF) ([]++[.tup m0]++[.tup m1]) (by simp) k3 (by omega) (by omega)
 obtain ⟨m3,k5,w1,w2,w3,w4,w5⟩:=iq T j hn (G:=G) o (.tup [.tup bs,.tup (s2.map PV.str),.tup s3,.tup s4,.tup (hs.map ao)]) (some (.int i)) (some (.tup b1)) none none none Kb (by decide) (fun g=>J4) ([]++[.tup m0]++[.tup m1]++[.tup m2]) (by simp) k4 (by omega) (by omega)
 simp only [List.nil_append,List.cons_append] at x5 y5 z5 w5
 have r4:bF 0 4=[PV.int 0,.int 1,.int 2,.int 3]:=rfl
 have A2: ∀ rest,ag (ak (aQ ae) (gN 4)) (ag (gX (df (aa (eC (.int 4)) ae)) (gN 5) rg) rest) (run pg (j+2)) [some (.ref 1),some (.tup [.tup bs,.tup (s2.map PV.str),.tup s3,.tup s4,.tup (hs.map ao)]),some (.int i),some (.tup b1),none,none,none,none,none] (bB ns::bh k1 o::G)=rest (run pg (j+2)) [some (.ref 1),some (.tup [.tup bs,.tup (s2.map PV.str),.tup s3,.tup s4,.tup (hs.map ao)]),some (.int i),some (.tup b1),some (.ref (G.length+1+1)),some (.int 3),none,none,none] (bB ns::bh k5 o::(G++[.lst [.tup m0,.tup m1,.tup m2,.tup m3]])):=fun rest=>by
  simp? (disch:=omega) only [r4,fV,ku,cP,x5,y5,z5,w5]
 have fl7: ∀ m:List PV,PV.aT m=true->PV.aT (m.map fun x=>PV.tup [x,.int 7])=true:=fun m hm=>by
  induction m with
  | nil=>rfl
  | cons x r ih=>simp only [PV.aT,Bool.and_eq_true] at hm;simp only [List.map_cons,PV.aT,PV.flat,hm.1,ih hm.2,Bool.and_self]
 have lc7: ∀ (e3 e4 e5 e6 e7 e8:Option PV) (h:PH),P3.fY ⟨none,m0⟩ (bj 1 (gN 9) bQ (ay (aa (ab 9) (aa (eC (.int 7)) ae))) (run pg (j+2)) [some (.ref 1),some (.tup [.tup bs,.tup (s2.map PV.str),.tup s3,.tup s4,.tup (hs.map ao)]),some (.int i),e3,e4,e5,e6,e7,e8]) m0 [] h= .ok (m0.map fun x=>PV.tup [x,.int 7]) h:=fun e3 e4 e5 e6 e7 e8 h=>by
  have fe:m0.filterMap (fun x=>some (PV.tup [x,.int 7]))=m0.map fun x=>PV.tup [x,.int 7]:=by simp
  refine (jw (f:=fun x=>some (PV.tup [x,.int 7])) m0 [] (fun x m=>?_) (by simp;omega)).trans (by rw [fe,List.nil_append])
  simp? (disch:=omega) only [List.map_nil]
 generalize hm7:(m0.map fun x=>PV.tup [x,.int 7])=m7 at lc7
 have f7:PV.aT m7=true:=by rw [<- hm7];exact fl7 m0 x2
 have l7:m7.length<=1:=by rw [<- hm7,List.length_map];exact x1
 have A3: ∀ rest,ag (ak (af aG (ab 3) (eB aJ (aa (iA 1 (iE (af aq (ab 4) (eC (.int 0)))) (gN 9) bQ (ay (aa (ab 9) (aa (eC (.int 7)) ae)))) ae))) (gN 3)) rest (run pg (j+2)) [some (.ref 1),some (.tup [.tup bs,.tup (s2.map PV.str),.tup s3,.tup s4,.tup (hs.map ao)]),some (.int i),some (.tup b1),some (.ref (G.length+1+1)),some (.int 3),none,none,none] (bB ns::bh k5 o::(G++[.lst [.tup m0,.tup m1,.tup m2,.tup m3]]))=rest (run pg (j+2)) [some (.ref 1),some (.tup [.tup bs,.tup (s2.map PV.str),.tup s3,.tup s4,.tup (hs.map ao)]),some (.int i),some (.tup (b1++m7)),some (.ref (G.length+1+1)),some (.int 3),none,none,none] (bB ns::bh k5 o::(G++[.lst [.tup m0,.tup m1,.tup m2,.tup m3],.lst m7])):=fun rest=>by
  simp? (disch:=omega) only [wJ,lc7]
 have at4: ∀ h,aq (.tup (hs.map ao)) (.int i) h= .ok (.tup [.str hd.1,aA hd.2]) h:=fun h=>kf (P3.d6 rfl (by rw [List.getElem?_map,ei];rfl))
 generalize hO:(hs.filter fun h=> !decide (h.1=hd.1))=O
 have lO:O.length<=4:=by rw [<- hO];have:=List.length_filter_le (fun h:Str × List Rw=> !decide (h.1=hd.1)) hs;omega
 have rO: ∀ h∈O,h.2.length<=30:=fun h m=>by rw [<- hO] at m;exact (P.rows h (List.mem_filter.mp m).1).1
 have lcO: ∀ (e3 e4 e5 e6 e7 e8:Option PV) (h:PH),P3.fY ⟨none,hs.map ao⟩ (bj 1 (gN 9) (ar (af gS (af aq (ab 9) (eC (.int 0))) (af aq (af aq (af aq (ab 1) (eC (.int 4))) (ab 2)) (eC (.int 0))))) (ab 9) (run pg (j+2)) [some (.ref 1),some (.tup [.tup bs,.tup (s2.map PV.str),.tup s3,.tup s4,.tup (hs.map ao)]),some (.int i),e3,e4,e5,e6,e7,e8]) (hs.map ao) [] h= .ok (O.map ao) h:=fun e3 e4 e5 e6 e7 e8 h=>by
  refine (dA (f:=fun x:Str × List Rw=>if x.1=hd.1 then none else some (ao x)) (g:=ao) cK hs [] (fun x m=>?_) (by simp;omega)).trans (by rw [qo,List.nil_append,hO])
  have hv:ao x= .tup [.str x.1,aA x.2]:=rfl
  rw [hv]
  simp? (disch:=omega) only [at4]
  by_cases z:x.1=hd.1<;>simp [z]
 have A4: ∀ rest,ag (ak (iA 1 (iE (af aq (ab 1) (eC (.int 4)))) (gN 9) (ar (af gS (af aq (ab 9) (eC (.int 0))) (af aq (af aq (af aq (ab 1) (eC (.int 4))) (ab 2)) (eC (.int 0))))) (ab 9)) (gN 6)) rest (run pg (j+2)) [some (.ref 1),some (.tup [.tup bs,.tup (s2.map PV.str),.tup s3,.tup s4,.tup (hs.map ao)]),some (.int i),some (.tup (b1++m7)),some (.ref (G.length+1+1)),some (.int 3),none,none,none] (bB ns::bh k5 o::(G++[.lst [.tup m0,.tup m1,.tup m2,.tup m3],.lst m7]))=rest (run pg (j+2)) [some (.ref 1),some (.tup [.tup bs,.tup (s2.map PV.str),.tup s3,.tup s4,.tup (hs.map ao)]),some (.int i),some (.tup (b1++m7)),some (.ref (G.length+1+1)),some (.int 3),some (.ref (G.length+2+1+1)),none,none] (bB ns::bh k5 o::(G++[.lst [.tup m0,.tup m1,.tup m2,.tup m3],.lst m7,.lst (O.map ao)])):=fun rest=>by
  simp? (disch:=omega) only [lcO]
 obtain ⟨os,o1,o2,o3⟩:=tP T j hn (b:=G.length+2) (B:=G++[.lst [.tup m0,.tup m1,.tup m2,.tup m3],.lst m7,.lst (O.map ao)]) (os:=O) (by rw [aH];rfl) o (some (.tup [.tup bs,.tup (s2.map PV.str),.tup s3,.tup s4,.tup (hs.map ao)])) (some (.int i)) (some (.tup (b1++m7))) (some (.ref (G.length+1+1))) (some (.int 3)) (some (.ref (G.length+2+1+1))) none none O [] k5 rO (by omega) (by omega) (by simp;omega)
 rw [List.map_nil,List.nil_append] at o3
 have A5: ∀ rest,ag (ak (iA 1 (iE (ab 6)) (gN 9) bQ (ay (aa (af aq (ab 9) (eC (.int 0))) (aa (kO (af aq (ab 9) (eC (.int 1))) bY (bX (ah "_law_pick" (aa (ab 0) (aa (af aG (eB bE (aa (af aq (ab 9) (eC (.int 1))) ae)) (eC (.int 1))) ae))))) ae)))) (gN 6)) rest (run pg (j+2)) [some (.ref 1),some (.tup [.tup bs,.tup (s2.map PV.str),.tup s3,.tup s4,.tup (hs.map ao)]),some (.int i),some (.tup (b1++m7)),some (.ref (G.length+1+1)),some (.int 3),some (.ref (G.length+2+1+1)),none,none] (bB ns::bh k5 o::(G++[.lst [.tup m0,.tup m1,.tup m2,.tup m3],.lst m7,.lst (O.map ao)]))=rest (run pg (j+2)) [some (.ref 1),some (.tup [.tup bs,.tup (s2.map PV.str),.tup s3,.tup s4,.tup (hs.map ao)]),some (.int i),some (.tup (b1++m7)),some (.ref (G.length+1+1)),some (.int 3),some (.ref (G.length+3+1+1)),none,none] (bB ns::bh (k5+O.length) o::(G++[.lst [.tup m0,.tup m1,.tup m2,.tup m3],.lst m7,.lst (O.map ao),.lst (os.map ao)])):=fun rest=>by
  simp? (disch:=omega) only [o3]
 generalize hk6:k5+(O.length:Int)=k6 at A5
 obtain ⟨g',o4⟩:=wB T (j+2) (b:=G.length+3) (x:=bB ns) (y:=bh k6 o) (B:=G++[.lst [.tup m0,.tup m1,.tup m2,.tup m3],.lst m7,.lst (O.map ao),.lst (os.map ao)]) (os:=os) (by rw [aH];rfl) (some (.ref 1)) (some (.tup [.tup bs,.tup (s2.map PV.str),.tup s3,.tup s4,.tup (hs.map ao)])) (some (.int i)) (some (.tup (b1++m7))) (some (.ref (G.length+1+1))) (some (.int 3)) (some (.ref (G.length+3+1+1))) none none os [] [] o2 (by simp;omega)
 rw [List.map_nil,List.nil_append,List.append_nil,List.nil_append] at o4
 have l3':(os.map dU).length<=4:=by rw [List.length_map,o1];exact lO
 generalize os.map dU=ot at o4 l3'
 generalize hJ:G++[PO.lst [.tup m0,.tup m1,.tup m2,.tup m3],.lst m7,.lst (O.map ao),.lst (os.map ao)]++g'=J at o4
 have A6: ∀ rest,ag (ak (iA 2 (iE (ab 6)) (gT 2 (aR (gN 9) (aR (gN 10) dF))) bQ (ay (aa (ab 9) (aa (eB aJ (aa (iA 1 (iE (ab 10)) (gN 11) (ar (af gS (af aq (ab 11) (eC (.int 0))) (eC (.str "leap")))) (ab 11)) ae)) ae)))) (gN 6)) rest (run pg (j+2)) [some (.ref 1),some (.tup [.tup bs,.tup (s2.map PV.str),.tup s3,.tup s4,.tup (hs.map ao)]),some (.int i),some (.tup (b1++m7)),some (.ref (G.length+1+1)),some (.int 3),some (.ref (G.length+3+1+1)),none,none] (bB ns::bh k6 o::(G++[.lst [.tup m0,.tup m1,.tup m2,.tup m3],.lst m7,.lst (O.map ao),.lst (os.map ao)]))=rest (run pg (j+2)) [some (.ref 1),some (.tup [.tup bs,.tup (s2.map PV.str),.tup s3,.tup s4,.tup (hs.map ao)]),some (.int i),some (.tup (b1++m7)),some (.ref (G.length+1+1)),some (.int 3),some (.ref (J.length+1+1)),none,none] (bB ns::bh k6 o::(J++[.lst (ot.map ao)])):=fun rest=>by
  simp? (disch:=omega) only [o4]
 have Jm:J[G.length]?=some (.lst [.tup m0,.tup m1,.tup m2,.tup m3]):=by rw [<- hJ,List.append_assoc];exact bp
 obtain ⟨c,d0,d1,ec⟩:=ba T j (J++[.lst (ot.map ao)]) hn o (k:=k6) 3 (by omega) (by omega) (by decide) (by decide)
 obtain ⟨O4,Q,n4,q1,q2,q3,A7⟩: ∃ (O4:List (Str × List Rw)) (Q:PH) (n4:Nat),(J++Q)[n4]?=some (.lst (O4.map ao))∧O4.length<=4∧True∧ ∀ rest,ag (bu (ar (af cu (ah "_law_pick" (aa (ab 0) (aa (eC (.int 3)) ae))) (eC (.int 0)))) (ak (aQ ae) (gN 6)) bD) rest (run pg (j+2)) [some (.ref 1),some (.tup [.tup bs,.tup (s2.map PV.str),.tup s3,.tup s4,.tup (hs.map ao)]),some (.int i),some (.tup (b1++m7)),some (.ref (G.length+1+1)),some (.int 3),some (.ref (J.length+1+1)),none,none] (bB ns::bh k6 o::(J++[.lst (ot.map ao)]))=rest (run pg (j+2)) [some (.ref 1),some (.tup [.tup bs,.tup (s2.map PV.str),.tup s3,.tup s4,.tup (hs.map ao)]),some (.int i),some (.tup (b1++m7)),some (.ref (G.length+1+1)),some (.int 3),some (.ref (n4+1+1)),none,none] (bB ns::bh (k6+1) o::(J++Q)):=by
  by_cases z:c=0
  · subst z
    refine ⟨[],[.lst (ot.map ao),.lst []],J.length+1,by rw [aH];rfl,Nat.zero_le _,trivial,fun rest=>?_⟩
    simp? (disch:=omega) only [ec]
  · refine ⟨ot,[.lst (ot.map ao)],J.length,bp,l3',trivial,fun rest=>?_⟩
    simp? (disch:=omega) only [ec,z]
 obtain ⟨a,a0,a1,ea⟩:=ba T j (J++Q) hn o (k:=k6+1) (O4.length+1) (by omega) (by omega) (by omega) (by omega)
 obtain ⟨n,rfl⟩:=Int.eq_ofNat_of_zero_le a0
 have ct:dy (O4.map ao) none (some (n:Int))=(O4.take n).map ao:=by rw [P3.jl (by omega),List.map_take];rfl
 have cf:dy (O4.map ao) (some (n:Int)) none=(O4.drop n).map ao:=by rw [P3.eS (by omega),List.map_drop];rfl
 have q1': ∀ x,(J++(Q++[x]))[n4]?=some (.lst (O4.map ao)):=fun x=>by rw [<- List.append_assoc,aM (bq q1)];exact q1
 have Jm': ∀ y:PH,(J++y)[G.length]?=some (.lst [.tup m0,.tup m1,.tup m2,.tup m3]):=fun y=>(aM (bq Jm)).trans Jm
 have hh:ao hd= .tup [.str hd.1,aA hd.2]:=rfl
 have lt1:((O4.take n).map ao).length<=4:=by rw [List.length_map,List.length_take];omega
 have lt2:((O4.drop n).map ao).length<=4:=by rw [List.length_map,List.length_drop];omega
 have len1:(s2.map PV.str).length<=10:=l2
 refine ⟨.tup [.tup (b1++m7),.tup (s2.map PV.str++m1),.tup (m2++s3),.tup (s4++m3),.tup ((O4.take n).map ao++[ao hd]++(O4.drop n).map ao)],n,k6+1+1,⟨_,_,_,_,_,.str hd.1,rfl,P3.d6 rfl ?_⟩,by omega,by omega,?_⟩
 · have ln:((O4.take n).map ao).length=n:=by rw [List.length_map,List.length_take];omega
   rw [List.append_assoc,List.getElem?_append_right (by omega),ln,Nat.sub_self];rfl
 rw [run_eq T.qH rfl]
 unfold dE gq
 refine (congrArg (fin _) ((A1 _).trans ((A2 _).trans ((A3 _).trans ((A4 _).trans ((A5 _).trans ((A6 _).trans (A7 _)))))))).trans ?_
 have fm: ∀ x:List PV,PV.aT x=true-> ∀ y:List PV,PV.aT y=true->PV.aT (x++y)=true:=fun x hx y hy=>by
  induction x with
  | nil=>exact hy
  | cons a r ih=>simp only [PV.aT,Bool.and_eq_true] at hx;simp only [List.cons_append,PV.aT,hx.1,ih hx.2,Bool.and_self]
 have pf:=P.flat
 simp only [PV.flat,PV.aT,Bool.and_eq_true] at pf
 have p1: ∀ h,aG (.tup ((O4.take n).map ao)) (.tup [ao hd]) h= .ok (.tup ((O4.take n).map ao++[ao hd])) h:=fun h=>iF (by rw [List.length_singleton];omega)
 have p2: ∀ h,aG (.tup ((O4.take n).map ao++[ao hd])) (.tup ((O4.drop n).map ao)) h= .ok (.tup ((O4.take n).map ao++[ao hd]++(O4.drop n).map ao)) h:=fun h=>iF (by rw [List.length_append,List.length_singleton];omega)
 have p3: ∀ h,aG (.tup (s2.map PV.str)) (.tup m1) h= .ok (.tup (s2.map PV.str++m1)) h:=fun h=>iF (by omega)
 have p4: ∀ h,aG (.tup m2) (.tup s3) h= .ok (.tup (m2++s3)) h:=fun h=>iF (by omega)
 have p5: ∀ h,aG (.tup s4) (.tup m3) h= .ok (.tup (s4++m3)) h:=fun h=>iF (by omega)
 simp? (disch:=omega) only [q1,q1',ea,ct,cf,at4,<- hh,Jm',wJ,B9,IL,LI,List.length_map,p1,p2,p3,p4,p5]
 rw [<- hJ,<- hG]
 simp only [List.append_assoc,List.cons_append,List.nil_append]
 refine cM ?_
 have hf:(ao hd).flat=true:=by rw [hh];simp only [PV.flat,PV.aT,aA,j7,Bool.and_self]
 simp only [PV.flat,PV.aT,fm _ c2 _ f7,fm _ pf.2.1 _ y2,fm _ z2 _ pf.2.2.1,fm _ pf.2.2.2.1 _ w2,fm _ (gK _) _ (show PV.aT (ao hd::(O4.drop n).map ao)=true by rw [PV.aT,hf,gK];rfl),Bool.and_self]
end
end K12
end
section
open PySem L2 P3
set_option maxHeartbeats 1000000
namespace K12
noncomputable def room:Nat:=20
noncomputable def nj:MS:=(bu (lh (ar (ah "_law_pieces_right" (aa (af aq (aQ (aa (ab 2) (aa (ab 7) ae))) (ab 3)) (aa (af aq (aQ (aa (ab 4) (aa (ab 8) ae))) (ab 3)) (aa (ab 6) (aa (ab 9) (aa (ab 11) ae)))))))) (aB (eC (.bl false))) bD)
noncomputable def tQ:MS:=(ag (ak (ah "_law_pick" (aa (ab 1) (aa (eB bE (aa (af aq (ab 2) (eC (.int 4))) ae)) ae))) (gN 4)) (ag (ak (af aq (af aq (af aq (ab 2) (eC (.int 4))) (ab 4)) (eC (.int 1))) (gN 5)) (ag (ak (ah "_law_rested" (aa (ab 5) (aa (ay (aa (eC (.int 0)) (aa (ay ae) (aa (ay ae) ae)))) ae))) (gN 6)) (ag (ak (ah "_law_other" (aa (ab 1) (aa (ab 2) (aa (ab 4) ae)))) (gT 2 (aR (gN 7) (aR (gN 8) dF)))) (ag (bu (EK (lh (ar (ah "_law_same" (aa (ah "first_seat" (aa (ab 2) (aa (ab 4) ae))) (aa (ab 6) ae))))) (lh (ar (ah "_law_same" (aa (ah "first_seat" (aa (ab 7) (aa (ab 8) ae))) (aa (ab 6) ae)))))) (aB (eC (.bl false))) bD) (ag (ak (ah "_law_values" (aa (ab 1) (aa (ab 5) (aa (ab 6) (aa (eC (.int 60)) ae))))) (gN 9)) (ag (ak (ah "course" (aa (ab 2) (aa (ab 4) (aa (ab 6) (aa (ab 9) ae))))) (gN 10)) (ag (bu (lh (ar (ah "_law_same" (aa (ab 10) (aa (ah "_law_course" (aa (ab 5) (aa (ab 6) (aa (ab 9) ae)))) ae))))) (aB (eC (.bl false))) bD) (ag (bu (lh (ar (ah "_law_same" (aa (ah "course" (aa (ab 7) (aa (ab 8) (aa (ab 6) (aa (ab 9) ae))))) (aa (ab 10) ae))))) (aB (eC (.bl false))) bD) (ag (ak (ah "_law_pick" (aa (ab 1) (aa (af aG (eB bE (aa (ab 9) ae)) (eC (.int 1))) ae))) (gN 11)) nj))))))))))
section
variable {pg:Tb} (T:dc pg)
include T
theorem AR (k:Nat) {ns:List Int} (hn:ns.length<=63) {L t:List Str} {hs:List (Str × List Rw)} {p:PV} (P:nv L t hs p) (xs0:List PV) (o:Option Int) (u0:Option PV) :
  ∀ (js:List Nat) (kk:Int) (g:PH) (u3 u4 u5 u6 u7 u8 u9 u10 u11:Option PV),(∀ i∈js,i < 2)->0<=kk->kk+1000*js.length<=900000-> ∃ (h':PH) (e':ax),
   cF ⟨none,xs0⟩ (iS (gN 3) tQ (run pg (k+13))) (js.map fun i:Nat=>PV.int (0+(i:Int))) [u0,some (.ref 1),some p,u3,u4,u5,u6,u7,u8,u9,u10,u11] (bB ns::bh kk o::g)= .ok (.nx e') h':=by
 intro js
 induction js with
 | nil=>intro kk g u3 u4 u5 u6 u7 u8 u9 u10 u11 _ _ _;exact ⟨_,_,ku⟩
 | cons i js ih =>
  intro kk g u3 u4 u5 u6 u7 u8 u9 u10 u11 hi k0 k9
  rw [List.length_cons] at k9
  have hm:=P.many
  have hL:L.length<=20:=Nat.le_trans P.len (by decide)
  obtain ⟨hx,hi0,hi1,eh⟩:=ba T (k+11) g hn o (k:=kk) hs.length k0 (by omega) (by omega) (by omega)
  obtain ⟨n,rfl⟩:=Int.eq_ofNat_of_zero_le hi0
  obtain ⟨hd,ei⟩: ∃ hd,hs[n]?=some hd:=⟨_,List.getElem?_eq_getElem (by omega)⟩
  obtain ⟨ha,hr⟩:=P.hand T ei
  have rl:=(P.rows hd (List.mem_of_getElem? ei)).1
  have hM:=zR hd.2 []
  have lM:(lL hd.2++[]).length<=60:=by
   have h1:(lL hd.2).length<=hd.2.length:=List.length_filterMap_le _ _
   rw [List.append_nil];omega
  have h0:cx L hd.2 ⟨0,[],[]⟩:=⟨.nil,Nat.zero_le _⟩
  have zero:PV.tup [.int 0,.tup [],.tup []]=aj ⟨0,[],[]⟩:=rfl
  have f1: ∀ h,run pg (k+13) "_law_rested" [aA hd.2,aj ⟨0,[],[]⟩] h=_:=fun h=>iT T (k+3) h hL hr h0
  have f2: ∀ h,run pg (k+13) "first_seat" [p,.int n] h=_:=fun h=>i4 T (k+2) h hL ha hr
  have hS:rK L (lL hd.2++[]) hd.2 (az hd.2 200 ⟨0,[],[]⟩):=⟨jy hr 200 _ h0,gJ 200 _,by rw [fh];exact .nil,fun x m=>by rw [fh] at m;exact nomatch m⟩
  generalize hs0:az hd.2 200 ⟨0,[],[]⟩=S at f1 f2 hS
  obtain ⟨op,n',k1,ho,c1,c2,c3⟩:=Az T (k+10) hn P ei (kk+1) o g (by omega) (by omega)
  rw [show k+10+3=k+13 from rfl] at c3
  have f3: ∀ h,run pg (k+13) "first_seat" [op,.int n'] h= .ok (aj S) h:=fun h=>by rw [<- hs0];exact i4 T (k+2) h hL ho hr
  have ss: ∀ h,run pg (k+13) "_law_same" [aj S,aj S] h= .ok (.bl true) h:=fun h=>same_refl T (k+12) h _ (jn _ (by have:=hS.ok.pk.len;omega) (by have:=hS.len;omega)) (Nat.le_trans (qR _) (by omega))
  obtain ⟨vs,k2,b1,b2,b3,b4,b5⟩:=wd T (k+1) hn hL hr hM lM 60 o g hS k1 (by omega) (by omega)
  rw [show k+1+12=k+13 from rfl] at b5
  have d1: ∀ h,run pg (k+13) "_law_course" [aA hd.2,aj S,.tup (vs.map PV.int)] h=_:=fun h=>oE T (k+1) h hL hr hM lM b1 hS
  have d2: ∀ h,run pg (k+13) "course" [p,.int n,aj S,.tup (vs.map PV.int)] h=_:=fun h=>gb T (k+1) h hL ha hr hM lM b1 hS
  have d3: ∀ h,run pg (k+13) "course" [op,.int n',aj S,.tup (vs.map PV.int)] h=_:=fun h=>gb T (k+1) h hL ho hr hM lM b1 hS
  have tp:=dP (rs:=hd.2) 60 S vs
  have cs:=jI hM hr 60 S vs hS b1
  have sm: ∀ h,run pg (k+13) "_law_same" [fz (dH hd.2 60 S vs),fz (dH hd.2 60 S vs)] h= .ok (.bl true) h:=fun h=>same_refl T (k+12) h _ (by
   have sp:=jn (dH hd.2 60 S vs).2 (by have:=cs.ok.pk.len;omega) (by have:=cs.len;omega)
   have q:(dH hd.2 60 S vs).1.length<=100000:=by omega
   simp [fz,dh,cR,tp.1,sp,q]) (by
   have sd:=qR (dH hd.2 60 S vs).2
   have:=tp.2.1
   simp only [fz,si,sH];omega)
  generalize dH hd.2 60 S vs=q at d1 d2 d3 sm
  obtain ⟨pc,p0,p9,ep⟩:=ba T (k+11) g hn o (k:=k2) (vs.length+1) (by omega) (by omega) (by omega) (by omega)
  obtain ⟨pl,rfl⟩:=Int.eq_ofNat_of_zero_le p0
  have e1: ∀ h,run pg (k+13) "_law_pieces_right" [p,.int n,aj S,.tup (vs.map PV.int),.int pl] h=_:=fun h=>pK T k h hL ha hr hM lM b1 hS pl
  have e2: ∀ h,run pg (k+13) "_law_pieces_right" [op,.int n',aj S,.tup (vs.map PV.int),.int pl] h=_:=fun h=>pK T k h hL ho hr hM lM b1 hS pl
  have ta:nj (run pg (k+13)) [u0,some (.ref 1),some p,some (.int i),some (.int n),some (aA hd.2),some (aj S),some op,some (.int n'),some (.tup (vs.map PV.int)),some (fz q),some (.int pl)] (bB ns::bh (k2+1) o::g)= .ok (.nx [u0,some (.ref 1),some p,some (.int i),some (.int n),some (aA hd.2),some (aj S),some op,some (.int n'),some (.tup (vs.map PV.int)),some (fz q),some (.int pl)]) (bB ns::bh (k2+1) o::(g++[.lst [p,op],.lst [.int n,.int n']])):=by
   have:=hi i List.mem_cons_self
   rcases (show i=0∨i=1 by omega) with rfl | rfl
   · rw [show ((0:Nat):Int)=0 from rfl]
     simp? (disch:=omega) only [nj,wJ,e1]
   · rw [show ((1:Nat):Int)=1 from rfl]
     simp? (disch:=omega) only [nj,B9,e2]
  obtain ⟨h',e',fi⟩:=ih (k2+1) (g++[.lst [p,op],.lst [.int n,.int n']]) (some (.int i)) (some (.int n)) (some (aA hd.2)) (some (aj S)) (some op) (some (.int n')) (some (.tup (vs.map PV.int))) (some (fz q)) (some (.int pl)) (fun x m=>hi x (List.mem_cons_of_mem _ m)) (by omega) (by omega)
  refine ⟨h',e',?_⟩
  rw [List.map_cons,fV]
  have iz:(0:Int)+(i:Int)=(i:Int):=Int.zero_add _
  have at4:=kf (h:=bB ns::bh (kk+1) o::g) (xs:=hs.map ao) (i:=n) (v:= .tup [.str hd.1,aA hd.2]) (P3.d6 rfl (by rw [List.getElem?_map,ei];rfl))
  obtain ⟨bs,s3,s4,rfl⟩:=P.at_
  unfold tQ at fi ⊢
  simp? (disch:=omega) only [iz,List.length_map,eh,at4,zero,f1,c3,f2,f3,ss,b5,d2,d1,sm,d3,ep,ta,cP,fi]
end
theorem AQ: ∀ ns:List Int,ns.length<=63->Ok (run tb (room+1) "law" [.ref 0] [.j4 (ns.map PV.int)]) fun v _=>v= .bl true:=by
 intro ns hn
 have T:dc tb:=has
 show Ok (run tb (20+1) "law" [.ref 0] [bB ns]) _
 rw [run_eq T.EH rfl]
 have dk:Fm (0+1) [((.inr "script" :Key),PV.ref 0),(.inr "k",.int 0)] [bB ns,.dct []]= .ok (.ref 1) [bB ns,bh 0 none]:=by
  have mk:bJ [] [((.inr "script" :Key),PV.ref 0),(.inr "k",.int 0)]=[(.inr "script",.ref 0),(.inr "k",.int 0)]:=by simp [bJ,er,aP]
  have:=zp (h:=[bB ns,.dct []]) (n:=1) (kvs:=[((.inr "script" :Key),PV.ref 0),(.inr "k",.int 0)]) rfl (show 2<=15 by decide)
  rw [mk] at this;exact this
 obtain ⟨L1,t1,hs1,p1,k1,o1,P1,a1,a2,a3⟩:=ud T 10 hn 0 none [] (by decide) (by decide)
 obtain ⟨h',e',le⟩:=AR T 7 hn P1 (bF 0 2) o1 (some (.ref 0)) (List.range 2) k1 [] none none none none none none none none none (fun i m=>List.mem_range.mp m) (by omega) (by rw [List.length_range];omega)
 rw [show (List.range 2).map (fun i:Nat=>PV.int (0+(i:Int)))=bF 0 2 from rfl] at le
 unfold tQ nj at le
 simp? (disch:=omega) only [sU,AJ,lJ,qm,lX,qL,qK,pU,dk,a3,le]
 unfold P3.settle
 split<;>exact ⟨_,_,rfl,rfl⟩
end K12
end
section
open PySem PySem.W PyProof.Rows
set_option maxHeartbeats 8000000
namespace K12
open PySem L2 P3 PyProof.Rows
theorem all_mk {l:PySem.W.OpenLaw} {w:World} {K:PySem.W.Frag} {h:Heap} {mg:Str->Option Value} {fa:Addr} (X:K.In h) (G:h.Ns mainGlobals mg) (hfa:mg "law" =some (.ref fa)) {tWORTHS:Tok} {tMOST_OWN_ROWS:Tok} {tMOST_TOUCHES:Tok} {aPOCKETING:Addr} {nPOCKETING:Nat} {dPOCKETING:Option Addr} {sPOCKETING:Array (Option Value)} {tPOCKETING0 tPOCKETING1 tPOCKETING2 tPOCKETING3 tPOCKETING4:Tok} {aROW_PARTS:Addr} {eROW_PARTS:Nat} {qROW_PARTS0 qROW_PARTS1 qROW_PARTS2 qROW_PARTS3 qROW_PARTS4 qROW_PARTS5 qROW_PARTS6 qROW_PARTS7 qROW_PARTS8 qROW_PARTS9 qROW_PARTS10 qROW_PARTS11:Tok} {rROW_PARTS0:Addr} {nROW_PARTSv0_:Nat} {dROW_PARTSv0_:Option Addr} {sROW_PARTSv0_:Array (Option Value)} {tROW_PARTSv0_0 tROW_PARTSv0_1:Tok} {rROW_PARTS1:Addr} {nROW_PARTSv1_:Nat} {dROW_PARTSv1_:Option Addr} {sROW_PARTSv1_:Array (Option Value)} {tROW_PARTSv1_0 tROW_PARTSv1_1:Tok} {rROW_PARTS2:Addr} {nROW_PARTSv2_:Nat} {dROW_PARTSv2_:Option Addr} {sROW_PARTSv2_:Array (Option Value)} {tROW_PARTSv2_0 tROW_PARTSv2_1:Tok} {rROW_PARTS3:Addr} {nROW_PARTSv3_:Nat} {dROW_PARTSv3_:Option Addr} {sROW_PARTSv3_:Array (Option Value)} {tROW_PARTSv3_0 tROW_PARTSv3_1:Tok} {rROW_PARTS4:Addr} {nROW_PARTSv4_:Nat} {dROW_PARTSv4_:Option Addr} {sROW_PARTSv4_:Array (Option Value)} {tROW_PARTSv4_0:Tok} {rROW_PARTS5:Addr} {nROW_PARTSv5_:Nat} {dROW_PARTSv5_:Option Addr} {sROW_PARTSv5_:Array (Option Value)} {tROW_PARTSv5_0:Tok} {rROW_PARTS6:Addr} {nROW_PARTSv6_:Nat} {dROW_PARTSv6_:Option Addr} {sROW_PARTSv6_:Array (Option Value)} {tROW_PARTSv6_0 tROW_PARTSv6_1:Tok} {rROW_PARTS7:Addr} {nROW_PARTSv7_:Nat} {dROW_PARTSv7_:Option Addr} {sROW_PARTSv7_:Array (Option Value)} {tROW_PARTSv7_0 tROW_PARTSv7_1:Tok} {rROW_PARTS8:Addr} {nROW_PARTSv8_:Nat} {dROW_PARTSv8_:Option Addr} {sROW_PARTSv8_:Array (Option Value)} {tROW_PARTSv8_0 tROW_PARTSv8_1:Tok} {rROW_PARTS9:Addr} {nROW_PARTSv9_:Nat} {dROW_PARTSv9_:Option Addr} {sROW_PARTSv9_:Array (Option Value)} {tROW_PARTSv9_0:Tok} {rROW_PARTS10:Addr} {nROW_PARTSv10_:Nat} {dROW_PARTSv10_:Option Addr} {sROW_PARTSv10_:Array (Option Value)} {tROW_PARTSv10_0 tROW_PARTSv10_1:Tok} {rROW_PARTS11:Addr} {nROW_PARTSv11_:Nat} {dROW_PARTSv11_:Option Addr} {sROW_PARTSv11_:Array (Option Value)} {tROW_PARTSv11_0 tROW_PARTSv11_1:Tok}
  (A0:At K mg "worth" (top 3))
  (A1:At K mg "joined_worth" (top 4))
  (A2:At K mg "rows_of" (top 6))
  (A3:At K mg "first_seat" (top 11))
  (A4:At K mg "rested" (top 12))
  (A5:At K mg "is_rested" (top 13))
  (A6:At K mg "is_own_row" (top 14))
  (A7:At K mg "behind_own_row" (top 15))
  (A8:At K mg "laid" (top 16))
  (A9:At K mg "touch_of" (top 17))
  (A10:At K mg "seat_behind" (top 18))
  (A11:At K mg "course" (top 19))
  (A12:At K mg "_law_draw" (top 21))
  (A13:At K mg "_law_pick" (top 22))
  (A14:At K mg "_law_names" (top 23))
  (A15:At K mg "_law_sum_in" (top 24))
  (A16:At K mg "_law_sum" (top 25))
  (A17:At K mg "_law_row" (top 26))
  (A18:At K mg "_law_program" (top 27))
  (A19:At K mg "_law_worth" (top 28))
  (A20:At K mg "_law_own" (top 29))
  (A21:At K mg "_law_rested" (top 30))
  (A22:At K mg "_law_touch" (top 31))
  (A23:At K mg "_law_behind" (top 32))
  (A24:At K mg "_law_value" (top 33))
  (A25:At K mg "_law_course" (top 34))
  (A26:At K mg "_law_values" (top 35))
  (A27:At K mg "_law_same" (top 36))
  (A28:At K mg "_law_other" (top 37))
  (A29:At K mg "_law_pieces_right" (top 38))
  (A30:At K mg "law" (top 39))
  (z0:PySem.W.nsIn K mainGlobals "len" =some none)
  (z1:PySem.W.nsIn K mainGlobals "range" =some none)
  (z2:PySem.W.nsIn K mainGlobals "isinstance" =some none)
  (z3:PySem.W.nsIn K mainGlobals "int" =some none)
  (z4:PySem.W.nsIn K mainGlobals "bool" =some none)
  (z5:PySem.W.nsIn K mainGlobals "tuple" =some none)
  (z6:PySem.W.nsIn K mainGlobals "dict" =some none)
  (z7:PySem.W.nsIn K mainGlobals "sorted" =some none)
  (z8:PySem.W.nsIn K mainGlobals "min" =some none)
  (z9:PySem.W.nsIn K mainGlobals "max" =some none)
  (z10:PySem.W.nsIn K mainGlobals "abs" =some none)
  (z11:PySem.W.nsIn K mainGlobals "all" =some none)
  (z12:PySem.W.nsIn K mainGlobals "any" =some none)
  (z13:PySem.W.nsIn K mainGlobals "sum" =some none)
  (z14:PySem.W.nsIn K mainGlobals "str" =some none)
  (z15:PySem.W.nsIn K mainGlobals "list" =some none)
  (z16:PySem.W.nsIn K mainGlobals "zip" =some none)
  (z17:PySem.W.nsIn K mainGlobals "set" =some none)
  (z18:PySem.W.nsIn K mainGlobals "repr" =some none)
  (z19:PySem.W.nsIn K mainGlobals "enumerate" =some none)
  (wWORTHS:PySem.W.nsIn K mainGlobals "WORTHS" =some (some (.int 1000 tWORTHS)))
  (wMOST_OWN_ROWS:PySem.W.nsIn K mainGlobals "MOST_OWN_ROWS" =some (some (.int 200 tMOST_OWN_ROWS)))
  (wMOST_TOUCHES:PySem.W.nsIn K mainGlobals "MOST_TOUCHES" =some (some (.int 60 tMOST_TOUCHES)))
  (wPOCKETING:PySem.W.nsIn K mainGlobals "POCKETING" =some (some (.ref aPOCKETING))) (oPOCKETING:K.lookup aPOCKETING=some ⟨.type "tuple",dPOCKETING,.seq #[.str "get" tPOCKETING0,.str "fetch" tPOCKETING1,.str "clock" tPOCKETING2,.str "lot" tPOCKETING3,.str "hear" tPOCKETING4] nPOCKETING,sPOCKETING⟩)
  (oROW_PARTSv0_:K.lookup rROW_PARTS0=some ⟨.type "tuple",dROW_PARTSv0_,.seq #[.str "pocket" tROW_PARTSv0_0,.str "sum" tROW_PARTSv0_1] nROW_PARTSv0_,sROW_PARTSv0_⟩)
  (oROW_PARTSv1_:K.lookup rROW_PARTS1=some ⟨.type "tuple",dROW_PARTSv1_,.seq #[.str "target" tROW_PARTSv1_0,.str "sum" tROW_PARTSv1_1] nROW_PARTSv1_,sROW_PARTSv1_⟩)
  (oROW_PARTSv2_:K.lookup rROW_PARTS2=some ⟨.type "tuple",dROW_PARTSv2_,.seq #[.str "pocket" tROW_PARTSv2_0,.str "box" tROW_PARTSv2_1] nROW_PARTSv2_,sROW_PARTSv2_⟩)
  (oROW_PARTSv3_:K.lookup rROW_PARTS3=some ⟨.type "tuple",dROW_PARTSv3_,.seq #[.str "box" tROW_PARTSv3_0,.str "sum" tROW_PARTSv3_1] nROW_PARTSv3_,sROW_PARTSv3_⟩)
  (oROW_PARTSv4_:K.lookup rROW_PARTS4=some ⟨.type "tuple",dROW_PARTSv4_,.seq #[.str "lock" tROW_PARTSv4_0] nROW_PARTSv4_,sROW_PARTSv4_⟩)
  (oROW_PARTSv5_:K.lookup rROW_PARTS5=some ⟨.type "tuple",dROW_PARTSv5_,.seq #[.str "lock" tROW_PARTSv5_0] nROW_PARTSv5_,sROW_PARTSv5_⟩)
  (oROW_PARTSv6_:K.lookup rROW_PARTS6=some ⟨.type "tuple",dROW_PARTSv6_,.seq #[.str "lane" tROW_PARTSv6_0,.str "sum" tROW_PARTSv6_1] nROW_PARTSv6_,sROW_PARTSv6_⟩)
  (oROW_PARTSv7_:K.lookup rROW_PARTS7=some ⟨.type "tuple",dROW_PARTSv7_,.seq #[.str "pocket" tROW_PARTSv7_0,.str "lane" tROW_PARTSv7_1] nROW_PARTSv7_,sROW_PARTSv7_⟩)
  (oROW_PARTSv8_:K.lookup rROW_PARTS8=some ⟨.type "tuple",dROW_PARTSv8_,.seq #[.str "door" tROW_PARTSv8_0,.str "sum" tROW_PARTSv8_1] nROW_PARTSv8_,sROW_PARTSv8_⟩)
  (oROW_PARTSv9_:K.lookup rROW_PARTS9=some ⟨.type "tuple",dROW_PARTSv9_,.seq #[.str "pocket" tROW_PARTSv9_0] nROW_PARTSv9_,sROW_PARTSv9_⟩)
  (oROW_PARTSv10_:K.lookup rROW_PARTS10=some ⟨.type "tuple",dROW_PARTSv10_,.seq #[.str "pocket" tROW_PARTSv10_0,.str "chances" tROW_PARTSv10_1] nROW_PARTSv10_,sROW_PARTSv10_⟩)
  (oROW_PARTSv11_:K.lookup rROW_PARTS11=some ⟨.type "tuple",dROW_PARTSv11_,.seq #[.str "pocket" tROW_PARTSv11_0,.str "door" tROW_PARTSv11_1] nROW_PARTSv11_,sROW_PARTSv11_⟩)
  (wROW_PARTS:PySem.W.nsIn K mainGlobals "ROW_PARTS" =some (some (.ref aROW_PARTS))) (oROW_PARTS:K.lookup aROW_PARTS=some { cls:= .type "dict",data:= .dict #[{ hash:=PyData.keyHash w.params "let",key:= .str "let" qROW_PARTS0,val:= .ref rROW_PARTS0 },{ hash:=PyData.keyHash w.params "leap",key:= .str "leap" qROW_PARTS1,val:= .ref rROW_PARTS1 },{ hash:=PyData.keyHash w.params "get",key:= .str "get" qROW_PARTS2,val:= .ref rROW_PARTS2 },{ hash:=PyData.keyHash w.params "put",key:= .str "put" qROW_PARTS3,val:= .ref rROW_PARTS3 },{ hash:=PyData.keyHash w.params "take",key:= .str "take" qROW_PARTS4,val:= .ref rROW_PARTS4 },{ hash:=PyData.keyHash w.params "free",key:= .str "free" qROW_PARTS5,val:= .ref rROW_PARTS5 },{ hash:=PyData.keyHash w.params "send",key:= .str "send" qROW_PARTS6,val:= .ref rROW_PARTS6 },{ hash:=PyData.keyHash w.params "fetch",key:= .str "fetch" qROW_PARTS7,val:= .ref rROW_PARTS7 },{ hash:=PyData.keyHash w.params "say",key:= .str "say" qROW_PARTS8,val:= .ref rROW_PARTS8 },{ hash:=PyData.keyHash w.params "clock",key:= .str "clock" qROW_PARTS9,val:= .ref rROW_PARTS9 },{ hash:=PyData.keyHash w.params "lot",key:= .str "lot" qROW_PARTS10,val:= .ref rROW_PARTS10 },{ hash:=PyData.keyHash w.params "hear",key:= .str "hear" qROW_PARTS11,val:= .ref rROW_PARTS11 }] eROW_PARTS }) (yROW_PARTS:(aROW_PARTS == sysModules)=false) :
  ∃ fd:FuncData,(∀ (s:Shared) (v:Value),BindsTo s fd ⟨[v],[]⟩ [("_law_script",v)])∧ ∀ base:Heap,K.In base->base.Ns mainGlobals mg->jC l.prog w K mg base q8 (room+1) fa fd ["_law_script"] (uI K tb (room+1) "law"):=by
 have T:Top l.prog w K mg tb:=⟨(List.forall_mem_cons.mpr ⟨PySem.W.mg_none_of X G z0,(List.forall_mem_cons.mpr ⟨PySem.W.mg_none_of X G z1,(List.forall_mem_cons.mpr ⟨PySem.W.mg_none_of X G z2,(List.forall_mem_cons.mpr ⟨PySem.W.mg_none_of X G z3,(List.forall_mem_cons.mpr ⟨PySem.W.mg_none_of X G z4,(List.forall_mem_cons.mpr ⟨PySem.W.mg_none_of X G z5,(List.forall_mem_cons.mpr ⟨PySem.W.mg_none_of X G z6,(List.forall_mem_cons.mpr ⟨PySem.W.mg_none_of X G z7,(List.forall_mem_cons.mpr ⟨PySem.W.mg_none_of X G z8,(List.forall_mem_cons.mpr ⟨PySem.W.mg_none_of X G z9,(List.forall_mem_cons.mpr ⟨PySem.W.mg_none_of X G z10,(List.forall_mem_cons.mpr ⟨PySem.W.mg_none_of X G z11,(List.forall_mem_cons.mpr ⟨PySem.W.mg_none_of X G z12,(List.forall_mem_cons.mpr ⟨PySem.W.mg_none_of X G z13,(List.forall_mem_cons.mpr ⟨PySem.W.mg_none_of X G z14,(List.forall_mem_cons.mpr ⟨PySem.W.mg_none_of X G z15,(List.forall_mem_cons.mpr ⟨PySem.W.mg_none_of X G z16,(List.forall_mem_cons.mpr ⟨PySem.W.mg_none_of X G z17,(List.forall_mem_cons.mpr ⟨PySem.W.mg_none_of X G z18,(List.forall_mem_cons.mpr ⟨PySem.W.mg_none_of X G z19,(by intro p m;cases m)⟩)⟩)⟩)⟩)⟩)⟩)⟩)⟩)⟩)⟩)⟩)⟩)⟩)⟩)⟩)⟩)⟩)⟩)⟩)⟩),BB (conT:=conT) rfl (List.forall_mem_cons.mpr ⟨uv (PySem.W.mg_of X G wWORTHS) (.int _ _),(List.forall_mem_cons.mpr ⟨uv (PySem.W.mg_of X G wMOST_OWN_ROWS) (.int _ _),(List.forall_mem_cons.mpr ⟨uv (PySem.W.mg_of X G wMOST_TOUCHES) (.int _ _),(List.forall_mem_cons.mpr ⟨DK (us:=[.str "get" tPOCKETING0,.str "fetch" tPOCKETING1,.str "clock" tPOCKETING2,.str "lot" tPOCKETING3,.str "hear" tPOCKETING4]) (PySem.W.mg_of X G wPOCKETING) oPOCKETING (by show 5<=sizeLine;decide) (.cons (.str _ _) (.cons (.str _ _) (.cons (.str _ _) (.cons (.str _ _) (.cons (.str _ _) .nil))))),(by intro p m;cases m)⟩)⟩)⟩)⟩),DQ (dcT:=dcT) rfl (List.forall_mem_cons.mpr ⟨IC (ls:=[("let",qROW_PARTS0,.ref rROW_PARTS0),("leap",qROW_PARTS1,.ref rROW_PARTS1),("get",qROW_PARTS2,.ref rROW_PARTS2),("put",qROW_PARTS3,.ref rROW_PARTS3),("take",qROW_PARTS4,.ref rROW_PARTS4),("free",qROW_PARTS5,.ref rROW_PARTS5),("send",qROW_PARTS6,.ref rROW_PARTS6),("fetch",qROW_PARTS7,.ref rROW_PARTS7),("say",qROW_PARTS8,.ref rROW_PARTS8),("clock",qROW_PARTS9,.ref rROW_PARTS9),("lot",qROW_PARTS10,.ref rROW_PARTS10),("hear",qROW_PARTS11,.ref rROW_PARTS11)]) (PySem.W.mg_of X G wROW_PARTS) oROW_PARTS yROW_PARTS (show ([.inr "let",.inr "leap",.inr "get",.inr "put",.inr "take",.inr "free",.inr "send",.inr "fetch",.inr "say",.inr "clock",.inr "lot",.inr "hear"]:List Key).Nodup by decide +kernel) (.cons ⟨rfl,eE (us:=[.str "pocket" tROW_PARTSv0_0,.str "sum" tROW_PARTSv0_1]) oROW_PARTSv0_ (by show 2<=sizeLine;decide) (.cons (.str _ _) (.cons (.str _ _) .nil))⟩ (.cons ⟨rfl,eE (us:=[.str "target" tROW_PARTSv1_0,.str "sum" tROW_PARTSv1_1]) oROW_PARTSv1_ (by show 2<=sizeLine;decide) (.cons (.str _ _) (.cons (.str _ _) .nil))⟩ (.cons ⟨rfl,eE (us:=[.str "pocket" tROW_PARTSv2_0,.str "box" tROW_PARTSv2_1]) oROW_PARTSv2_ (by show 2<=sizeLine;decide) (.cons (.str _ _) (.cons (.str _ _) .nil))⟩ (.cons ⟨rfl,eE (us:=[.str "box" tROW_PARTSv3_0,.str "sum" tROW_PARTSv3_1]) oROW_PARTSv3_ (by show 2<=sizeLine;decide) (.cons (.str _ _) (.cons (.str _ _) .nil))⟩ (.cons ⟨rfl,eE (us:=[.str "lock" tROW_PARTSv4_0]) oROW_PARTSv4_ (by show 1<=sizeLine;decide) (.cons (.str _ _) .nil)⟩ (.cons ⟨rfl,eE (us:=[.str "lock" tROW_PARTSv5_0]) oROW_PARTSv5_ (by show 1<=sizeLine;decide) (.cons (.str _ _) .nil)⟩ (.cons ⟨rfl,eE (us:=[.str "lane" tROW_PARTSv6_0,.str "sum" tROW_PARTSv6_1]) oROW_PARTSv6_ (by show 2<=sizeLine;decide) (.cons (.str _ _) (.cons (.str _ _) .nil))⟩ (.cons ⟨rfl,eE (us:=[.str "pocket" tROW_PARTSv7_0,.str "lane" tROW_PARTSv7_1]) oROW_PARTSv7_ (by show 2<=sizeLine;decide) (.cons (.str _ _) (.cons (.str _ _) .nil))⟩ (.cons ⟨rfl,eE (us:=[.str "door" tROW_PARTSv8_0,.str "sum" tROW_PARTSv8_1]) oROW_PARTSv8_ (by show 2<=sizeLine;decide) (.cons (.str _ _) (.cons (.str _ _) .nil))⟩ (.cons ⟨rfl,eE (us:=[.str "pocket" tROW_PARTSv9_0]) oROW_PARTSv9_ (by show 1<=sizeLine;decide) (.cons (.str _ _) .nil)⟩ (.cons ⟨rfl,eE (us:=[.str "pocket" tROW_PARTSv10_0,.str "chances" tROW_PARTSv10_1]) oROW_PARTSv10_ (by show 2<=sizeLine;decide) (.cons (.str _ _) (.cons (.str _ _) .nil))⟩ (.cons ⟨rfl,eE (us:=[.str "pocket" tROW_PARTSv11_0,.str "door" tROW_PARTSv11_1]) oROW_PARTSv11_ (by show 2<=sizeLine;decide) (.cons (.str _ _) (.cons (.str _ _) .nil))⟩ .nil)))))))))))),(by intro p m;cases m)⟩)⟩
 have gs: ∀ p∈gP,∃ st N,aU l.prog w K mg tb p.1 p.2 st N:=(List.forall_mem_cons.mpr ⟨⟨_,_,C2 has A0⟩,(List.forall_mem_cons.mpr ⟨⟨_,_,nJ has A1⟩,(List.forall_mem_cons.mpr ⟨⟨_,_,wH has A2⟩,(List.forall_mem_cons.mpr ⟨⟨_,_,qc has A3⟩,(List.forall_mem_cons.mpr ⟨⟨_,_,zT has A4⟩,(List.forall_mem_cons.mpr ⟨⟨_,_,rp has A5⟩,(List.forall_mem_cons.mpr ⟨⟨_,_,qE has A6⟩,(List.forall_mem_cons.mpr ⟨⟨_,_,kH has A7⟩,(List.forall_mem_cons.mpr ⟨⟨_,_,E7 has A8⟩,(List.forall_mem_cons.mpr ⟨⟨_,_,tH has A9⟩,(List.forall_mem_cons.mpr ⟨⟨_,_,oC has A10⟩,(List.forall_mem_cons.mpr ⟨⟨_,_,zS has A11⟩,(List.forall_mem_cons.mpr ⟨⟨_,_,rn has A12⟩,(List.forall_mem_cons.mpr ⟨⟨_,_,rX has A13⟩,(List.forall_mem_cons.mpr ⟨⟨_,_,qi has A14⟩,(List.forall_mem_cons.mpr ⟨⟨_,_,oz has A15⟩,(List.forall_mem_cons.mpr ⟨⟨_,_,uz has A16⟩,(List.forall_mem_cons.mpr ⟨⟨_,_,uf has A17⟩,(List.forall_mem_cons.mpr ⟨⟨_,_,mY has A18⟩,(List.forall_mem_cons.mpr ⟨⟨_,_,qz has A19⟩,(List.forall_mem_cons.mpr ⟨⟨_,_,uK has A20⟩,(List.forall_mem_cons.mpr ⟨⟨_,_,ou has A21⟩,(List.forall_mem_cons.mpr ⟨⟨_,_,qe has A22⟩,(List.forall_mem_cons.mpr ⟨⟨_,_,oA has A23⟩,(List.forall_mem_cons.mpr ⟨⟨_,_,qW has A24⟩,(List.forall_mem_cons.mpr ⟨⟨_,_,oh has A25⟩,(List.forall_mem_cons.mpr ⟨⟨_,_,nV has A26⟩,(List.forall_mem_cons.mpr ⟨⟨_,_,rV has A27⟩,(List.forall_mem_cons.mpr ⟨⟨_,_,qD has A28⟩,(List.forall_mem_cons.mpr ⟨⟨_,_,iM has A29⟩,(List.forall_mem_cons.mpr ⟨⟨_,_,Ez has A30⟩,(by intro p m;cases m)⟩)⟩)⟩)⟩)⟩)⟩)⟩)⟩)⟩)⟩)⟩)⟩)⟩)⟩)⟩)⟩)⟩)⟩)⟩)⟩)⟩)⟩)⟩)⟩)⟩)⟩)⟩)⟩)⟩)⟩)⟩)
 exact IK T (ye rfl gs) has.EH rfl (Ez has A30) hfa
theorem walk {l:PySem.W.OpenLaw} {q:Program} {loose:List Str} {XP:(Str->Option Value)->Heap->Prop} {YP:World->Heap->Prop} {d:DefRec} {K:Params->PySem.W.Frag} (hn:l.most=some 63) (hdf:d.params.defaults=[])
  (hY: ∀ (w:World) (h:Heap),YP w h->(K w.params).In h)
  (F: ∀ (w:World) (mg:Str->Option Value) (fa:Addr) (h:Heap),(K w.params).In h->h.Ns mainGlobals mg->mg d.name=some (.ref fa) ->
   ∃ fd:FuncData,(∀ (s:Shared) (u:Value),BindsTo s fd ⟨[u],[]⟩ [("_law_script",u)])∧ ∀ base:Heap,(K w.params).In base->base.Ns mainGlobals mg->jC l.prog w (K w.params) mg base q8 (room+1) fa fd ["_law_script"] (uI (K w.params) tb (room+1) "law")) :
  PySem.W.WalkO q loose XP YP l.row.toRowW d [] (fun f vs=>PySem.call f vs) :=
 L2.DN (n:=63) (k:=room+1) (x:= "_law_script") (CX:=fun _=>q8) (sp:=fun w=>uI (K w.params) tb (room+1) "law") hn (by decide) hdf ⟨rfl,by decide,by decide,rfl⟩ hY F (fun _ H a ns hl hO hS=>Hx AQ H a ns hl hO hS) fun _ _ _ _ _ z=>z
end K12
open PySem PySem.W PyProof.Rows
set_option maxRecDepth 100000 in
set_option maxHeartbeats 0 in
theorem PySem.Challenge.cw_leastrecord_k12_whole_hands_alone_holds : PySem.Challenge.rw_leastrecord_k12_whole_hands_alone.Holds := by
 w_on;o_law;k_head;(case hw=>w_witness2)
 k_fill
 refine K12.walk (l:=PySem.Challenge.rw_leastrecord_k12_whole_hands_alone) rfl rfl (fun w h Y=>PySem.W.kIn_of Y) ?F
 case F =>
  intro w mg fa h KX G hmg
  refine' K12.all_mk KX G hmg (L2.bP KX G ?_ ?_ ?_ ?_) (L2.bP KX G ?_ ?_ ?_ ?_) (L2.bP KX G ?_ ?_ ?_ ?_) (L2.bP KX G ?_ ?_ ?_ ?_) (L2.bP KX G ?_ ?_ ?_ ?_) (L2.bP KX G ?_ ?_ ?_ ?_) (L2.bP KX G ?_ ?_ ?_ ?_) (L2.bP KX G ?_ ?_ ?_ ?_) (L2.bP KX G ?_ ?_ ?_ ?_) (L2.bP KX G ?_ ?_ ?_ ?_) (L2.bP KX G ?_ ?_ ?_ ?_) (L2.bP KX G ?_ ?_ ?_ ?_) (L2.bP KX G ?_ ?_ ?_ ?_) (L2.bP KX G ?_ ?_ ?_ ?_) (L2.bP KX G ?_ ?_ ?_ ?_) (L2.bP KX G ?_ ?_ ?_ ?_) (L2.bP KX G ?_ ?_ ?_ ?_) (L2.bP KX G ?_ ?_ ?_ ?_) (L2.bP KX G ?_ ?_ ?_ ?_) (L2.bP KX G ?_ ?_ ?_ ?_) (L2.bP KX G ?_ ?_ ?_ ?_) (L2.bP KX G ?_ ?_ ?_ ?_) (L2.bP KX G ?_ ?_ ?_ ?_) (L2.bP KX G ?_ ?_ ?_ ?_) (L2.bP KX G ?_ ?_ ?_ ?_) (L2.bP KX G ?_ ?_ ?_ ?_) (L2.bP KX G ?_ ?_ ?_ ?_) (L2.bP KX G ?_ ?_ ?_ ?_) (L2.bP KX G ?_ ?_ ?_ ?_) (L2.bP KX G ?_ ?_ ?_ ?_) (L2.bP KX G ?_ ?_ ?_ ?_) ?z0 ?z1 ?z2 ?z3 ?z4 ?z5 ?z6 ?z7 ?z8 ?z9 ?z10 ?z11 ?z12 ?z13 ?z14 ?z15 ?z16 ?z17 ?z18 ?z19 ?wWORTHS ?wMOST_OWN_ROWS ?wMOST_TOUCHES ?wPOCKETING ?oPOCKETING ?oROW_PARTSv0_ ?oROW_PARTSv1_ ?oROW_PARTSv2_ ?oROW_PARTSv3_ ?oROW_PARTSv4_ ?oROW_PARTSv5_ ?oROW_PARTSv6_ ?oROW_PARTSv7_ ?oROW_PARTSv8_ ?oROW_PARTSv9_ ?oROW_PARTSv10_ ?oROW_PARTSv11_ ?wROW_PARTS ?oROW_PARTS ?yROW_PARTS
  all_goals try k_is
  all_goals try k_is
  all_goals exact rfl
end
end
end
