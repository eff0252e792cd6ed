import PyProof.Rows.All
import Wide.All
import OpenK.AllK
import Wide.FinOn
import Lean
import PyProof.EqAt
import PyProof.EqKinds
import PyProof.TupleCall
import KE.KDictSum
import PyProof.AttrMissHeap
import PyProof.WalksMore
import KE.LcSums
import PyProof.AutoListH
import PyProof.ListMulRoad
import KE.KSortTup
import PyProof.ZipIter
import PyProof.Draws
import PyProof.EnumFor
import PyProof.ReprRoads
import PyProof.ListRange
import PySem.Challenge.RW_leastrecord_k19_first_stands
set_option genSizeOf false
set_option compiler.extract_closed false
set_option bootstrap.genMatcherCode false
namespace PySem.W.Fast
def tw4600572922366033292:=0
def tw16547544583659227256:=0
def tw5699657346809821821:=0
def tw12901229501058714193:=0
def tw10210899725589163406:=0
def tw12108754592137943313:=0
def tw13064388956944576628:=0
def tw14343458024585170235:=0
def tw1519131909704599390:=0
def tw6713495209634853218:=0
def tw16424617027100466996:=0
def tw5679706431142142514:=0
def tw6876492004448481386:=0
def tw8828504650982399729:=0
def tw6238989650994005310:=0
def tw11029547425370269179:=0
def tw8043444955304656317:=0
def tw14921876232479751973:=0
def tw6537409258019444109:=0
def tw4047624369703095565:=0
def tw11495871779226688575:=0
def tw3687072549622678056:=0
def tw4936161237842807587:=0
def tw12428728670597687254:=0
def tw12280346206946445637:=0
def tw11654621406917023764:=0
def tw2590868848153185763:=0
def tw7637557058042197890:=0
def tw8101513749131248688:=0
def tw1679127154490133070:=0
def tw16868166574708504352:=0
def tw9510082370756592623:=0
def tw15565136575039601812:=0
def tw4139247068585621829:=0
def tw11173238303253394824:=0
def tw2705837964185509343:=0
def tw589847314961597464:=0
def tw16852881776038390910:=0
def tw6206014107118527450:=0
def tw8076435990336723975:=0
def tw14888610143178944256:=0
def tw13568715698266199114:=0
def tw10642034657112192213:=0
def tw504046468739070850:=0
def tw18079902272161579191:=0
def tw17214294070414849530:=0
def tw14809960305813626817:=0
def tw13496703233181587681:=0
def tw4083555465556404238:=0
def tw1485709025572286227:=0
def tw15998153466864427159:=0
def tw15504245028754911554:=0
def tw6594591020571210581:=0
def tw8150097019414210419:=0
def tw7217598215986087305:=0
def tw1714196839457889287:=0
def tw3894286694259047698:=0
def tw7378498603257259998:=0
def tw3588312912339929769:=0
def tw12628604633997135681:=0
def tw9524942174898126789:=0
def tw18326172358212929181:=0
def tw18070410863106930414:=0
def tw14418993199893918341:=0
def tw12908018506340665714:=0
def tw5604471096369789975:=0
def tw15046290012101841795:=0
def tw10752100492879419205:=0
def tw17716600121236905779:=0
def tw4910302374506330785:=0
def tw12674909093942998840:=0
def tw12883763919028727191:=0
def tw2939068922882988965:=0
def tw9145913982273732656:=0
def tw2886634045595752217:=0
def tw3425285607920035288:=0
def tw5792194905571717949:=0
def tw6909428270181002060:=0
def tw5744787671436414607:=0
def tw5200591568550724627:=0
def tw14488444788520452619:=0
def tw15755243761176372092:=0
def tw6087539886568185848:=0
def tw1678013278117129941:=0
def tw17936083177437670850:=0
def tw8246986878260996227:=0
def tw5198528577939338808:=0
def tw6248136859867324896:=0
def tw4098517263526824053:=0
def tw15757799548146184697:=0
def tw9606714978114875913:=0
def tw13506306884908611763:=0
def tw4124214322187024672:=0
def tw14662845869968869917:=0
def tw11624881917389499108:=0
def tw3115572770531517183:=0
def tw12861705128526438157:=0
def tw1659797875653108999:=0
def tw12732304064528439070:=0
def tw12621639963101455325:=0
def tw6024447194670041060:=0
def tw14463044939897095192:=0
def tw17196936718063588760:=0
def tw11816022760663658048:=0
end PySem.W.Fast
noncomputable section
set_option Elab.async false
set_option linter.all false
set_option maxRecDepth 100000
section
namespace L2
open PySem PySem.Spec PyProof.Rows
abbrev Key:=Sum Int Str
noncomputable def kz:Key->Value->Bool
 | .inl k,v=>Value.isInt k v
 | .inr x,v=>Value.isStrOf x v
noncomputable def HD(w:World):Key->Int
 | .inl k=>hashInt k
 | .inr x=>hashStr w x
theorem bg: ∀{k:Key}{v:Value},kz k v=true->(∃ i t,k=Sum.inl i/\v=Value.int i t)\/(∃ x t,k=Sum.inr x/\v=Value.str x t)
 | .inl i,v,h=>by
  obtain⟨t,e⟩:=Value.isInt_shape (k:=i) (v:=v) h;exact .inl ⟨i,t,rfl,e⟩
 | .inr x,v,h=>by
  obtain⟨t,e⟩:=Value.isStrOf_shape (x:=x) (v:=v) h;exact .inr ⟨x,t,rfl,e⟩
theorem sj(i:Int)(t:Tok):kz (.inl i) (.int i t)=true:=by simp[kz,Value.isInt]
theorem sW(x:Str)(t:Tok):kz (.inr x) (.str x t)=true:=by simp[kz,Value.isStrOf]
theorem Bc(a b:Int):decide ((Sum.inl a:Key)=Sum.inl b)=(a == b):=by
 by_cases e:a=b
 . subst e;simp
 . have h: ¬ (Sum.inl a:Key)=Sum.inl b:=λq=>e (Sum.inl.inj q);rw[decide_eq_false h];exact(beq_eq_false_iff_ne.mpr e).symm
theorem CC(a b:Str):decide ((Sum.inr a:Key)=Sum.inr b)=decide (a=b):=by
 by_cases e:a=b
 . subst e;simp
 . have h: ¬ (Sum.inr a:Key)=Sum.inr b:=λq=>e (Sum.inr.inj q);rw[decide_eq_false h,decide_eq_false e]
theorem DI(a:Int)(b:Str):decide ((Sum.inl a:Key)=Sum.inr b)=false:=decide_eq_false (λq=>nomatch q)
theorem Cz(a:Str)(b:Int):decide ((Sum.inr a:Key)=Sum.inl b)=false:=decide_eq_false (λq=>nomatch q)
noncomputable def aE(prog:Program)(w:World):PySem.KeyKind prog w Key where
 is:=kz
 hash:=HD w
 inj:=λv a b ha hb=>by
  rcases bg ha with⟨i,t,rfl,rfl⟩ | ⟨x,t,rfl,rfl⟩
  . rcases bg hb with⟨j,u,rfl,e⟩ | ⟨y,u,rfl,e⟩
    . injection e with e1 _;rw[e1]
    . exact nomatch e
  . rcases bg hb with⟨j,u,rfl,e⟩ | ⟨y,u,rfl,e⟩
    . exact nomatch e
    . injection e with e1 _;rw[e1]
 byValue:=λk v h=>by
  rcases bg h with⟨i,t,rfl,rfl⟩ | ⟨x,t,rfl,rfl⟩<;>rfl
 pyHash:=λhv h=>by
  rcases bg hv with⟨i,t,rfl,rfl⟩ | ⟨x,t,rfl,rfl⟩
  . exact wpAny_pyHash_int h
  . exact wpAny_pyHash_str h
 eqBool:=λhu hv h=>by
  rcases bg hu with⟨i,t,rfl,rfl⟩ | ⟨x,t,rfl,rfl⟩
  . rcases bg hv with⟨j,u,rfl,rfl⟩ | ⟨y,u,rfl,rfl⟩
    . rw[Bc] at h;exact wpAny_eqBool_int h
    . rw[DI] at h;exact SeqAt.EqAt.int_str i t y u _ _ _ _ h
  . rcases bg hv with⟨j,u,rfl,rfl⟩ | ⟨y,u,rfl,rfl⟩
    . rw[Cz] at h;exact SeqAt.EqAt.str_int x t j u _ _ _ _ h
    . rw[CC] at h;exact wpAny_eqBool_str h
 «strs» :=λk x t v h=>by
  rcases bg h with⟨i,u,rfl,e⟩ | ⟨y,u,rfl,e⟩
  . exact nomatch e
  . injection e with e1 _;subst e1;cases v<;>rfl
theorem oC(prog:Program)(w:World)(i:Int)(t:Tok):(aE prog w).is (.inl i) (.int i t)=true:=sj i t
theorem n4(prog:Program)(w:World)(x:Str)(t:Tok):(aE prog w).is (.inr x) (.str x t)=true:=sW x t
inductive V where
 | non | bl (b:Bool) | int (i:Int) | str (x:Str) | byt (b:Array UInt8) | flt (b:UInt64) | ref (a:Addr) | ty (n:String)
 deriving DecidableEq
noncomputable def RelV:V->Value->Prop
 | .non,u=>u=Value.none
 | .bl b,u=>u=Value.bool b
 | .int i,u=> ∃ t,u=Value.int i t
 | .str x,u=> ∃ t,u=Value.str x t
 | .byt b,u=> ∃ t,u=Value.bytes b t
 | .flt b,u=> ∃ t,u=Value.float b t
 | .ref a,u=>u=Value.ref a
 | .ty n,u=>u=Value.type n
abbrev Vals:List V->List Value->Prop:=Paired RelV
theorem Vals.length{xs:List V}{us:List Value}(r:Vals xs us):xs.length=us.length:=Paired.length r
theorem Vals.get: ∀{xs:List V}{us:List Value}{i:Nat}{x:V},Vals xs us->xs[i]?=some x-> ∃ u,us[i]?=some u/\RelV x u
 | _,_,_,_,.nil,e=>by simp at e
 | _,_,0,_,.cons r _,e=>by simp at e;subst e;exact⟨_,rfl,r⟩
 | _,_,i+1,x,.cons _ t,e=>by
  obtain⟨u,h1,h2⟩:=Vals.get (i:=i) (x:=x) t (by simpa using e);exact⟨u,by simpa using h1,h2⟩
theorem Vals.set{x:V}{u:Value}(r:RelV x u): ∀{xs:List V}{us:List Value}(i:Nat),Vals xs us->Vals (xs.set i x) (us.set i u)
 | _,_,_,.nil=> .nil
 | _,_,0,.cons _ t=> .cons r t
 | _,_,i+1,.cons q t=> .cons q (Vals.set r i t)
theorem Vals.append: ∀{xs ys:List V}{us ws:List Value},Vals xs us->Vals ys ws->Vals (xs++ys) (us++ws)
 | _,_,_,_,.nil,s=>s
 | _,_,_,_,.cons r t,s=> .cons r (Vals.append t s)
theorem Vals.take: ∀{xs:List V}{us:List Value}(n:Nat),Vals xs us->Vals (xs.take n) (us.take n)
 | _,_,0,_=> .nil
 | _,_,_+1,.nil=> .nil
 | _,_,n+1,.cons r t=> .cons r (Vals.take n t)
theorem Vals.drop: ∀{xs:List V}{us:List Value}(n:Nat),Vals xs us->Vals (xs.drop n) (us.drop n)
 | _,_,0,r=>r
 | _,_,_+1,.nil=> .nil
 | _,_,n+1,.cons _ t=>Vals.drop n t
noncomputable def je:Option V->Option Value->Prop
 | some v,some u=>RelV v u
 | none,none=>True
 | _,_=>False
noncomputable def KV{κ :Type}:List (κ × V)->List (κ × Value)->Prop:=Paired λ(p: κ × V) (q: κ × Value)=>p.1=q.1/\RelV p.2 q.2
noncomputable def kV:Key->V
 | .inl i=> .int i
 | .inr x=> .str x
inductive HO where
  | lst (xs:List V)
  | tup (xs:List V)
  | dK (kvs:List (Key × V)) | dT (kvs:List (List Key × V))
  | set (S:Int->Bool) (n:Nat)
  | ins (C dx:Addr) (fs:List (Str × V))
  | own (x:Addr)
  | xd (fs:List (Str × V))
  | met (f x:Addr)
  | xl (lo hi:Int)
  | gC (o:Obj) (u:HO)
  | tbl (ps:Array Value)
  | ext (φ :Heap->Prop)
abbrev Hp:=Addr->Option HO
noncomputable def upd(H:Hp)(a:Addr)(o:HO):Hp:=λb=>if b=a then some o else H b
theorem bh{H:Hp}{a:Addr}{o:HO}:upd H a o a=some o:=by unfold upd;rw[if_pos rfl]
theorem ay{H:Hp}{a b:Addr}{o:HO}(h:b≠a):upd H a o b=H b:=by unfold upd;rw[if_neg h]
theorem lU{H:Hp}{a b:Addr}{o u:HO}(h:H a=some o)(h':H b=some u)(d:o≠u):a≠b:=by
 intro e;subst e;rw[h] at h';exact d (Option.some.inj h')
theorem aB{H:Hp}{a b:Addr}{o:HO}(h:H a=some o)(h':H b=none):a≠b:=by
 intro e;subst e;rw[h] at h';cases h'
noncomputable def lb(h:Heap)(a:Addr)(items:Array Value):Prop:= ∃ o,h.get? a=some o/\o.cls= .type "tuple" /\ ∃ n,o.data= .seq items n/\o.dict=none
theorem lb.tup{h:Heap}{a:Addr}{items:Array Value}(x:lb h a items):IsTup h a items:=let ⟨o,e,c,n,d,_⟩:=x;⟨o,e,c,n,d⟩
theorem lb.new(h:Heap)(items:Array Value):lb (h.push { cls:= .type "tuple",data:= .seq items }) h.objs.size items:=⟨_,Heap.get?_push_size _ rfl,rfl,_,rfl,rfl⟩
section
variable(P:Program)(w:World)
noncomputable def aP(H:Hp)(h:Heap)(a:Addr):HO->Prop
 | .lst xs=>xs.length<=sizeLine/\ ∃(ak:List Value)(n:Nat),Vals xs ak/\h.get? a=some { cls:= .type "list",data:= .seq ak.toArray n }
 | .tup xs=>xs.length<=sizeLine/\ ∃ ak:List Value,Vals xs ak/\lb h a ak.toArray
 | .dK kvs=>kvs.length<=sizeLine/\(a == sysModules)=false/\ ∃ vs,KV kvs vs/\h.DictOf (aE P w) a vs
 | .dT kvs=>kvs.length<=sizeLine/\(a == sysModules)=false/\ ∃ xs:List (List Key × Addr × Value),
   Paired (λ(p:List Key × V) (q:List Key × Addr × Value)=>p.1=q.1/\H q.2.1=some (.tup (p.1.map kV))/\RelV p.2 q.2.2) kvs xs /\
   ∃ o es ep,h.get? a=some o/\o.ExactDict/\o.data= .dict es ep/\es.toList=xs.map (entryOfKey (tupleKind (aE P w)))/\(xs.map (·.1)).Nodup
 | .set S n=>h.SetOf (intKind P w) a S n
 | .ins C dx fs=>H dx=some (.own a)/\fs.length<=1000/\dx≠a/\h.get? a=some (PySem.W.instObj C dx) /\
   ∃ mA,h.Ns1 dx mA/\(∀ f,je (fs.lookup f) (mA f))/\PySem.Within mA (fs.map (·.1))
 | .own _=> ∃ o,h.get? a=some o
 | .xd fs=> ∃ mA,h.Ns1 a mA/\ ∀ f,je (fs.lookup f) (mA f)
 | .xl lo hi=> ∃ t u v,h.get? a=some { cls:= .type "range",data:= .fields #[.int lo t,.int hi u,.int 1 v] }
 | .gC o u=>h.get? a=some o∧aP H h a u
 | .tbl ps=>h.get? a=some { cls:= .none,data:= .fields ps }
 | .met f x=>h.get? a=some (PySem.W.methodObj (.ref f) (.ref x))
 | .ext φ => φ h∧(∃ o,h.get? a=some o)∧ ∀ h1 h2:Heap, φ h1->(∀ o,h1.get? a=some o->h2.get? a=some o)-> φ h2
noncomputable def gv (H:Hp) (h:Heap):Prop:= ∀ a o,H a=some o->aP P w H h a o
end
section
variable{P:Program}{w:World}{H H':Hp}{h h':Heap}{a:Addr}{o:HO}
theorem aP.lt(x:aP P w H h a o):a < h.objs.size:=by
 cases o with
 | lst xs=>obtain⟨_,_,_,_,e⟩:=x;exact Heap.lt_size e
 | tup xs=>obtain⟨_,_,_,p⟩:=x;exact p.tup.lt
 | dK kvs=>obtain⟨_,_,_,_,o,_,_,e,_⟩:=x;exact Heap.lt_size e
 | dT kvs=>obtain⟨_,_,_,_,o,_,_,e,_⟩:=x;exact Heap.lt_size e
 | set S n=>obtain⟨o,_,_,_,e,_⟩:=x;exact Heap.lt_size e
 | ins C dx fs=>obtain⟨_,_,_,e,_⟩:=x;exact Heap.lt_size e
 | own y=>obtain⟨_,e⟩:=x;exact Heap.lt_size e
 | xd fs=>obtain⟨_,⟨_,_,_,e,_⟩,_⟩:=x;exact Heap.lt_size e
 | xl lo hi=>obtain⟨_,_,_,e⟩:=x;exact Heap.lt_size e
 | gC ob u=>obtain⟨e,_⟩:=x;exact Heap.lt_size e
 | tbl ps=>exact Heap.lt_size (show h.get? a=some _ from x)
 | met f y=>exact Heap.lt_size (show h.get? a=some _ from x)
 | ext φ =>obtain⟨_,⟨_,e⟩,_⟩:=x;exact Heap.lt_size e
theorem Paired.tE{α β :Type}{F G: α -> β ->Prop}: ∀{l₁ :List α}{l₂ :List β},Paired F l₁ l₂ ->(∀ a b,F a b->G a b)->Paired G l₁ l₂
 | _,_,.nil,_=> .nil
 | _,_,.cons r t,f=> .cons (f _ _ r) (Paired.tE t f)
theorem aP.pE(x:aP P w H h a o)(k: ∀ b u,(b=a\/H b=some (.own a))->h.get? b=some u->h'.get? b=some u)
  (ho: ∀ b,H b=some (.own a)->H' b=some (.own a)) (ht: ∀ b xs,H b=some (.tup xs)->H' b=some (.tup xs)):aP P w H' h' a o:=by
 induction o with
 | lst xs=>obtain⟨z,ak,n,r,e⟩:=x;exact⟨z,ak,n,r,k _ _ (.inl rfl) e⟩
 | tup xs=>obtain⟨z,ak,r,ob,e,c⟩:=x;exact⟨z,ak,r,ob,k _ _ (.inl rfl) e,c⟩
 | dK kvs=>obtain⟨z,y,vs,r,ob,es,ep,e,c⟩:=x;exact⟨z,y,vs,r,ob,es,ep,k _ _ (.inl rfl) e,c⟩
 | dT kvs =>
  obtain⟨z,y,xs,r,ob,es,ep,e,c⟩:=x
  exact⟨z,y,xs,Paired.tE r λp q z=>⟨z.1,ht _ _ z.2.1,z.2.2⟩,ob,es,ep,k _ _ (.inl rfl) e,c⟩
 | set S n=>obtain⟨ob,es,ep,t,e,c⟩:=x;exact⟨ob,es,ep,t,k _ _ (.inl rfl) e,c⟩
 | ins C dx fs =>
  obtain⟨d,z,ne,e,mA,⟨od,es,ep,e2,c⟩,r⟩:=x
  exact⟨ho _ d,z,ne,k _ _ (.inl rfl) e,mA,⟨od,es,ep,k _ _ (.inr d) e2,c⟩,r⟩
 | own y=>obtain⟨ob,e⟩:=x;exact⟨ob,k _ _ (.inl rfl) e⟩
 | xd fs=>obtain⟨mA,⟨od,es,ep,e,c⟩,r⟩:=x;exact⟨mA,⟨od,es,ep,k _ _ (.inl rfl) e,c⟩,r⟩
 | xl lo hi=>obtain⟨t,u,v,e⟩:=x;exact⟨t,u,v,k _ _ (.inl rfl) e⟩
 | gC ob u ih=>obtain⟨e,q⟩:=x;exact⟨k _ _ (.inl rfl) e,ih q⟩
 | tbl ps =>
  have e:h.get? a=some { cls:= .none,data:= .fields ps }:=x
  show h'.get? a=some { cls:= .none,data:= .fields ps }
  exact k a _ (.inl rfl) e
 | met f y =>
  have e:h.get? a=some (PySem.W.methodObj (.ref f) (.ref y)):=x
  show h'.get? a=some (PySem.W.methodObj (.ref f) (.ref y))
  exact k a _ (.inl rfl) e
 | ext φ =>obtain⟨p,⟨o,e⟩,st⟩:=x;exact⟨st _ _ p λo q=>k _ _ (.inl rfl) q,⟨o,k _ _ (.inl rfl) e⟩,st⟩
theorem gv.lt(x:gv P w H h)(e:H a=some o):a < h.objs.size:=(x a o e).lt
theorem gv.fresh(x:gv P w H h)(e:h.objs.size<=a):H a=none:=by
 cases q:H a with
 | none=>rfl
 | some u=>exact absurd (Nat.lt_of_lt_of_le (x.lt q) e) (Nat.lt_irrefl _)
theorem gv.kept(x:gv P w H h)(k: ∀ b u,h.get? b=some u->h'.get? b=some u):gv P w H h':=λa o e =>
 (x a o e).pE (λb u _ q=>k b u q) (λ_ q=>q) λ_ _ q=>q
theorem gv.laid(x:gv P w H h)(k: ∀ b u,h.get? b=some u->h'.get? b=some u)(hp:h.objs.size<=a)(new:aP P w (upd H a o) h' a o):gv P w (upd H a o) h':=λb u e=>by
 have hn:=x.fresh hp;by_cases hb:b=a
 . subst hb;rw[bh] at e;cases e;exact new
 . rw[ay hb] at e;exact(x b u e).pE (λc v _ q=>k c v q) (λc q=>by rw[ay (aB q hn)];exact q) λc xs q=>by rw[ay (aB q hn)];exact q
end
noncomputable def Rd(H:Hp)(a:Addr)(u:HO):Prop:=H a=some u\/ ∃ o,H a=some (.gC o u)
theorem Rd.of{H:Hp}{a:Addr}{u:HO}(h:H a=some u):Rd H a u:= .inl h
theorem Rd.ok{P:Program}{w:World}{H:Hp}{h:Heap}{a:Addr}{u:HO}(r:Rd H a u)(x:gv P w H h):aP P w H h a u:=by
 rcases r with r | ⟨o,r⟩
 . exact x a u r
 . obtain⟨_,q⟩:=x a _ r;exact q
noncomputable def FW:Option HO->Prop
 | some (.lst _)=>True
 | some (.dK _)=>True
 | some (.dT _)=>True
 | some (.set _ _)=>True
 | some (.ins _ _ _)=>True
 | some (.ext _)=>True
 | _=>False
section
variable{P:Program}{w:World}{H:Hp}{h h':Heap}{x e:Addr}{o':HO}
theorem gv.write(ok:gv P w H h)(mu:FW (H x))(he:e=x\/H e=some (.own x))(k: ∀ b u,b≠e->h.get? b=some u->h'.get? b=some u)(heo: ∃ u,h'.get? e=some u)
  (new:aP P w (upd H x o') h' x o'):gv P w (upd H x o') h':=λb u q=>by
 have nown: ∀ c y,H c=some (.own y)->c≠x:=λc y r z=>by subst z;rw[r] at mu;exact mu
 have ntup: ∀ c xs,H c=some (.tup xs)->c≠x:=λc xs r z=>by subst z;rw[r] at mu;exact mu
 by_cases hb:b=x
 . subst hb;rw[bh] at q;cases q;exact new
 . rw[ay hb] at q;by_cases hbe:b=e
   . have q':H b=some (.own x):=by
      rcases he with z | z
      . exact absurd (hbe.trans z) hb
      . rw[hbe];exact z
     rw[q] at q';cases q';obtain⟨v,hv⟩:=heo;exact⟨v,by rw[hbe];exact hv⟩
   . refine(ok b u q).pE (λc v hc r=>k c v ?_ r) (λc r=>by rw[ay (nown c b r)];exact r) λc xs r=>by rw[ay (ntup c xs r)];exact r
     rcases hc with rfl | hc
     . exact hbe
     . rintro rfl;rcases he with z | z
       . exact nown c b hc z
       . rw[hc] at z;cases z;exact hb rfl
end
structure Un(fs ex:List Addr)(H H':Hp)(h h':Heap):Prop where
 keep: ∀ b o,h.get? b=some o->H b=none->b ∉ fs->b ∉ ex->h'.get? b=some o
 slot: ∀ b o,h.get? b=some o->H b=none->b∈fs->b ∉ ex-> ∃ sl,h'.get? b=some { o with slots:=sl }
 free: ∀ b o,h.get? b=some o->H b=none->b ∉ ex->H' b=none
 there: ∀ b o,h.get? b=some o->b ∉ ex-> ∃ o',h'.get? b=some o'
 g7: ∀ b xs,H b=some (.tup xs)->H' b=some (.tup xs)
 gD: ∀ b o u,H b=some (.gC o u)->H' b=some (.gC o u)
 i8: ∀ b ps,H b=some (.tbl ps)-> ∃ more,H' b=some (.tbl (ps++more))
section
variable{fs fs' ex ex':List Addr}{H H1 H2:Hp}{h h1 h2 h':Heap}{a x e:Addr}{o:HO}
theorem Un.any(u:Un fs ex H H1 h h1){b:Addr}{ob:Obj}(q:h.get? b=some ob)(n:H b=none)(hx:b ∉ ex): ∃ sl,h1.get? b=some { ob with slots:=sl }:=by
 by_cases hb:b∈fs
 . exact u.slot b ob q n hb hx
 . exact⟨ob.slots,u.keep b ob q n hb hx⟩
theorem Un.trans(a:Un fs ex H H1 h h1)(b:Un fs ex H1 H2 h1 h2):Un fs ex H H2 h h2 where
 keep:=λc ob q n hc hx=>b.keep c ob (a.keep c ob q n hc hx) (a.free c ob q n hx) hc hx
 slot:=λc ob q n hc hx=>by
  obtain⟨sl,e1⟩:=a.slot c ob q n hc hx;obtain⟨sl',e2⟩:=b.slot c _ e1 (a.free c ob q n hx) hc hx;exact⟨sl',e2⟩
 free:=λc ob q n hx=>by
  obtain⟨o',e1⟩:=a.there c ob q hx;exact b.free c o' e1 (a.free c ob q n hx) hx
 there:=λc ob q hx=>by
  obtain⟨o',e1⟩:=a.there c ob q hx;exact b.there c o' e1 hx
 g7:=λc xs q=>b.g7 c xs (a.g7 c xs q)
 gD:=λc ob xs q=>b.gD c ob xs (a.gD c ob xs q)
 i8:=λc ps q=>by
  obtain⟨m1,e1⟩:=a.i8 c ps q;obtain⟨m2,e2⟩:=b.i8 c _ e1;exact⟨m1++m2,by rw[e2,Array.append_assoc]⟩
theorem Un.kept(k: ∀ b u,h.get? b=some u->h'.get? b=some u):Un fs ex H H h h' :=
 ⟨λb ob q _ _ _=>k b ob q,λb ob q _ _ _=>⟨ob.slots,k b ob q⟩,λ_ _ _ n _=>n,λb ob q _=>⟨ob,k b ob q⟩,λ_ _ q=>q,λ_ _ _ q=>q,λ_ ps q=>⟨#[],by rw[q];simp⟩⟩
theorem Un.refl:Un fs ex H H h h:=Un.kept λ_ _ q=>q
theorem Un.laid(k: ∀ b u,h.get? b=some u->h'.get? b=some u)(hp:h.objs.size<=a)(hn:H a=none):Un fs ex H (upd H a o) h h' where
 keep:=λb u q _ _ _=>k b u q
 slot:=λb u q _ _ _=>⟨u.slots,k b u q⟩
 free:=λb u q n _=>by rw[ay (Nat.ne_of_lt (Nat.lt_of_lt_of_le (Heap.lt_size q) hp))];exact n
 there:=λb u q _=>⟨u,k b u q⟩
 g7:=λb xs q=>by rw[ay (aB q hn)];exact q
 gD:=λb u xs q=>by rw[ay (aB q hn)];exact q
 i8:=λb ps q=>⟨#[],by rw[ay (aB q hn),q];simp⟩
theorem Un.write(mu:FW (H x))(he:e=x\/H e=some (.own x))(k: ∀ b u,b≠e->h.get? b=some u->h'.get? b=some u)(heo: ∃ u,h'.get? e=some u):Un fs ex H (upd H x o) h h':=by
 have hx: ∀ b,H b=none->b≠x:=λb n z=>by subst z;rw[n] at mu;exact mu
 have hb: ∀ b,H b=none->b≠e:=λb n z=>by
  subst z;rcases he with r | r
  . exact hx b n r
  . rw[n] at r;cases r
 have hm: ∀ b u,H b=some u-> ¬ FW (some u)->b≠x:=λb u q nm z=>by subst z;rw[q] at mu;exact nm mu
 refine⟨λb u q n _ _=>k b u (hb b n) q,λb u q n _ _=>⟨u.slots,k b u (hb b n) q⟩,λb u q n _=>by rw[ay (hx b n)];exact n,λb u q _=>?_,
  λb xs q=>by rw[ay (hm b _ q λz=>z)];exact q,λb u xs q=>by rw[ay (hm b _ q λz=>z)];exact q,λb ps q=>⟨#[],by rw[ay (hm b _ q λz=>z),q];simp⟩⟩
 by_cases hbe:b=e
 . subst hbe;exact heo
 . exact⟨u,k b u hbe q⟩
theorem Un.mono(u:Un fs ex H H1 h h1)(hs: ∀ b∈fs,b∈fs')(hx: ∀ b∈ex,b∈ex'):Un fs' ex' H H1 h h1 :=
 ⟨λb ob q n hb he=>u.keep b ob q n (λz=>hb (hs b z)) λz=>he (hx b z),λ_ _ q n _ he=>u.any q n λz=>he (hx _ z),λb ob q n he=>u.free b ob q n λz=>he (hx b z),λb ob q he=>u.there b ob q λz=>he (hx b z),u.g7,u.gD,u.i8⟩
end
noncomputable def Hk(h:Heap)(H:Hp):List Addr:=(List.range h.objs.size).filter λa=>(H a).isSome
noncomputable def mD(h:Heap)(H:Hp):Heap:=PySem.W.hideAll h (Hk h H)
theorem sF(h:Heap)(H:Hp):(mD h H).objs.size=h.objs.size:=PySem.W.hideAll_size _ _
theorem uq{h:Heap}{H:Hp}{b:Addr}{o:Obj}(e:h.get? b=some o)(n:H b=none):(mD h H).get? b=some o :=
 PySem.W.hideAll_get _ e λhm=>by
  have q:(H b).isSome=true:=(List.mem_filter.mp hm).2;rw[n] at q;simp at q
theorem yB{h:Heap}{H:Hp}{b:Addr}{o:Obj}(e:(mD h H).get? b=some o):h.get? b=some o/\H b=none:=by
 have e':h.get? b=some o:=PySem.W.of_hideAll (Hk h H) e;refine⟨e',?_⟩;cases q:H b with
 | none=>rfl
 | some x =>
  have hm:b∈Hk h H:=List.mem_filter.mpr ⟨List.mem_range.mpr (Heap.lt_size e'),by simp[q]⟩
  have z:(mD h H).get? b=none:=PySem.W.hideAll_none (Hk h H) hm
  rw[z] at e;cases e
noncomputable def xX(g h:Heap)(L:Addr):List (Addr × Obj):=(List.range h.objs.size).filterMap λa=>if a=L\/(g.get? a).isSome=true then none else(h.get? a).map λo=>(a,o)
noncomputable def rest(g h:Heap)(L d:Addr):List (Addr × Obj):=(xX g h L).filter λp=>decide (p.1≠d)
structure Mod(K:PySem.W.Frag)(mg:Str->Option Value)(base:Heap):Prop where
 HC:K.In base
 glob:base.Ns mainGlobals mg
 blt: ∃ mb,base.Ns builtinsNs mb/\ ∀ x:Str,x≠ "__name__" ->mb x=bootBuiltins x
 nolimit:base.NoLimit
structure Cx where
 prog:Program
 w:World
 K:PySem.W.Frag
 mg:Str->Option Value
 base:Heap
 A:Around
 N:List Str
 s₀ :Shared
 H₀ :Hp
 env:Env
 outer:List Env
 stack:List Env
 ex:List Addr
 fn:Str->Bool
 calm:Bool
 pn:List (Addr × Obj)
 xe:Value->Shared->Prop
noncomputable def ud(l:List Env):List Addr:=l.filterMap (·.frame)
abbrev Cx.fs(X:Cx):List Addr:=ud X.outer
noncomputable def Ey(sc:Scope)(x:Str):Prop:=sc.names.lookup x=some .local\/sc.names.lookup x=some .cell\/sc.names.lookup x=some .free
noncomputable def Loc(sc:Scope)(x:Str):Prop:=sc.names.lookup x=some .local\/sc.names.lookup x=some .cell
noncomputable def Look(env:Env)(h:Heap)(m:Str->Option Value)(x:Str)(u:Value):Prop :=
 (env.kindOf x=some .local/\m x=some u)\/((env.kindOf x=some .cell\/env.kindOf x=some .free)/\ ∃ c,env.cells.lookup x=some c/\h.IsCell c (some u))
structure Cx.Ok(X:Cx):Prop where
 mod:Mod X.K X.mg X.base
 kind:X.env.scope.kind= .function
 glob:X.env.globals=mainGlobals
 blt:X.env.builtins=builtinsNs
 above:X.s₀.heap.objs.size<=X.env.locals
 inj: ∀ x y c,X.env.cells.lookup x=some c->X.env.cells.lookup y=some c->x=y
 has: ∀ x,(X.env.kindOf x=some .cell\/X.env.kindOf x=some .free)-> ∃ c,X.env.cells.lookup x=some c
 Eu: ∀ x c,X.fn x=true->X.env.cells.lookup x=some c->X.s₀.heap.objs.size<=c
 hd:X.calm=true->X.A.handled=none
 frames:X.A.frames=some X.stack
 Fv:X.stack=X.outer\/(X.stack=X.env::X.outer/\X.env.frame=some X.env.locals)
 HX: ∀ b∈X.ex,b≠X.env.locals/\ ∀ x c,X.env.cells.lookup x=some c->c≠b
 bs: ∀ b o,X.base.get? b=some o->X.s₀.heap.get? b=some o/\X.H₀ b=none
 xk:X.base.objs.size<=X.s₀.heap.objs.size
 sE: ∀ b o,X.base.get? b=some o->b ∉ X.ex
 vM: ∀ b∈X.ex,b ∉ X.fs
 iV:X.s₀.heap.FunFrames X.base X.outer
 AZ: ∀ b∈X.fs,X.H₀ b=none
structure Inv(X:Cx)(pins:List (Addr × Obj))(σ :List (Option V))(H:Hp)(s:Shared):Prop where
 ok:X.Ok
 os:s.os=X.s₀.os
 bare:AllBare s.gens
 base:Un X.fs X.ex X.H₀ H X.s₀.heap s.heap
 loc: ∃ m,s.heap.Ns X.env.locals m/\ ∀(i:Nat)(x:Str)(v:V),X.N[i]?=some x-> σ[i]?=some (some v)->Ey X.env.scope x-> ∃ u,RelV v u/\Look X.env s.heap m x u
 cell: ∀ x c,X.env.cells.lookup x=some c-> ∃ v,s.heap.IsCell c v
 free:H X.env.locals=none
 fJ: ∀ x c,X.env.cells.lookup x=some c->H c=none
 pin: ∀ p∈X.pn++pins,s.heap.get? p.1=some p.2/\H p.1=none/\p.1≠X.env.locals/\p.1 ∉ X.fs/\ ∀ v,p.2.data≠ .cell v
 bc:gv X.prog X.w H s.heap
 len: σ.length=X.N.length
section
variable{X:Cx}{pins:List (Addr × Obj)}{σ :List (Option V)}{H H':Hp}{s:Shared}{h':Heap}
theorem Cx.Ok.Ik(ok:X.Ok){b:Addr}{o:Obj}(e:X.base.get? b=some o):b ∉ X.fs:=λhb=>by
 have:=(ok.iV.mem hb).1;rw[e] at this;cases this
theorem Inv.bs(I:Inv X pins σ H s): ∀ b o,X.base.get? b=some o->s.heap.get? b=some o/\H b=none:=λb o e =>
 ⟨I.base.keep b o (I.ok.bs b o e).1 (I.ok.bs b o e).2 (I.ok.Ik e) (I.ok.sE b o e),I.base.free b o (I.ok.bs b o e).1 (I.ok.bs b o e).2 (I.ok.sE b o e)⟩
theorem Inv.bk(I:Inv X pins σ H s): ∀ b o,X.base.get? b=some o->s.heap.get? b=some o:=λb o e=>(I.bs b o e).1
theorem Inv.mod(I:Inv X pins σ H s):Mod X.K X.mg X.base:=I.ok.mod
theorem Inv.i6(I:Inv X pins σ H s):X.K.In s.heap:=I.ok.mod.HC.keeps I.bk
theorem Inv.nolimit(I:Inv X pins σ H s):s.heap.NoLimit:=I.ok.mod.nolimit.keeps I.bk
theorem Inv.fr(I:Inv X pins σ H s): ∃ m,Fr X.base X.env.locals s.heap m :=
 let ⟨m,hn,_⟩:=I.loc
 ⟨m,hn,I.bk,Nat.le_trans I.ok.xk I.ok.above⟩
theorem Inv.lt(I:Inv X pins σ H s):X.env.locals < s.heap.objs.size:=let ⟨_,hn,_⟩:=I.loc;hn.lt
theorem Inv.sz(I:Inv X pins σ H s):X.s₀.heap.objs.size<=s.heap.objs.size:=Nat.le_trans I.ok.above (Nat.le_of_lt I.lt)
theorem Inv.EU(I:Inv X pins σ H s){a:Addr}(h:s.heap.objs.size<=a):a ∉ X.fs:=λhb=>by
 obtain⟨_,o,ho,_⟩:=I.ok.iV.mem hb;exact absurd (Nat.lt_of_lt_of_le (Heap.lt_size ho) (Nat.le_trans I.sz h)) (Nat.lt_irrefl _)
theorem Inv.Eo(I:Inv X pins σ H s): ∀ x c,X.env.cells.lookup x=some c->c≠X.env.locals:=λx c e z=>by
 obtain⟨v,o,ho,hd⟩:=I.cell x c e;obtain⟨m,⟨o',es,ep,ho',hd',_⟩,_⟩:=I.loc;rw[z,ho'] at ho;cases ho;rw[hd'] at hd;cases hd
theorem Inv.iV(I:Inv X pins σ H s):s.heap.FunFrames X.base X.outer:=by
 have all: ∀(l:List Env),(∀ b∈ud l,b∈X.fs)->X.s₀.heap.FunFrames X.base l->s.heap.FunFrames X.base l:=by
  intro l
  induction l with
  | nil=>intro _ _;trivial
  | cons env r ih =>
   intro hs hl
   obtain⟨hk,⟨L,o,hf,hn,ho,hd⟩,hr⟩:=hl
   have hL:L∈X.fs:=hs L (by unfold ud;rw[List.filterMap_cons,hf];exact List.mem_cons_self)
   obtain⟨sl,e⟩:=I.base.slot L o ho (I.ok.AZ L hL) hL λz=>I.ok.vM L z hL
   exact⟨hk,⟨L,_,hf,hn,e,hd⟩,ih (λb hb=>hs b (by unfold ud;rw[List.filterMap_cons,hf];exact List.mem_cons_of_mem _ hb)) hr⟩
 exact all X.outer (λ_ hb=>hb) I.ok.iV
theorem Inv.stack(I:Inv X pins σ H s):s.heap.FunFrames X.base X.stack:=by
 rcases I.ok.Fv with e | ⟨e,hf⟩
 . rw[e];exact I.iV
 . rw[e];obtain⟨m,hn,_⟩:=I.loc;refine .cons (by rw[I.ok.kind];decide) hf hn ?_ I.iV;exact Heap.get?_none_of_le (Nat.le_trans I.ok.xk I.ok.above)
theorem Inv.jh(I:Inv X pins σ H s): ∀ b∈ud X.stack,b∈X.env.locals::X.fs:=λb hb=>by
 rcases I.ok.Fv with e | ⟨e,hf⟩
 . rw[e] at hb;exact List.mem_cons_of_mem _ hb
 . rw[e] at hb;unfold ud at hb;rw[List.filterMap_cons,hf] at hb;exact hb
theorem Inv.qI(I:Inv X pins σ H s): ∀ b∈ud X.stack,H b=none:=λb hb=>by
 rcases List.mem_cons.mp (I.jh b hb) with e | hb
 . rw[e];exact I.free
 . obtain⟨_,o,ho,_⟩:=I.ok.iV.mem hb;exact I.base.free b o ho (I.ok.AZ b hb) λz=>I.ok.vM b z hb
theorem Inv.step{g':Array GenState}{t':Nat}{d':Drawn}{ch:List Addr}(I:Inv X pins σ H s)
  (hch: ∀ b∈ch,(b∈X.ex\/X.s₀.heap.objs.size<=b)/\b≠X.env.locals/\(∀ x c,X.env.cells.lookup x=some c->c≠b)/\ ∀ p∈X.pn++pins,p.1≠b)
  (keep: ∀ b o,b≠X.env.locals->b ∉ X.fs->b ∉ ch->s.heap.get? b=some o->H b=none->h'.get? b=some o)
  (slot: ∀ b o,b≠X.env.locals->b∈X.fs->b ∉ ch->s.heap.get? b=some o->H b=none-> ∃ sl,h'.get? b=some { o with slots:=sl }) (free: ∀ b o,b ∉ ch->s.heap.get? b=some o->H b=none->H' b=none)
  (there: ∀ b o,b ∉ ch->s.heap.get? b=some o-> ∃ o',h'.get? b=some o')
  (g7: ∀ b xs,H b=some (.tup xs)->H' b=some (.tup xs)) (gD: ∀ b o u,H b=some (.gC o u)->H' b=some (.gC o u)) (i8: ∀ b ps,H b=some (.tbl ps)-> ∃ more,H' b=some (.tbl (ps++more)))
  (ns: ∀ m,s.heap.Ns X.env.locals m->h'.Ns X.env.locals m) (bc:gv X.prog X.w H' h') (hg:AllBare g') :
  Inv X pins σ H' { s with heap:=h',gens:=g',drawn:=d',toks:=t' }:=by
 have neL: ∀ b o,X.s₀.heap.get? b=some o->b≠X.env.locals:=λb o e=>Nat.ne_of_lt (Nat.lt_of_lt_of_le (Heap.lt_size e) I.ok.above);have neC: ∀ b o,X.s₀.heap.get? b=some o->b ∉ X.ex->b ∉ ch:=λb o e hx hb=>by
  rcases(hch b hb).1 with z | z
  . exact hx z
  . exact absurd (Nat.lt_of_lt_of_le (Heap.lt_size e) z) (Nat.lt_irrefl _)
 have cellK: ∀ x c,X.env.cells.lookup x=some c-> ∀ v,s.heap.IsCell c v->h'.IsCell c v:=λx c e v ⟨o,ho,hd⟩=>by
  have nch:c ∉ ch:=λz=>(hch c z).2.2.1 x c e rfl;by_cases hc:c∈X.fs
  . obtain⟨sl,q⟩:=slot c o (I.Eo x c e) hc nch ho (I.fJ x c e);exact⟨_,q,hd⟩
  . exact⟨o,keep c o (I.Eo x c e) hc nch ho (I.fJ x c e),hd⟩
 refine⟨I.ok,I.os,hg,⟨λb o e n hb hx=>?_,λb o e n hb hx=>?_,λb o e n hx=>?_,λb o e hx=>?_,λb xs e=>g7 b xs (I.base.g7 b xs e),λb o xs e=>gD b o xs (I.base.gD b o xs e),λb ps e=>?_⟩,?_,λx c e=>?_,?_,λx c e=>?_,λp hp=>?_,bc,I.len⟩
 . exact keep b o (neL b o e) hb (neC b o e hx) (I.base.keep b o e n hb hx) (I.base.free b o e n hx)
 . obtain⟨sl,e1⟩:=I.base.slot b o e n hb hx;obtain⟨sl',e2⟩:=slot b _ (neL b o e) hb (neC b o e hx) e1 (I.base.free b o e n hx);exact⟨sl',e2⟩
 . obtain⟨o',e1⟩:=I.base.there b o e hx;exact free b o' (neC b o e hx) e1 (I.base.free b o e n hx)
 . obtain⟨o',e1⟩:=I.base.there b o e hx;exact there b o' (neC b o e hx) e1
 . obtain⟨m1,e1⟩:=I.base.i8 b ps e;obtain⟨m2,e2⟩:=i8 b _ e1;exact⟨m1++m2,by rw[e2,Array.append_assoc]⟩
 . obtain⟨m,hn,hl⟩:=I.loc;refine⟨m,ns m hn,λi x v e1 e2 e3=>?_⟩;obtain⟨u,r,l⟩:=hl i x v e1 e2 e3;refine⟨u,r,?_⟩;rcases l with l | ⟨k,c,e,z⟩
   . exact .inl l
   . exact .inr ⟨k,c,e,cellK x c e _ z⟩
 . obtain⟨v,z⟩:=I.cell x c e;exact⟨v,cellK x c e v z⟩
 . obtain⟨m,⟨o,_,_,ho,_⟩,_⟩:=I.loc;exact free _ o (λz=>(hch _ z).2.1 rfl) ho I.free
 . obtain⟨v,o,ho,hd⟩:=I.cell x c e;exact free c o (λz=>(hch c z).2.2.1 x c e rfl) ho (I.fJ x c e)
 . obtain⟨e,n,ne,nf,d⟩:=I.pin p hp;have nch:p.1 ∉ ch:=λz=>(hch p.1 z).2.2.2 p hp rfl;exact⟨keep p.1 p.2 ne nf nch e n,free p.1 p.2 nch e n,ne,nf,d⟩
theorem Inv.un{t':Nat}(I:Inv X pins σ H s)(u:Un X.fs [] H H' s.heap h')(bc:gv X.prog X.w H' h'):Inv X pins σ H' { s with heap:=h',toks:=t' }:=by
 obtain⟨m,⟨o,es,ep,ho,r⟩,_⟩:=id I.loc;obtain⟨sl,hL⟩:=u.any ho I.free (by simp);exact I.step (g':=s.gens) (d':=s.drawn) (ch:=[]) (λ_ z=>nomatch z) (λb o _ hb _ e n=>u.keep b o e n hb (by simp)) (λb o _ hb _ e n=>u.slot b o e n hb (by simp)) (λb o _ e n=>u.free b o e n (by simp)) (λb o _ e=>u.there b o e (by simp)) u.g7 u.gD u.i8 (λm' hm=>by
  obtain⟨o',es',ep',ho',r'⟩:=hm;rw[ho] at ho';cases ho';exact⟨_,es',ep',hL,r'⟩) bc I.bare
theorem Inv.call{g':Array GenState}{t':Nat}{d':Drawn}{ch:List Addr}(I:Inv X pins σ H s)(u:Un (ud X.stack) ch H H' s.heap h')(bc:gv X.prog X.w H' h')(hg:AllBare g')
  (hch: ∀ b∈ch,(b∈X.ex\/X.s₀.heap.objs.size<=b)/\b≠X.env.locals/\(∀ x c,X.env.cells.lookup x=some c->c≠b)/\ ∀ p∈X.pn++pins,p.1≠b) :
  Inv X pins σ H' { s with heap:=h',gens:=g',drawn:=d',toks:=t' }:=by
 obtain⟨m,⟨o,es,ep,ho,r⟩,_⟩:=id I.loc;obtain⟨sl,hL⟩:=u.any ho I.free λz=>(hch _ z).2.1 rfl;exact I.step (ch:=ch) hch (λb o hL hb hc e n=>u.keep b o e n (λz=>(List.mem_cons.mp (I.jh b z)).elim hL hb) hc) (λb o _ _ hc e n=>u.any e n hc) (λb o hc e n=>u.free b o e n hc) (λb o hc e=>u.there b o e hc) u.g7 u.gD u.i8 (λm' hm=>by
  obtain⟨o',es',ep',ho',r'⟩:=hm;rw[ho] at ho';cases ho';exact⟨_,es',ep',hL,r'⟩) bc hg
theorem Inv.turned{t':Nat}{it:Addr}(I:Inv X pins σ H s)(k: ∀ b o,b≠it->s.heap.get? b=some o->h'.get? b=some o)(hn:H it=none)(hL:it≠X.env.locals)
  (h1:it∈X.ex\/X.s₀.heap.objs.size<=it) (h2: ∀ x c,X.env.cells.lookup x=some c->c≠it) (h3: ∀ p∈X.pn++pins,p.1≠it):Inv X pins σ H { s with heap:=h',toks:=t' }:=by
 have nit: ∀ b u,H b=some u->b≠it:=λb u e z=>by rw[z,hn] at e;cases e
 refine I.step (g':=s.gens) (d':=s.drawn) (ch:=[it]) (λb hb=>?_) (λb o _ _ hc e _=>k b o (λz=>hc (by simp[z])) e) (λb o _ _ hc e _=>⟨o.slots,k b o (λz=>hc (by simp[z])) e⟩) (λ_ _ _ _ n=>n)
  (λb o hc e=>⟨o,k b o (λz=>hc (by simp[z])) e⟩) (λ_ _ e=>e) (λ_ _ _ e=>e) (λb ps e=>⟨#[],by rw[e];simp⟩) (λm hm=>?_) (λb u e=>?_) I.bare
 . have e:b=it:=by simpa using hb
   subst e;exact⟨h1,hL,h2,h3⟩
 . obtain⟨o,es,ep,ho,r⟩:=hm;exact⟨o,es,ep,k _ o (Ne.symm hL) ho,r⟩
 . refine(I.bc b u e).pE (λc v hc q=>k c v ?_ q) (λ_ q=>q) λ_ _ q=>q;rcases hc with z | z
   . rw[z];exact nit b u e
   . exact nit c _ z
theorem Inv.tok(I:Inv X pins σ H s)(t:Nat):Inv X pins σ H { s with toks:=t }:=I.un (h':=s.heap) (t':=t) Un.refl I.bc
theorem Inv.kept{t':Nat}(I:Inv X pins σ H s)(k: ∀ b u,s.heap.get? b=some u->h'.get? b=some u):Inv X pins σ H { s with heap:=h',toks:=t' }:=I.un (Un.kept k) (I.bc.kept k)
theorem Inv.laid{a:Addr}{o:HO}{t':Nat}(I:Inv X pins σ H s)(k: ∀ b u,s.heap.get? b=some u->h'.get? b=some u)(hp:s.heap.objs.size<=a)(new:aP X.prog X.w (upd H a o) h' a o) :
  Inv X pins σ (upd H a o) { s with heap:=h',toks:=t' }:=I.un (Un.laid k hp (I.bc.fresh hp)) (I.bc.laid k hp new)
theorem Inv.write {x e:Addr} {o:HO} {t':Nat} (I:Inv X pins σ H s) (mu:FW (H x)) (he:e=x∨H e=some (.own x)) (k: ∀ b u,b≠e->s.heap.get? b=some u->h'.get? b=some u) (heo: ∃ u,h'.get? e=some u)
  (new:aP X.prog X.w (upd H x o) h' x o):Inv X pins σ (upd H x o) { s with heap:=h',toks:=t' }:=I.un (Un.write mu he k heo) (I.bc.write mu he k heo new)
theorem Inv.weak {σ':List (Option V)} (I:Inv X pins σ H s) (hl: σ'.length= σ.length) (w: ∀ (i:Nat) v, σ'[i]?=some (some v)-> σ[i]?=some (some v)):Inv X pins σ' H s :=
 ⟨I.ok,I.os,I.bare,I.base,let ⟨m,hn,hl'⟩:=I.loc;⟨m,hn,λi x v e1 e2 e3=>hl' i x v e1 (w i v e2) e3⟩,I.cell,I.free,I.fJ,I.pin,I.bc,hl.trans I.len⟩
theorem Inv.fU {pins':List (Addr × Obj)} (I:Inv X pins σ H s) (h: ∀ p∈pins',s.heap.get? p.1=some p.2∧H p.1=none∧p.1≠X.env.locals∧p.1 ∉ X.fs∧ ∀ v,p.2.data≠ .cell v):Inv X pins' σ H s :=
 ⟨I.ok,I.os,I.bare,I.base,I.loc,I.cell,I.free,I.fJ,λp hp=>(List.mem_append.mp hp).elim (λz=>I.pin p (List.mem_append_left _ z)) (h p),I.bc,I.len⟩
theorem nV{N:List Str}(hN:N.Nodup){i j:Nat}{x:Str}(a:N[i]?=some x)(b:N[j]?=some x):i=j:=by
 obtain⟨h1,e1⟩:=List.getElem?_eq_some_iff.mp a;obtain⟨h2,e2⟩:=List.getElem?_eq_some_iff.mp b;exact(List.getElem_inj hN).mp (e1.trans e2.symm)
theorem lM{M:Model}{A:Around}{E:Value->Shared->Prop}{i:Nat}{x:Str}{v:V}{u:Value}{Q:Unit->Shared->Prop}(I:Inv X pins σ H s)(hN:X.N.Nodup)(hi:X.N[i]?=some x)(hx:Loc X.env.scope x)(r:RelV v u)
  (h: ∀ s',Inv X pins (σ.set i (some v)) H s'->(∃ a,Heap.SameBut a s.heap s'.heap/\(a=X.env.locals\/X.env.cells.lookup x=some a))->Q () s') (hf:X.fn x=true\/X.env.scope.names.lookup x=some .local:=by first | exact .inl rfl | exact .inr rfl | assumption):wpAny M A (storeName X.env x u) Q E s:=by
 obtain⟨m,hn,hl⟩:=id I.loc;have hcls:(X.env.scope.kind == .class||(X.env.scope.kind == .module&&X.env.locals !=X.env.globals))=false:=by rw[I.ok.kind];rfl
 have hiσ :i < σ.length:=by rw[I.len];exact(List.getElem?_eq_some_iff.mp hi).1
 have Eo:=I.Eo;have tracked: ∀{a:Addr}{h':Heap},(∃ o,s.heap.get? a=some o/\H a=none)->Heap.SameBut a s.heap h'->gv X.prog X.w H h':=λ{a h'} ha hs b ob e=>by
  obtain⟨_,_,hfree⟩:=ha;refine(I.bc b ob e).pE (λc w' hc q=>(hs.2 c ?_).trans q) (λ_ q=>q) λ_ _ q=>q;rintro rfl;rcases hc with rfl | hc
  . rw[hfree] at e;cases e
  . rw[hfree] at hc;cases hc
 rcases hx with hk | hk
 . refine wpAny_storeName_local hk hn (λh' hn' hs=>?_) hcls;obtain⟨oL,_,_,hoL,_⟩:=id hn;refine h _ ⟨I.ok,I.os,I.bare,⟨λb o e n hb hx=>?_,λb o e n hb hx=>?_,I.base.free,λb o e hx=>?_,I.base.g7,I.base.gD,I.base.i8⟩,⟨_,hn',λj y v' e1 e2 e3=>?_⟩,λy c e=>?_,I.free,I.fJ,λp hp=>?_,tracked ⟨oL,hoL,I.free⟩ hs,by simpa using I.len⟩ ⟨_,hs,.inl rfl⟩
   . exact(hs.2 b (Nat.ne_of_lt (Nat.lt_of_lt_of_le (Heap.lt_size e) I.ok.above))).trans (I.base.keep b o e n hb hx)
   . obtain⟨sl,e1⟩:=I.base.slot b o e n hb hx;exact⟨sl,(hs.2 b (Nat.ne_of_lt (Nat.lt_of_lt_of_le (Heap.lt_size e) I.ok.above))).trans e1⟩
   . obtain⟨o',e1⟩:=I.base.there b o e hx;exact⟨o',(hs.2 b (Nat.ne_of_lt (Nat.lt_of_lt_of_le (Heap.lt_size e) I.ok.above))).trans e1⟩
   . by_cases hj:j=i
     . subst hj;rw[hi] at e1;cases e1;rw[List.getElem?_set_self hiσ] at e2;cases e2;exact⟨u,r,.inl ⟨hk,by simp⟩⟩
     . rw[List.getElem?_set_ne (Ne.symm hj)] at e2;obtain⟨u',r',q⟩:=hl j y v' e1 e2 e3;refine⟨u',r',?_⟩;rcases q with⟨k,e⟩ | ⟨k,c,e,z⟩
       . refine .inl ⟨k,?_⟩;have:y≠x:=λe=>hj (nV hN e1 (e ▸ hi));simp[this,e]
       . exact .inr ⟨k,c,e,z.sameBut hs (Eo y c e)⟩
   . obtain⟨w',z⟩:=I.cell y c e;exact⟨w',z.sameBut hs (Eo y c e)⟩
   . obtain⟨e,n,ne,nf,d⟩:=I.pin p hp;exact⟨(hs.2 p.1 ne).trans e,n,ne,nf,d⟩
 . have hfn:X.fn x=true:=by
    rcases hf with z | z
    . exact z
    . rw[z] at hk;cases hk
   obtain⟨c,hc⟩:=I.ok.has x (.inl hk);obtain⟨w',z⟩:=I.cell x c hc;refine wpAny_storeName_cell I.ok.kind hk hc z (λh' hc' hs=>?_);obtain⟨oc,hoc,hocd⟩:=id z;refine h { s with heap:=h' } ⟨I.ok,I.os,I.bare,⟨λb o e n hb hx=>?_,λb o e n hb hx=>?_,I.base.free,λb o e hx=>?_,I.base.g7,I.base.gD,I.base.i8⟩,⟨m,hn.sameBut hs (Ne.symm (Eo x c hc)),λj y v' e1 e2 e3=>?_⟩,λy c' e=>?_,I.free,I.fJ,λp hp=>?_,tracked ⟨oc,hoc,I.fJ x c hc⟩ hs,by simpa using I.len⟩ ⟨c,hs,.inr hc⟩
   . exact(hs.2 b (Nat.ne_of_lt (Nat.lt_of_lt_of_le (Heap.lt_size e) (I.ok.Eu x c hfn hc)))).trans (I.base.keep b o e n hb hx)
   . obtain⟨sl,e1⟩:=I.base.slot b o e n hb hx;exact⟨sl,(hs.2 b (Nat.ne_of_lt (Nat.lt_of_lt_of_le (Heap.lt_size e) (I.ok.Eu x c hfn hc)))).trans e1⟩
   . obtain⟨o',e1⟩:=I.base.there b o e hx;exact⟨o',(hs.2 b (Nat.ne_of_lt (Nat.lt_of_lt_of_le (Heap.lt_size e) (I.ok.Eu x c hfn hc)))).trans e1⟩
   . by_cases hj:j=i
     . subst hj;rw[hi] at e1;cases e1;rw[List.getElem?_set_self hiσ] at e2;cases e2;exact⟨u,r,.inr ⟨.inl hk,c,hc,hc'⟩⟩
     . rw[List.getElem?_set_ne (Ne.symm hj)] at e2;obtain⟨u',r',q⟩:=hl j y v' e1 e2 e3;refine⟨u',r',?_⟩;rcases q with q | ⟨k,c',e,z'⟩
       . exact .inl q
       . refine .inr ⟨k,c',e,z'.sameBut hs ?_⟩;rintro rfl;exact hj (nV hN e1 (I.ok.inj _ _ _ e hc ▸ hi))
   . by_cases hcc:c'=c
     . subst hcc;exact⟨_,hc'⟩
     . obtain⟨w2,z2⟩:=I.cell y c' e;exact⟨w2,z2.sameBut hs hcc⟩
   . obtain⟨e,n,ne,nf,d⟩:=I.pin p hp;refine⟨(hs.2 p.1 ?_).trans e,n,ne,nf,d⟩;intro q;rw[q,hoc] at e;have q':oc=p.2:=Option.some.inj e;exact d w' (by rw[<- q'];exact hocd)
theorem nY{M:Model}{A:Around}{E:Value->Shared->Prop}{i:Nat}{x:Str}{v:V}{u:Value}{Q:Unit->Shared->Prop}(I:Inv X pins σ H s)(hN:X.N.Nodup)(hi:X.N[i]?=some x)(hx:Loc X.env.scope x)(r:RelV v u)
  (h: ∀ s',Inv X pins (σ.set i (some v)) H s'->Q () s') (hf:X.fn x=true\/X.env.scope.names.lookup x=some .local:=by first | exact .inl rfl | exact .inr rfl | assumption):wpAny M A (storeName X.env x u) Q E s :=
 lM I hN hi hx r (λs' I' _=>h s' I') hf
theorem Inv.EB{s':Shared}{ch:List Addr}(I:Inv X pins σ H s)(ho:s'.os=s.os)(u:Un (ud X.stack) ch H H' s.heap s'.heap)(bc:gv X.prog X.w H' s'.heap)(hg:AllBare s'.gens)
  (hch: ∀ b∈ch,(b∈X.ex\/X.s₀.heap.objs.size<=b)/\b≠X.env.locals/\(∀ x c,X.env.cells.lookup x=some c->c≠b)/\ ∀ p∈X.pn++pins,p.1≠b):Inv X pins σ H' s':=by
 obtain⟨h',g',d',t',o'⟩:=s';have e:o'=s.os:=ho;subst e;exact I.call (g':=g') (t':=t') (d':=d') u bc hg hch
end
abbrev XK:=Value->Option Addr->Hp->Prop
abbrev St:=List (Option V)
abbrev VK:=V->Hp->Prop
abbrev TE:=St->Hp->VK->Prop
abbrev TT:=St->Hp->(Bool->Hp->Prop)->Prop
abbrev TA:=St->Hp->(List V->Hp->Prop)->Prop
structure Ends where
 nx:St->Hp->Prop
 rt:VK
 bk:St->Hp->Prop:=λ_ _=>False
 ct:St->Hp->Prop:=λ_ _=>False
abbrev TS:=Ends->St->Hp->Prop
noncomputable def EP(X:Cx)(pins:List (Addr × Obj))(σ :St)(Q:VK)(u:Value)(s':Shared):Prop:= ∃ v H',Inv X pins σ H' s'/\RelV v u/\Q v H'
noncomputable def TP(X:Cx)(pins:List (Addr × Obj))(σ :St)(Q:Bool->Hp->Prop)(b:Bool)(s':Shared):Prop:= ∃ H',Inv X pins σ H' s'/\Q b H'
noncomputable def AP(X:Cx)(pins:List (Addr × Obj))(σ :St)(Q:List V->Hp->Prop)(us:List Value)(s':Shared):Prop:= ∃ vs H',Inv X pins σ H' s'/\Vals vs us/\Q vs H'
noncomputable def SP(X:Cx)(pins:List (Addr × Obj))(D:Ends)(f:Flow)(s':Shared):Prop :=
 match f with
 | .next=> ∃ σ' H',Inv X pins σ' H' s'/\D.nx σ' H'
 | .brk=> ∃ σ' H',Inv X pins σ' H' s'/\D.bk σ' H'
 | .cont=> ∃ σ' H',Inv X pins σ' H' s'/\D.ct σ' H'
 | .ret u=> ∃ v σ' H',Inv X pins σ' H' s'/\RelV v u/\D.rt v H'
noncomputable def PE(X:Cx)(e:Expr)(t:TE):Prop :=
 ∀(pins:List (Addr × Obj))(s:Shared)(σ :St)(H:Hp)(Q:VK),Inv X pins σ H s->t σ H Q->wpAny (model X.prog X.w) X.A (eval e X.env) (EP X pins σ Q) X.xe s
noncomputable def PT(X:Cx)(e:Expr)(t:TT):Prop :=
 ∀(pins:List (Addr × Obj))(s:Shared)(σ :St)(H:Hp)(Q:Bool->Hp->Prop),Inv X pins σ H s->t σ H Q->wpAny (model X.prog X.w) X.A (isTrue e X.env (eval e X.env)) (TP X pins σ Q) X.xe s
noncomputable def PW(X:Cx)(e:Expr)(t:TT):Prop :=
 ∀(whole:Sem Value)(pins:List (Addr × Obj))(s:Shared)(σ :St)(H:Hp)(Q:Bool->Hp->Prop),Inv X pins σ H s->t σ H Q->wpAny (model X.prog X.w) X.A (isTrue e X.env whole) (TP X pins σ Q) X.xe s
theorem PW.pt{X:Cx}{e:Expr}{t:TT}(h:PW X e t):PT X e t:=h _
noncomputable def PA(X:Cx)(es:List Expr)(t:TA):Prop :=
 ∀(pos:Pos)(pins:List (Addr × Obj))(s:Shared)(σ :St)(H:Hp)(Q:List V->Hp->Prop),Inv X pins σ H s->t σ H Q->wpAny (model X.prog X.w) X.A (spliced (backTo pos (starEach es X.env))) (AP X pins σ Q) X.xe s
noncomputable def PS(X:Cx)(st:Stmt)(t:TS):Prop :=
 ∀(pins:List (Addr × Obj))(s:Shared)(σ :St)(H:Hp)(D:Ends),Inv X pins σ H s->t D σ H->wpAny (model X.prog X.w) X.A (exec st X.env) (SP X pins D) X.xe s
noncomputable def p7(X:Cx)(st:List Stmt)(t:TS):Prop :=
 ∀(pins:List (Addr × Obj))(s:Shared)(σ :St)(H:Hp)(D:Ends),Inv X pins σ H s->t D σ H->wpAny (model X.prog X.w) X.A (execs st X.env) (SP X pins D) X.xe s
theorem cA{α :Type}{t:Sem α}{Q Q': α ->Shared->Prop}{M:Model}{A:Around}{E:Value->Shared->Prop}{s:Shared}(h:wpAny M A t Q E s)(hQ: ∀ a s,Q a s->Q' a s):wpAny M A t Q' E s:=wpAny_mono h hQ λ_ _ x=>x
section
variable{X:Cx}
theorem bin{a b:Expr}{ta tb:TE}(ha:PE X a ta)(hb:PE X b tb){pins:List (Addr × Obj)}{s:Shared}{σ :St}{H:Hp}{R:V->V->Hp->Prop}(I:Inv X pins σ H s)(h:ta σ H λx H1=>tb σ H1 λy H2=>R x y H2)
  {α :Type} {Q: α ->Shared->Prop} {f:Value->Value->Sem α}
  (hf: ∀ v u s2 x y H2,Inv X pins σ H2 s2->RelV x v->RelV y u->R x y H2->wpAny (model X.prog X.w) X.A (f v u) Q X.xe s2) :
  wpAny (model X.prog X.w) X.A (eval a X.env) (λv s₁ =>wpAny (model X.prog X.w) X.A (eval b X.env) (λu s₂ =>wpAny (model X.prog X.w) X.A (f v u) Q X.xe s₂) X.xe s₁) X.xe s:=by
 refine cA (ha pins s σ H _ I h) λv s1 ⟨x,H1,I1,r1,q1⟩=>?_;refine cA (hb pins s1 σ H1 _ I1 q1) λu s2 ⟨y,H2,I2,r2,q2⟩=>?_;exact hf v u s2 x y H2 I2 r1 r2 q2
noncomputable def G0 (i:Nat):TE:=fun σ H Q=> ∃ v, σ[i]?=some (some v)∧Q v H
noncomputable def tC (v:V):TE:=λ_ H Q=>Q v H
theorem CO {i:Nat} {x:Str} {pos:Pos} (hN:X.N[i]?=some x) (hv:Ey X.env.scope x) (hd:(x == ("__debug__" :Str))=false:=by decide) (hcd:(x == ("__classdict__" :Str))=false:=by decide):PE X (.Name x pos) (G0 i):=by
 intro pins s σ H Q I h;obtain⟨v,e,h⟩:=h;obtain⟨m,hn,hl⟩:=I.loc;obtain⟨u,r,l⟩:=hl i x v hN e hv;have fin:EP X pins σ Q u s:=⟨v,H,I,r,h⟩
 rcases l with⟨hk,hm⟩ | ⟨hk,c,hc,hcell⟩
 . exact wpAny_Name (wpAny_loadName_local I.ok.kind hk hn hm fin) hd
 . rcases hk with hk | hk
   . exact wpAny_Name (wpAny_loadName_cell I.ok.kind hk hc hcell fin) hd
   . exact wpAny_Name (wpAny_loadName_free I.ok.kind hk hc hcell fin hcd) hd
theorem BW{i j pos}:PE X (.Constant (.int i) j pos) (tC (.int i)):=λ_ _ _ H _ I h=>wpAny_Constant_int ⟨.int i,H,I.tok _,⟨_,rfl⟩,h⟩
theorem Ez{b j pos}:PE X (.Constant (.bool b) j pos) (tC (.bl b)):=λ_ _ _ H _ I h=>Constant_bool ⟨.bl b,H,I,rfl,h⟩
theorem Ed{j pos}:PE X (.Constant .none j pos) (tC .non):=λ_ _ _ H _ I h=>Constant_none ⟨.non,H,I,rfl,h⟩
theorem D9{x j pos}:PE X (.Constant (.str x) j pos) (tC (.str x)):=λ_ _ _ H _ I h=>Calls.Constant_str ⟨.str x,H,I.tok _,⟨_,rfl⟩,h⟩
noncomputable def Gl(X:Cx)(x:Str):Prop:=X.env.kindOf x=some .globalImplicit
theorem qZ{E:Value->Shared->Prop}{pins:List (Addr × Obj)}{s:Shared}{σ :St}{H:Hp}{x:Str}{u:Value}{pos:Pos}{Q:Value->Shared->Prop}(I:Inv X pins σ H s)(hg:Gl X x)(hm:X.mg x=some u)(h:Q u s)
  (hd:(x == ("__debug__" :Str))=false:=by decide):wpAny (model X.prog X.w) X.A (eval (.Name x pos) X.env) Q E s :=
 Calls.Name_function_global I.ok.kind hg (Calls.loadGlobal_global (by rw[I.ok.glob];exact I.mod.glob.keeps I.bk) hm h) hd
theorem iO{E:Value->Shared->Prop}{pins:List (Addr × Obj)}{s:Shared}{σ :St}{H:Hp}{x:Str}{u:Value}{pos:Pos}{Q:Value->Shared->Prop}(I:Inv X pins σ H s)(hg:Gl X x)(hm:X.mg x=none)(hv:bootBuiltins x=some u)(h:Q u s)
  (hn:x≠ "__name__" :=by decide) (hd:(x == ("__debug__" :Str))=false:=by decide):wpAny (model X.prog X.w) X.A (eval (.Name x pos) X.env) Q E s:=by
 obtain⟨mb,h1,h2⟩:=I.mod.blt;exact Calls.Name_function_global I.ok.kind hg (Calls.loadGlobal_builtin (by rw[I.ok.glob];exact I.mod.glob.keeps I.bk) hm (by rw[I.ok.blt];exact h1.keeps I.bk) ((h2 x hn).trans hv) h) hd
theorem xt{x:Str}{v:V}{u:Value}{pos:Pos}(hg:Gl X x)(hm:X.mg x=some u)(r:RelV v u)(hd:(x == ("__debug__" :Str))=false:=by decide):PE X (.Name x pos) (tC v) :=
 λ_ _ _ H _ I h=>qZ I hg hm ⟨v,H,I,r,h⟩ hd
theorem xH{x:Str}{v:V}{u:Value}{pos:Pos}(hg:Gl X x)(hm:X.mg x=none)(hv:bootBuiltins x=some u)(r:RelV v u)(hn:x≠ "__name__" :=by decide)(hd:(x == ("__debug__" :Str))=false:=by decide):PE X (.Name x pos) (tC v) :=
 λ_ _ _ H _ I h=>iO I hg hm hv ⟨v,H,I,r,h⟩ hn hd
variable{a b:Expr}{ta tb:TE}{pos:Pos}
noncomputable def tB(t:TE):TT:=fun σ H Q=>t σ H λx H1=> ∃ c,x= .bl c/\Q c H1
theorem Ef{e:Expr}{t:TE}(h:PE X e t)(he: ∀ whole,isTrue e X.env whole=(do let v <- whole;standAt e.pos;holding [v] (truthy v)):=by intro _;rfl):PT X e (tB t):=by
 intro pins s σ H Q I hw;refine isTrue_plain (cA (h pins s σ H _ I hw) λv s1 ⟨x,H1,I1,r1,q1⟩=>?_) (he _);obtain⟨d,rfl,q⟩:=q1;cases r1;exact wpAny_truthy_bool ⟨H1,I1,q⟩
variable{tA tB':TT}{rest:List Expr}
noncomputable def Gp(t u:TT):TT:=fun σ H Q=>t σ H λc H1=>if c=true then u σ H1 Q else Q false H1
noncomputable def Ir(t u:TT):TT:=fun σ H Q=>t σ H λc H1=>if c=true then Q true H1 else u σ H1 Q
noncomputable def FD(t:TT):TT:=fun σ H Q=>t σ H λc H1=>Q (!c) H1
theorem pw_and1(ha:PT X a tA):PW X (.BoolOp .And [a] pos) tA:=by
 intro wh pins s σ H Q I h;refine isTrue_and (cA (ha pins s σ H Q I h) λc s1 e=>?_);cases c with
 | true=>exact isTrue_and_nil e
 | false=>exact e
theorem pw_or1(ha:PT X a tA):PW X (.BoolOp .Or [a] pos) tA:=by
 intro wh pins s σ H Q I h;refine isTrue_or (cA (ha pins s σ H Q I h) λc s1 e=>?_);cases c with
 | false=>exact isTrue_or_nil e
 | true=>exact e
theorem pw_and(ha:PT X a tA)(hb:PW X (.BoolOp .And (b::rest) pos) tB'):PW X (.BoolOp .And (a::b::rest) pos) (Gp tA tB'):=by
 intro wh pins s σ H Q I h;refine isTrue_and (cA (ha pins s σ H _ I h) λc s1 ⟨H1,I1,q1⟩=>?_);cases c with
 | true=>exact hb wh pins s1 σ H1 Q I1 q1
 | false=>exact⟨H1,I1,q1⟩
theorem pw_or(ha:PT X a tA)(hb:PW X (.BoolOp .Or (b::rest) pos) tB'):PW X (.BoolOp .Or (a::b::rest) pos) (Ir tA tB'):=by
 intro wh pins s σ H Q I h;refine isTrue_or (cA (ha pins s σ H _ I h) λc s1 ⟨H1,I1,q1⟩=>?_);cases c with
 | true=>exact⟨H1,I1,q1⟩
 | false=>exact hb wh pins s1 σ H1 Q I1 q1
theorem Ci(ha:PT X a tA):PT X (.UnaryOp .Not a pos) (FD tA):=by
 intro pins s σ H Q I h;exact isTrue_not (ha pins s σ H (λc H1=>Q (!c) H1) I h)
noncomputable def FX(ta tb:TE):TE:=fun σ H Q=>ta σ H λx H1=> ∃ c,x= .bl c/\if c=true then Q (.bl true) H1 else tb σ H1 Q
noncomputable def AW(ta:TE):TE:=fun σ H Q=>ta σ H λx H1=> ∃ c,x= .bl c/\Q (.bl (!c)) H1
theorem Bj{op}{t:TE}(h:PE X a t):PE X (.BoolOp op [a] pos) t:=λpins s σ H Q I hw=>BoolOp_one (h pins s σ H Q I hw)
theorem Gi(ha:PE X a ta)(hb:PE X (.BoolOp .Or (b::rest) pos) tb):PE X (.BoolOp .Or (a::b::rest) pos) (FX ta tb):=by
 intro pins s σ H Q I h;refine BoolOp_or (cA (ha pins s σ H _ I h) λv s1 ⟨x,H1,I1,r1,q1⟩=>?_);obtain⟨c,rfl,q1⟩:=q1;cases r1;refine wpAny_truthy_bool ?_;cases c with
 | false=>exact hb pins s1 σ H1 Q I1 q1
 | true=>exact⟨.bl true,H1,I1,rfl,q1⟩
theorem D0(ha:PE X a ta):PE X (.UnaryOp .Not a pos) (AW ta):=by
 intro pins s σ H Q I h;refine UnaryOp_ (cA (ha pins s σ H _ I h) λv s1 ⟨x,H1,I1,r1,q1⟩=>?_);obtain⟨c,rfl,q1⟩:=q1;cases r1;exact not_of (wpAny_truthy_bool ⟨.bl (!c),H1,I1,rfl,q1⟩)
noncomputable def IQ(t:TT)(ta tb:TE):TE:=fun σ H Q=>t σ H λc H1=>if c=true then ta σ H1 Q else tb σ H1 Q
theorem xb{c:Expr}(hc:PT X c tA)(ha:PE X a ta)(hb:PE X b tb):PE X (.IfExp c a b pos) (IQ tA ta tb):=by
 intro pins s σ H Q I h;refine wpAny_IfExp (cA (hc pins s σ H _ I h) λd s1 ⟨H1,I1,q1⟩=>?_);cases d with
 | true=>exact ha pins s1 σ H1 Q I1 q1
 | false=>exact hb pins s1 σ H1 Q I1 q1
end
noncomputable def eU(K:PySem.W.Frag)(H:Hp)(a:Addr)(xs:List V):Prop :=
 Rd H a (.lst xs) \/
  ∃(o:Obj)(ak:Array Value)(n:Nat),K.lookup a=some o/\o.cls= .type "list" /\o.dict=none/\o.data= .seq ak n/\ak.size<=sizeLine/\Vals xs ak.toList
noncomputable def fk(K:PySem.W.Frag)(H:Hp)(a:Addr)(xs:List V):Prop :=
 Rd H a (.tup xs) \/
  ∃(o:Obj)(ak:Array Value)(n:Nat),K.lookup a=some o/\o.cls= .type "tuple" /\o.data= .seq ak n/\ak.size<=sizeLine/\Vals xs ak.toList
noncomputable def Hr:Value->Option V
 | .none=>some .non
 | .bool b=>some (.bl b)
 | .int i _=>some (.int i)
 | .str x _=>some (.str x)
 | .bytes b _=>some (.byt b)
 | .float b _=>some (.flt b)
 | .ref a=>some (.ref a)
 | .type n=>some (.ty n)
 | _=>none
theorem RelV.abs{x:V}{u:Value}(r:RelV x u):Hr u=some x:=by
 cases x with
 | non=>cases r;rfl
 | bl _=>cases r;rfl
 | int _=>obtain⟨t,rfl⟩:=r;rfl
 | str _=>obtain⟨t,rfl⟩:=r;rfl
 | byt _=>obtain⟨t,rfl⟩:=r;rfl
 | flt _=>obtain⟨t,rfl⟩:=r;rfl
 | ref _=>cases r;rfl
 | ty _=>cases r;rfl
theorem RelV.inj{x y:V}{u:Value}(r:RelV x u)(q:RelV y u):x=y:=Option.some.inj (r.abs.symm.trans q.abs)
theorem Vals.inj: ∀{xs ys:List V}{us:List Value},Vals xs us->Vals ys us->xs=ys
 | _,_,_,.nil,.nil=>rfl
 | _,_,_,.cons r t,.cons r' t'=>by rw[r.inj r',Vals.inj t t']
section
variable{X:Cx}{pins:List (Addr × Obj)}{σ :St}{H:Hp}{s:Shared}{a:Addr}{xs ys:List V}
theorem eU.of{K:PySem.W.Frag}(h:H a=some (.lst xs)):eU K H a xs:= .inl (.inl h)
theorem fk.of{K:PySem.W.Frag}(h:H a=some (.tup xs)):fk K H a xs:= .inl (.inl h)
theorem Inv.list(I:Inv X pins σ H s)(h:eU X.K H a xs): ∃ ak:List Value,Vals xs ak/\PlainL s.heap a ak.toArray/\xs.length<=sizeLine:=by
 rcases h with h | ⟨o,ak,n,hk,hc,hd,hs,hz,r⟩
 . obtain⟨z,ak,n,r,e⟩:=h.ok I.bc;exact⟨ak,r,⟨_,n,e,rfl,rfl,rfl⟩,z⟩
 . refine⟨ak.toList,r,⟨o,n,I.i6 a o hk,hc,hd,by simpa using hs⟩,?_⟩;have e:=r.length;simp only[Array.length_toList] at e;omega
theorem Inv.tuple(I:Inv X pins σ H s)(h:fk X.K H a xs): ∃ ak:List Value,Vals xs ak/\IsTup s.heap a ak.toArray/\xs.length<=sizeLine:=by
 rcases h with h | ⟨o,ak,n,hk,hc,hs,hz,r⟩
 . obtain⟨z,ak,r,p⟩:=h.ok I.bc;exact⟨ak,r,p.tup,z⟩
 . refine⟨ak.toList,r,⟨o,I.i6 a o hk,hc,n,by simpa using hs⟩,?_⟩;have e:=r.length;simp only[Array.length_toList] at e;omega
theorem Inv.um(I:Inv X pins σ H s)(h:eU X.K H a xs)(h':eU X.K H a ys):xs=ys:=by
 obtain⟨ak,r,⟨o,n,e,_,_,d⟩,_⟩:=I.list h;obtain⟨its',r',⟨o',n',e',_,_,d'⟩,_⟩:=I.list h';rw[e] at e';cases e';rw[d] at d';injection d' with d1 _;have:ak=its':=by simpa using congrArg Array.toList d1
 subst this;exact r.inj r'
theorem Inv.sU(I:Inv X pins σ H s)(h:fk X.K H a xs)(h':fk X.K H a ys):xs=ys:=by
 obtain⟨ak,r,⟨o,e,_,n,d⟩,_⟩:=I.tuple h;obtain⟨its',r',⟨o',e',_,n',d'⟩,_⟩:=I.tuple h';rw[e] at e';cases e';rw[d] at d';injection d' with d1 _;have:ak=its':=by simpa using congrArg Array.toList d1
 subst this;exact r.inj r'
end
abbrev Cx.jE(X:Cx)(E:Value->Shared->Prop):Cx:={ X with xe:=E }
abbrev Cx.ll(X:Cx):Cx:=X.jE λ_ _=>False
theorem Cx.Ok.jE{X:Cx}(ok:X.Ok)(E:Value->Shared->Prop):(X.jE E).Ok :=
 ⟨ok.mod,ok.kind,ok.glob,ok.blt,ok.above,ok.inj,ok.has,ok.Eu,ok.hd,ok.frames,ok.Fv,ok.HX,ok.bs,ok.xk,ok.sE,ok.vM,ok.iV,ok.AZ⟩
theorem Cx.Ok.ez{X:Cx}{E:Value->Shared->Prop}(ok:(X.jE E).Ok):X.Ok :=
 ⟨ok.mod,ok.kind,ok.glob,ok.blt,ok.above,ok.inj,ok.has,ok.Eu,ok.hd,ok.frames,ok.Fv,ok.HX,ok.bs,ok.xk,ok.sE,ok.vM,ok.iV,ok.AZ⟩
section
variable{X:Cx}{pins:List (Addr × Obj)}{σ :St}{H:Hp}{s:Shared}{E:Value->Shared->Prop}
theorem Inv.jE(I:Inv X pins σ H s)(E:Value->Shared->Prop):Inv (X.jE E) pins σ H s:=⟨I.ok.jE E,I.os,I.bare,I.base,I.loc,I.cell,I.free,I.fJ,I.pin,I.bc,I.len⟩
theorem Inv.ez(I:Inv (X.jE E) pins σ H s):Inv X pins σ H s:=⟨I.ok.ez,I.os,I.bare,I.base,I.loc,I.cell,I.free,I.fJ,I.pin,I.bc,I.len⟩
theorem SP.ez{D:Ends}{f:Flow}{s':Shared}(h:SP (X.jE E) pins D f s'):SP X pins D f s':=by
 cases f with
 | next=>obtain ⟨σ',H',I,q⟩:=h;exact ⟨σ',H',I.ez,q⟩
 | brk=>obtain ⟨σ',H',I,q⟩:=h;exact ⟨σ',H',I.ez,q⟩
 | cont=>obtain ⟨σ',H',I,q⟩:=h;exact ⟨σ',H',I.ez,q⟩
 | ret u=>obtain ⟨v, σ',H',I,r,q⟩:=h;exact ⟨v, σ',H',I.ez,r,q⟩
theorem PE.ll {e:Expr} {t:TE} (h:PE X.ll e t):PE X e t:=λpins s σ H Q I hw =>
 wpAny_mono (h pins s σ H Q (I.jE _) hw) (λ_ _ ⟨v,H',I',r,q⟩=>⟨v,H',I'.ez,r,q⟩) λ_ _ z=>False.elim z
theorem PT.ll {e:Expr} {t:TT} (h:PT X.ll e t):PT X e t:=λpins s σ H Q I hw =>
 wpAny_mono (h pins s σ H Q (I.jE _) hw) (λ_ _ ⟨H',I',q⟩=>⟨H',I'.ez,q⟩) λ_ _ z=>False.elim z
theorem p7.ll{st:List Stmt}{t:TS}(h:p7 X.ll st t):p7 X st t:=λpins s σ H D I hw =>
 wpAny_mono (h pins s σ H D (I.jE _) hw) (λ_ _ q=>q.ez) λ_ _ z=>False.elim z
end
section
variable{X:Cx}{st:Stmt}{rest:List Stmt}{t u:TS}{e:Expr}{te:TE}{pos:Pos}
noncomputable def vi:TS:=λD σ H=>D.nx σ H
noncomputable def B0(t u:TS):TS:=λD σ H=>t { D with nx:=u D } σ H
theorem xP:p7 X [] vi:=λ_ _ σ H _ I h=>wpAny_execs_nil ⟨σ,H,I,h⟩
theorem uF(h1:PS X st t)(h2:p7 X rest u):p7 X (st::rest) (B0 t u):=by
 intro pins s σ H D I h;refine wpAny_execs_cons (cA (h1 pins s σ H { D with nx:=u D } I h) λf s1 q=>?_);cases f with
 | next =>
  obtain⟨σ',H',I',q⟩:=q
  exact h2 pins s1 σ' H' D I' q
 | ret v=>exact q
 | brk=>exact q
 | cont=>exact q
theorem zP(h1:PS X st t):p7 X [st] t:=by
 intro pins s σ H D I h;refine wpAny_execs_cons (cA (h1 pins s σ H D I h) λf s1 q=>?_);cases f with
 | next=>exact wpAny_execs_nil q
 | ret v=>exact q
 | brk=>exact q
 | cont=>exact q
theorem Inv.quiet{pins:List (Addr × Obj)}{σ :St}{H:Hp}{s:Shared}(I:Inv X pins σ H s):interactive X.env=false:=by simp[interactive,I.ok.kind]
noncomputable def AI(te:TE):TS:=λD σ H=>te σ H λ_ H1=>D.nx σ H1
theorem Ao(he:PE X e te)(hs:swapsWith e none pos.line X.env=pure false:=by rfl):PS X (.Expr e pos) (AI te):=by
 intro pins s σ H D I h;exact wpAny_Expr_any (cA (he pins s σ H _ I h) λv s1 ⟨x,H1,I1,r1,q1⟩=>⟨σ,H1,I1,q1⟩) I.quiet hs
noncomputable def FV (te:TE):TS:=λD σ H=>te σ H D.rt
theorem Cs (he:PE X e te):PS X (.Return (some e) pos) (FV te):=by
 intro pins s σ H D I h;exact wpAny_Return_some (cA (he pins s σ H _ I h) λv s1 ⟨x,H1,I1,r1,q1⟩=>⟨x, σ,H1,I1,r1,q1⟩)
noncomputable def Gz (c:TT) (t u:TS):TS:=λD σ H=>c σ H λb H1=>if b=true then t D σ H1 else u D σ H1
theorem GZ {c:Expr} {a b:List Stmt} {tc:TT} (hc:PT X c tc) (ha:p7 X a t) (hb:p7 X b u):PS X (.If c a b pos) (Gz tc t u):=by
 intro pins s σ H D I h;refine wpAny_If (cA (hc pins s σ H _ I h) λd s1 ⟨H1,I1,q1⟩=>?_);cases d with
 | true=>exact ha pins s1 σ H1 D I1 q1
 | false=>exact hb pins s1 σ H1 D I1 q1
end
abbrev TG:=V->St->Hp->(St->Hp->Prop)->Prop
abbrev nJ:=List V->St->Hp->(St->Hp->Prop)->Prop
noncomputable def PG(X:Cx)(target:Expr)(t:TG):Prop :=
 ∀(pins:List (Addr × Obj))(s:Shared)(σ :St)(H:Hp)(v:V)(u:Value)(Q:St->Hp->Prop),Inv X pins σ H s->RelV v u->t v σ H Q ->
  wpAny (model X.prog X.w) X.A (assign target X.env u) (λ_ s'=> ∃ σ' H',Inv X pins σ' H' s'/\Q σ' H') X.xe s
noncomputable def Fw(X:Cx)(ts:List Expr)(t:nJ):Prop :=
 ∀(pins:List (Addr × Obj))(s:Shared)(σ :St)(H:Hp)(vs:List V)(us:List Value)(Q:St->Hp->Prop),Inv X pins σ H s->Vals vs us->t vs σ H Q ->
  wpAny (model X.prog X.w) X.A (assignInOrder ((assignEach ts X.env).map (·.2)) us) (λ_ s'=> ∃ σ' H',Inv X pins σ' H' s'/\Q σ' H') X.xe s
abbrev uB:=V->V->V->Hp->(Hp->Prop)->Prop
noncomputable def lB(X:Cx)(t:uB):Prop :=
 ∀(pins:List (Addr × Obj))(s:Shared)(σ :St)(H:Hp)(o i v:V)(ov iv u:Value)(Q:Hp->Prop),Inv X pins σ H s->RelV o ov->RelV i iv->RelV v u->t o i v H Q ->
  wpAny (model X.prog X.w) X.A (setItem ov iv u) (λ_ s'=> ∃ H',Inv X pins σ H' s'/\Q H') X.xe s
section
variable{X:Cx}{pos:Pos}
noncomputable def dH(i:Nat):TG:=λv σ H Q=>Q (σ.set i (some v)) H
theorem Ae{i:Nat}{x:Str}(hN:X.N.Nodup)(hi:X.N[i]?=some x)(hx:Loc X.env.scope x)(hf:X.fn x=true\/X.env.scope.names.lookup x=some .local:=by first | exact .inl rfl | exact .inr rfl | assumption):PG X (.Name x pos) (dH i):=by
 intro pins s σ H v u Q I r h;exact wpAny_assign_Name (nY I hN hi hx r (λs' I'=>⟨_,H,I',h⟩) hf)
noncomputable def sO:nJ:=λvs σ H Q=>vs=[]/\Q σ H
noncomputable def ji(t:TG)(u:nJ):nJ:=λvs σ H Q=> ∃ v r,vs=v::r/\t v σ H fun σ' H'=>u r σ' H' Q
theorem yx:Fw X [] sO:=by
 intro pins s σ H vs us Q I r h;obtain⟨e,h⟩:=h;subst e;cases r;exact assignInOrder_nil ⟨σ,H,I,h⟩
theorem vA{e:Expr}{es:List Expr}{t:TG}{u:nJ}(h1:PG X e t)(h2:Fw X es u)
  (hs:(assignEach (e::es) X.env).map (·.2)=assign e X.env::(assignEach es X.env).map (·.2):=by rfl):Fw X (e::es) (ji t u):=by
 intro pins s σ H vs us Q I r h;obtain⟨v,vr,e1,h⟩:=h;subst e1;cases r with
 | cons r rr =>
  rw[hs]
  refine assignInOrder_cons (cA (h1 pins s σ H _ _ _ I r h) λ_ s1 ⟨σ1,H1,I1,q1⟩=>?_)
  exact h2 pins s1 σ1 H1 _ _ Q I1 rr q1
noncomputable def rY(K:PySem.W.Frag)(n:Nat)(t:nJ):TG:=λv σ H Q=> ∃ a xs,v= .ref a/\fk K H a xs/\xs.length=n/\t xs σ H Q
theorem Cj{es:List Expr}{k:Nat}{t:nJ}{n:Nat}(hc:X.calm=true)(h:Fw X es t)
  (hn:(assignEach es X.env).length=n:=by rfl) (hst:(assignEach es X.env).findIdx? (·.1)=none:=by rfl):PG X (.Tuple es k pos) (rY X.K n t):=by
 intro pins s σ H v u Q I r hw;obtain⟨a,xs,e1,hq,hl,hw⟩:=hw;subst e1;cases r;obtain⟨ak,rv,ht,hz⟩:=I.tuple hq;refine assign_Tuple_tuple (I.ok.hd hc) ht (by simp[hn,<- hl,rv.length]) hst λh' hx=>?_;have I1:Inv X pins σ H { s with heap:=h' }:=I.kept (t':=s.toks) λb o e=>hx b o (Nat.ne_of_lt (Heap.lt_size e)) e;exact h pins _ σ H xs _ Q I1 (by simpa using rv) hw
noncomputable def HA(to ti:TE)(t:uB):TG:=λv σ H Q=>to σ H λo H1=>ti σ H1 λi H2=>t o i v H2 λH3=>Q σ H3
theorem D7{o i:Expr}{to ti:TE}{t:uB}(ho:PE X o to)(hi:PE X i ti)(hs:lB X t)
  (ha: ∀ v,assign (.Subscript o i pos) X.env v=(do
   let ov <- holding [v] (eval o X.env)
   let iv <- holding [v,ov] (eval i X.env)
   standAt pos
   holding [v,ov,iv] (setItem ov iv v)
   release [v,ov,iv] []):=by intro _;rfl):PG X (.Subscript o i pos) (HA to ti t):=by
 intro pins s σ H v u Q I r h;rw[ha];refine wpAny_bind (wpAny_holding (cA (ho pins s σ H _ I h) λov s1 ⟨x,H1,I1,r1,q1⟩=>?_));refine wpAny_bind (wpAny_holding (cA (hi pins s1 σ H1 _ I1 q1) λiv s2 ⟨y,H2,I2,r2,q2⟩=>?_));refine wpAny_bind (wpAny_standAt (wpAny_bind (wpAny_holding (cA (hs pins s2 σ H2 x y v ov iv u _ I2 r1 r2 r q2) λ_ s3 ⟨H3,I3,q3⟩=>?_))));exact wpAny_release ⟨σ,H3,I3,q3⟩
noncomputable def yh(te:TE)(g:TG):TS:=λD σ H=>te σ H λx H1=>g x σ H1 D.nx
theorem BA{tg e:Expr}{te:TE}{g:TG}(he:PE X e te)(hg:PG X tg g)(hs:swapsWithSole [tg] e pos.line X.env=pure false:=by rfl)(hw:swappedStores [tg] e X.env=pure none:=by rfl)
  (h1:(assignEach [tg] X.env).map (·.2)=[assign tg X.env]:=by rfl):PS X (.Assign [tg] e pos) (yh te g):=by
 intro pins s σ H D I h;refine wpAny_Assign_stores (cA (he pins s σ H _ I h) λv s1 ⟨x,H1,I1,r1,q1⟩=>?_) hs hw;rw[h1];exact cA (hg pins s1 σ H1 x v _ I1 r1 q1) λ_ s2 q=>q
theorem DH{i:Nat}{x:Str}{e:Expr}{te:TE}{pos':Pos}(hN:X.N.Nodup)(hi:X.N[i]?=some x)(hx:Loc X.env.scope x)(he:PE X e te)(hs:swapsWith e (some (.Name x pos')) pos.line X.env=pure false:=by rfl)(hf:X.fn x=true\/X.env.scope.names.lookup x=some .local:=by first | exact .inl rfl | exact .inr rfl | assumption) :
  PS X (.Assign [.Name x pos'] e pos) (yh te (dH i)):=by
 intro pins s σ H D I h;refine wpAny_Assign_Name (cA (he pins s σ H _ I h) λv s1 ⟨y,H1,I1,r1,q1⟩=>?_) hs;exact nY I1 hN hi hx r1 (λs2 I2=>⟨_,H1,I2,q1⟩) hf
end
section
variable{X:Cx}{pos:Pos}
noncomputable def wc(c:TT)(tb:TS):TS:=λD σ H=> ∃ W:Nat->St->Hp->Prop,(∃ m,W m σ H)/\ ∀ m σ H,W m σ H ->
 c σ H λb H1=>if b=true then ∃ N:St->Hp->Prop,(∀ σ' H',N σ' H'-> ∃ m',m' < m/\W m' σ' H')/\tb { D with nx:=N,ct:=N,bk:=D.nx } σ H1 else D.nx σ H1
theorem wN{c:Expr}{body:List Stmt}{tc:TT}{tb:TS}(hp:PassesOwn (model X.prog X.w) X.A X.env X.xe)(hc:PT X c tc)(hb:p7 X body tb):PS X (.While c body [] pos) (wc tc tb):=by
 intro pins s σ H D I h;obtain⟨W,⟨m0,w0⟩,turn⟩:=h;refine wpAny_While (codeAny_whileLoop (λn s'=> ∃ σ' H',Inv X pins σ' H' s'/\W n σ' H') ?_ m0 ⟨σ,H,I,w0⟩);rintro n s1 ⟨σ1,H1,I1,w1⟩;refine wpAny_passesOwn hp (cA (hc pins s1 σ1 H1 _ I1 (turn n σ1 H1 w1)) λb s2 ⟨H2,I2,q2⟩=>?_);cases b with
 | true =>
  obtain⟨N,hN,q2⟩:=q2
  rw[if_pos rfl]
  refine wpAny_passesOwn hp (cA (hb pins s2 σ1 H2 _ I2 q2) λf s3 q3=>?_)
  cases f with
  | next =>
   obtain ⟨σ3,H3,I3,n3⟩:=q3
   obtain ⟨m',hm,w3⟩:=hN σ3 H3 n3
   exact ⟨m',hm, σ3,H3,I3,w3⟩
  | cont =>
   obtain ⟨σ3,H3,I3,n3⟩:=q3
   obtain ⟨m',hm,w3⟩:=hN σ3 H3 n3
   exact ⟨m',hm, σ3,H3,I3,w3⟩
  | brk=>exact q3
  | ret v=>exact q3
 | false =>
  rw[if_neg Bool.false_ne_true]
  exact wpAny_execs_nil ⟨σ1,H2,I2,q2⟩
end
structure It where
 go:Nat->Hp->Prop
 AO:Nat->Hp->V->Hp->Prop
 stop:Nat->Hp->Prop
noncomputable def lA(X:Cx)(pins:List (Addr × Obj))(H:Hp)(b:Addr):Prop :=
 H b=none/\b≠X.env.locals/\b ∉ X.fs/\(b∈X.ex\/X.s₀.heap.objs.size<=b)/\(∀ x c,X.env.cells.lookup x=some c->c≠b)/\ ∀ p∈X.pn++pins,p.1≠b
theorem Inv.EL{X:Cx}{pins:List (Addr × Obj)}{σ :St}{H H':Hp}{s:Shared}{b:Addr}(I:Inv X pins σ H s)(hb:s.heap.objs.size<=b)(hn:H' b=none):lA X pins H' b:=by
 refine⟨hn,Nat.ne_of_gt (Nat.lt_of_lt_of_le I.lt hb),I.EU hb,.inr (Nat.le_trans I.sz hb),λx c e z=>?_,λp hp z=>?_⟩
 . obtain⟨v,q⟩:=I.cell x c e;exact absurd (Nat.lt_of_lt_of_le q.lt (by rw[z];exact hb)) (Nat.lt_irrefl _)
 . exact absurd (Nat.lt_of_lt_of_le (Heap.lt_size (I.pin p hp).1) (by rw[z];exact hb)) (Nat.lt_irrefl _)
structure Turn(P:Program)(w:World)(K:PySem.W.Frag)(tg:Expr)(J:It)(fp:List Addr)(it:Addr)(tn:Nat->Heap->Prop):Prop where
 mem:it∈fp
 obj: ∀ i h,tn i h-> ∀ b∈fp,∃ o,h.get? b=some o/\ ∀ v,o.data≠ .cell v
 keep: ∀ i h h',tn i h->(∀ b∈fp,∀ o,h.get? b=some o->h'.get? b=some o)->tn i h'
 item: ∀(X:Cx),X.prog=P->X.w=w->X.K=K->X.calm=true-> ∀(i:Nat)(pins:List (Addr × Obj))(s:Shared)(σ :St)(H:Hp)(E:Value->Shared->Prop),Inv X pins σ H s->(∀ b∈fp,lA X pins H b)->tn i s.heap->J.go i H ->
  wpAny (model P w) X.A (pyNext (.ref it)) (λr s1=> ∃ u,r=some u /\
   wpAny (model P w) X.A (letOwnedTupleGo tg (.ref it) u) (λ_ s2=> ∃ x H',Inv X pins σ H' s2/\RelV x u/\J.AO i H x H'/\tn (i+1) s2.heap/\ ∀ b∈fp,H' b=none) E s1) E s
 done: ∀(X:Cx),X.prog=P->X.w=w->X.K=K->X.calm=true-> ∀(i:Nat)(pins:List (Addr × Obj))(s:Shared)(σ :St)(H:Hp)(E:Value->Shared->Prop),Inv X pins σ H s->(∀ b∈fp,lA X pins H b)->tn i s.heap->J.stop i H ->
  wpAny (model P w) X.A (pyNext (.ref it)) (λr s1=>r=none/\Inv X pins σ H s1) E s
 self: ∀(A:Around)(i:Nat)(s:Shared)(Q:Value->Shared->Prop)(E:Value->Shared->Prop),tn i s.heap->Q (.ref it) s->wpAny (model P w) A (pyIter (.ref it)) Q E s
abbrev TI:=St->Hp->(It->Hp->Prop)->Prop
noncomputable def Fu(X:Cx)(pins:List (Addr × Obj))(σ :St)(tg:Expr)(R:It->Hp->Prop)(itv:Value)(s2:Shared):Prop :=
 ∃(it:Addr)(fp:List Addr)(tn:Nat->Heap->Prop)(J:It)(H':Hp),itv= .ref it/\Inv X pins σ H' s2/\Turn X.prog X.w X.K tg J fp it tn/\tn 0 s2.heap/\(∀ b∈fp,lA X pins H' b)/\R J H'
noncomputable def PI(X:Cx)(tg iter:Expr)(wi:TI):Prop :=
 ∀ (pins:List (Addr × Obj)) (s:Shared) (σ :St) (H:Hp) (R:It->Hp->Prop),Inv X pins σ H s->wi σ H R ->
  wpAny (model X.prog X.w) X.A (eval iter X.env) (λv s1=>wpAny (model X.prog X.w) X.A (pyIter v) (Fu X pins σ tg R) X.xe s1) X.xe s
theorem qG {M : Model} {A : Around} {E : Value -> Shared -> Prop} {s : Shared} {tg : Expr} {it : Addr} {u : Value} {o : Obj} {n : String} {vs : Array Value} {Q : Unit -> Shared -> Prop} (ho : s.heap.get? it = some o) (hc : o.cls = .type n) (hd : o.data = .fields vs)
    (hn : ["enumerate", "zip", "dict_itemiterator", "dict_reverseitemiterator", "odict_iterator", "itertools.zip_longest", "itertools.pairwise"].contains n = false) (hQ : Q () s) : wpAny M A (letOwnedTupleGo tg (.ref it) u) Q E s := by
  unfold letOwnedTupleGo;cases tg <;> first
    | exact wpAny_pure hQ
    | (cases u <;> first
        | exact wpAny_pure hQ
        | (refine wpAny_bind (wpAny_load ho ?_)
           rw [hc, hd]
           show wpAny M A (if (["enumerate", "zip", "dict_itemiterator", "dict_reverseitemiterator", "odict_iterator", "itertools.zip_longest", "itertools.pairwise"].contains n && vs[0]? == some (rawInt _)) = true then _ else _) Q E s
           rw [if_neg (by intro h; rw [hn, Bool.false_and] at h; cases h)]
           exact wpAny_pure hQ))
noncomputable def Ib (K:PySem.W.Frag) (a:Addr):It :=
 ⟨λi H=> ∃ xs x,eU K H a xs∧xs[i]?=some x,λi H x H'=>H'=H∧ ∀ xs,eU K H a xs->xs[i]?=some x,λi H=> ∃ xs,eU K H a xs∧xs.length<=i⟩
noncomputable def uE(K:PySem.W.Frag)(a:Addr):It :=
 ⟨λi H=> ∃ xs x,fk K H a xs/\xs[i]?=some x,λi H x H'=>H'=H/\ ∀ xs,fk K H a xs->xs[i]?=some x,λi H=> ∃ xs,fk K H a xs/\xs.length<=i⟩
noncomputable def G3(lo:Int)(n:Nat):It:=⟨λi _=>i < n,λi H x H'=>H'=H/\x= .int (lo+i),λi _=>n<=i⟩
theorem rW{P:Program}{w:World}{K:PySem.W.Frag}{tg:Expr}(a it:Addr):Turn P w K tg (Ib K a) [it] it (λi h=>h.IsListIter it a i) where
 mem:=by simp
 obj:=λi h st b hb=>by
  have e:b=it:=by simpa using hb
  subst e;obtain⟨o,e,c,d⟩:=st;exact⟨o,e,λv z=>by rw[d] at z;cases z⟩
 keep:=λi h h' st k=>st.at λo e=>k it (by simp) o e
 item:=by
  intro X hP hw hK hc i pins s σ H E I hf st hg;subst hP hw hK;obtain⟨xs,x,hq,hx⟩:=hg;obtain⟨ak,rv,p,hz⟩:=I.list hq;obtain⟨u,hu,ru⟩:=rv.get hx;obtain⟨f0,f1,f2,f3,f4,f5⟩:=hf it (by simp);refine wpAny_pyNext_list_item st p.isList (x:=u) (by simpa using hu) λh' st' sb=>?_;have I1:Inv X pins σ H { s with heap:=h' }:=I.turned (t':=s.toks) (λb o hb e=>(sb.2 b hb).trans e) f0 f1 f3 f4 f5;obtain⟨o,e,c,d⟩:=id st';exact⟨u,rfl,qG (s:={ s with heap:=h' }) e c d (by decide) ⟨x,H,I1,ru,⟨rfl,λys hy=>by rw[I.um hy hq];exact hx⟩,st',λb hb=>(hf b hb).1⟩⟩
 done:=by
  intro X hP hw hK hc i pins s σ H E I hf st hg;subst hP hw hK;obtain⟨xs,hq,hx⟩:=hg;obtain⟨ak,rv,p,hz⟩:=I.list hq;obtain⟨f0,f1,f2,f3,f4,f5⟩:=hf it (by simp);have hl:=rv.length;exact wpAny_pyNext_list_end (I.ok.hd hc) st p.isList (by simp;omega) λh' eb=>⟨rfl,I.turned (t':=s.toks) (λb o hb e=>eb b o hb e) f0 f1 f3 f4 f5⟩
 self:=λ_ _ _ _ _ st h=>wpAny_pyIter_listiter st h
theorem qc{P:Program}{w:World}{K:PySem.W.Frag}{tg:Expr}(a it:Addr):Turn P w K tg (uE K a) [it] it (λi h=>h.IsTupleIter it a i) where
 mem:=by simp
 obj:=λi h st b hb=>by
  have e:b=it:=by simpa using hb
  subst e;obtain⟨o,e,c,d⟩:=st;exact⟨o,e,λv z=>by rw[d] at z;cases z⟩
 keep:=λi h h' st k=>st.at λo e=>k it (by simp) o e
 item:=by
  intro X hP hw hK hc i pins s σ H E I hf st hg;subst hP hw hK;obtain⟨xs,x,hq,hx⟩:=hg;obtain⟨ak,rv,p,hz⟩:=I.tuple hq;obtain⟨u,hu,ru⟩:=rv.get hx;obtain⟨f0,f1,f2,f3,f4,f5⟩:=hf it (by simp);refine wpAny_pyNext_tuple_item st (show s.heap.IsTuple a ak.toArray from p) (x:=u) (by simpa using hu) λh' st' sb=>?_;have I1:Inv X pins σ H { s with heap:=h' }:=I.turned (t':=s.toks) (λb o hb e=>(sb.2 b hb).trans e) f0 f1 f3 f4 f5;obtain⟨o,e,c,d⟩:=id st';exact⟨u,rfl,qG (s:={ s with heap:=h' }) e c d (by decide) ⟨x,H,I1,ru,⟨rfl,λys hy=>by rw[I.sU hy hq];exact hx⟩,st',λb hb=>(hf b hb).1⟩⟩
 done:=by
  intro X hP hw hK hc i pins s σ H E I hf st hg;subst hP hw hK;obtain⟨xs,hq,hx⟩:=hg;obtain⟨ak,rv,p,hz⟩:=I.tuple hq;obtain⟨f0,f1,f2,f3,f4,f5⟩:=hf it (by simp);have hl:=rv.length;exact wpAny_pyNext_tuple_end (I.ok.hd hc) st (show s.heap.IsTuple a ak.toArray from p) (by simp;omega) λh' eb=>⟨rfl,I.turned (t':=s.toks) (λb o hb e=>eb b o hb e) f0 f1 f3 f4 f5⟩
 self:=λ_ _ _ _ _ st h=>wpAny_pyIter_tupleiter st h
theorem px{P:Program}{w:World}{K:PySem.W.Frag}{tg:Expr}(it:Addr)(lo:Int)(n:Nat):Turn P w K tg (G3 lo n) [it] it (λi h=>IsRangeIter h it (lo+(i:Nat)*1) ((n:Int) - (i:Nat)) 1) where
 mem:=by simp
 obj:=λi h st b hb=>by
  have e:b=it:=by simpa using hb
  subst e;exact⟨_,st,λv z=>by
   have z':Data.fields _=Data.cell v:=z;cases z'⟩
 keep:=λi h h' st k=>k it (by simp) _ st
 item:=by
  intro X hP hw hK hc i pins s σ H E I hf st hg;subst hP hw hK;obtain⟨f0,f1,f2,f3,f4,f5⟩:=hf it (by simp);have W:=Walks.range (prog:=X.prog) (w:=X.w) (I.ok.hd hc) it lo 1 n;refine W.item i s _ _ hg st λv h' tk hv st' kk=>?_;obtain⟨t,rfl⟩:=hv;have I1:Inv X pins σ H { s with heap:=h',toks:=tk }:=I.turned (λb o hb e=>kk b o (by simpa using hb) e) f0 f1 f3 f4 f5;refine⟨_,rfl,qG (s:={ s with heap:=h',toks:=tk }) (n:= "range_iterator") st' rfl rfl (by decide) ⟨.int (lo+i),H,I1,⟨t,?_⟩,⟨rfl,rfl⟩,st',λb hb=>(hf b hb).1⟩⟩;rw[Int.mul_one]
 done:=by
  intro X hP hw hK hc i pins s σ H E I hf st hg;subst hP hw hK;obtain⟨f0,f1,f2,f3,f4,f5⟩:=hf it (by simp);exact wpAny_pyNext_range_end (I.ok.hd hc) st (by have:n<=i:=hg;omega) λh' eb=>⟨rfl,I.turned (t':=s.toks) (λb o hb e=>eb b o hb e) f0 f1 f3 f4 f5⟩
 self:=λ_ _ _ _ _ st h=>wpAny_pyIter_rangeiter st h
section
variable{X:Cx}{tg:Expr}
theorem uY{pins:List (Addr × Obj)}{σ :St}{H:Hp}{s:Shared}{R:It->Hp->Prop}{E:Value->Shared->Prop}{lo hi:Int}{t u v:Tok}{tk:Nat}(I:Inv X pins σ H s)(h1: -(2 ^ 62)<=lo)(h2:lo < 2 ^ 62)(h3: -(2 ^ 62)<=hi)(h4:hi < 2 ^ 62)
  (q:R (G3 lo (hi - lo).toNat) H):wpAny (model X.prog X.w) X.A (pyIter (.ref s.heap.objs.size)) (Fu X pins σ tg R) E { s with heap:=s.heap.push { cls:= .type "range",data:= .fields #[.int lo t,.int hi u,.int 1 v] },toks:=tk }:=by
 refine wpAny_pyIter_range (IsRange.new ..) (small_one h1 h2 h3 h4) ?_;have I1:Inv X pins σ H { s with heap:=s.heap.push { cls:= .type "range",data:= .fields #[.int lo t,.int hi u,.int 1 v] },toks:=tk }:=I.kept λb o e=>Heap.get?_push_of_some _ e;refine⟨(s.heap.push { cls:= .type "range",data:= .fields #[.int lo t,.int hi u,.int 1 v] }).objs.size,[(s.heap.push { cls:= .type "range",data:= .fields #[.int lo t,.int hi u,.int 1 v] }).objs.size],_,_,H,rfl,
  I1.kept (t':=tk) λb o e=>Heap.get?_push_of_some _ e,px _ lo (hi - lo).toNat,?_,λb hb=>?_,q⟩
 . have e1:lo+((0:Nat):Int)*1=lo:=by simp
   have e2:(((hi - lo).toNat:Nat):Int) - ((0:Nat):Int)=Builtin.Range.rangeSize lo hi 1:=by rw[rangeSize_one];split<;>omega
   show IsRangeIter _ _ (lo+((0:Nat):Int)*1) ((((hi - lo).toNat:Nat):Int) - ((0:Nat):Int)) 1;rw[e1,e2];exact Heap.get?_push_size _ rfl
 . have e:b=(s.heap.push { cls:= .type "range",data:= .fields #[.int lo t,.int hi u,.int 1 v] }).objs.size:=by simpa using hb
   subst e;exact I1.EL (Nat.le_refl _) (I1.bc.fresh (Nat.le_refl _))
noncomputable def ES(ta:TA):TI:=fun σ H R=>ta σ H λvs H1=> ∃ j:Int,vs=[.int j]/\ -(2 ^ 62)<=j/\j < 2 ^ 62/\R (G3 0 j.toNat) H1
theorem tH{a:Expr}{ta:TA}{p pos:Pos}(hg:Gl X "range")(hm:X.mg "range" =none)(ha:PA X [a] ta)(hs:starEach [a] X.env=[(false,eval a X.env)]:=by rfl):PI X tg (.Call (.Name "range" p) [a] [] pos) (ES ta):=by
 intro pins s σ H R I h;refine Call_ (iO I hg hm boot_range (PyProof.Rows.callWith_type1 (cA (ha pos pins s σ H _ I h) λus s1 ⟨vs,H1,I1,r1,q1⟩=>?_) hs rfl));obtain⟨j,e,q1,q2,q⟩:=q1;subst e;cases r1 with
 | cons r rr =>
  cases rr
  obtain⟨t,rfl⟩:=r
  exact call_range_1 (uY I1 (by omega) (by omega) q1 q2 (by simpa using q))
noncomputable def F9(wi:TI)(g:TG)(tb:TS):TS:=λD σ H=>wi σ H λJ H1=> ∃ W:Nat->Nat->St->Hp->Prop,(∃ m,W 0 m σ H1)/\ ∀ i m σ H,W i m σ H ->
 (J.stop i H/\D.nx σ H)\/(J.go i H/\ ∃ N:St->Hp->Prop,(∀ σ' H',N σ' H'-> ∃ m',m' < m/\W (i+1) m' σ' H')/\ ∀ x H',J.AO i H x H'->g x σ H' fun σ2 H2=>tb { D with nx:=N,ct:=N,bk:=D.nx } σ2 H2)
noncomputable def mZ(fp:List Addr)(h:Heap):List (Addr × Obj):=fp.filterMap λb=>(h.get? b).map λo=>(b,o)
theorem cP{fp:List Addr}{h:Heap}{b:Addr}{o:Obj}(hb:b∈fp)(e:h.get? b=some o):(b,o)∈mZ fp h:=List.mem_filterMap.mpr ⟨b,hb,by rw[e];rfl⟩
theorem tj{fp:List Addr}{h:Heap}{p:Addr × Obj}(hp:p∈mZ fp h):p.1∈fp/\h.get? p.1=some p.2:=by
 obtain⟨b,hb,e⟩:=List.mem_filterMap.mp hp;cases q:h.get? b with
 | none=>rw[q] at e;cases e
 | some o =>
  rw[q] at e
  have e':(b,o)=p:=Option.some.inj e
  subst e'
  exact⟨hb,q⟩
theorem Inv.pinned{pins:List (Addr × Obj)}{σ :St}{H:Hp}{s:Shared}{fp:List Addr}(I:Inv X pins σ H s)(hf: ∀ b∈fp,lA X pins H b)(ho: ∀ b∈fp,∃ o,s.heap.get? b=some o/\ ∀ v,o.data≠ .cell v):Inv X (pins++mZ fp s.heap) σ H s :=
 I.fU λp hp=>(List.mem_append.mp hp).elim (λz=>I.pin p (List.mem_append_right _ z)) λz=>by
  obtain⟨hb,e⟩:=tj z;obtain⟨f0,f1,f2,_⟩:=hf p.1 hb;obtain⟨o,e',d⟩:=ho p.1 hb;rw[e] at e';cases e';exact⟨e,f0,f1,f2,d⟩
theorem Inv.kl{pins pl:List (Addr × Obj)}{σ :St}{H:Hp}{s:Shared}(I:Inv X (pins++pl) σ H s):Inv X pins σ H s:=I.fU λp hp=>I.pin p (List.mem_append_right _ (List.mem_append_left _ hp))
theorem D8{iter:Expr}{body:List Stmt}{wi:TI}{g:TG}{tb:TS}{pos:Pos}(hp:PassesOwn (model X.prog X.w) X.A X.env X.xe)(hc:X.calm=true)(hi:PI X tg iter wi)(hg:PG X tg g)(hb:p7 X body tb)
  (hs: ∀ x,foldedSetIterable iter X.env x=pure x:=by intro _;rfl):PS X (.For tg iter body [] pos) (F9 wi g tb):=by
 intro pins s σ H D I h;refine wpAny_For (cA (hi pins s σ H _ I h) λv s1 h1=>cA h1 λitv s2 h2=>?_) hs;obtain ⟨it,fp,tn,J,H2,e,I2,T,st2,f2,W,⟨m0,w0⟩,turn⟩:=h2;subst e;have stat: ∀ {H':Hp},(∀ b∈fp,H' b=none)-> ∀ b∈fp,lA X pins H' b:=λhn b hb=>⟨hn b hb,(f2 b hb).2⟩
 refine codeAny_forLoop_any (λn s'=> ∃ i σ' H',Inv X pins σ' H' s'∧tn i s'.heap∧(∀ b∈fp,H' b=none)∧W i n σ' H') ?_ m0 ⟨0, σ,H2,I2,st2,λb hb=>(f2 b hb).1,w0⟩;rintro n s3 ⟨i, σ3,H3,I3,ir,fr3,w3⟩;rcases turn i n σ3 H3 w3 with ⟨stop,qn⟩ | ⟨go,N,hN,step⟩
 . refine wpAny_passesOwn hp (cA (T.done X rfl rfl rfl hc i pins s3 σ3 H3 X.xe I3 (stat fr3) ir stop) λr s4 ⟨hr,I4⟩=>?_);subst hr;exact wpAny_execs_nil ⟨σ3,H3,I4,qn⟩
 . refine wpAny_passesOwn hp (cA (T.item X rfl rfl rfl hc i pins s3 σ3 H3 X.xe I3 (stat fr3) ir go) λr s4 ⟨u,hr,h4⟩=>?_);subst hr;refine wpAny_passesOwn hp (cA h4 λ_ s5 ⟨x,H5,I5,r5,y5,st5,fr5⟩=>?_);have I5':=I5.pinned (stat fr5) (T.obj _ _ st5);refine wpAny_passesOwn hp (cA (hg _ s5 σ3 H5 x u _ I5' r5 (step x H5 y5)) λ_ s6 ⟨σ6,H6,I6,q6⟩=>?_);refine wpAny_passesOwn hp (cA (hb _ s6 σ6 H6 _ I6 q6) λf s7 q7=>?_);have again: ∀ {σ7:St} {H7:Hp},Inv X (pins++mZ fp s5.heap) σ7 H7 s7->N σ7 H7-> ∃ m,m < n∧ ∃ i σ' H',Inv X pins σ' H' s7∧tn i s7.heap∧(∀ b∈fp,H' b=none)∧W i m σ' H':=λ{σ7 H7} I7 n7=>by
    obtain ⟨m',hm,w7⟩:=hN σ7 H7 n7;refine ⟨m',hm,i+1, σ7,H7,I7.kl,T.keep _ _ _ st5 λb hb o e=>(I7.pin (b,o) (List.mem_append_right _ (List.mem_append_right _ (cP hb e)))).1,λb hb=>?_,w7⟩;obtain ⟨o,e,d⟩:=T.obj _ _ st5 b hb;exact (I7.pin (b,o) (List.mem_append_right _ (List.mem_append_right _ (cP hb e)))).2.1
   cases f with
   | next=>obtain ⟨σ7,H7,I7,n7⟩:=q7;exact again I7 n7
   | cont=>obtain ⟨σ7,H7,I7,n7⟩:=q7;exact again I7 n7
   | brk=>obtain ⟨σ7,H7,I7,q7⟩:=q7;exact ⟨σ7,H7,I7.kl,q7⟩
   | ret v=>obtain ⟨x7, σ7,H7,I7,r7,q7⟩:=q7;exact ⟨x7, σ7,H7,I7.kl,r7,q7⟩
end
abbrev R2:=V->V->Hp->VK->Prop
noncomputable def cI(X:Cx)(f:Value->Value->Sem Value)(r:R2):Prop :=
 ∀(pins:List (Addr × Obj))(s:Shared)(σ :St)(H:Hp)(x y:V)(v u:Value)(Q:VK),Inv X pins σ H s->RelV x v->RelV y u->r x y H Q ->
  wpAny (model X.prog X.w) X.A (f v u) (EP X pins σ Q) X.xe s
noncomputable def aM(X:Cx)(f:Value)(r:List V->Hp->VK->Prop):Prop :=
 ∀(pins:List (Addr × Obj))(s:Shared)(σ :St)(H:Hp)(xs:List V)(us:List Value)(Q:VK),Inv X pins σ H s->Vals xs us->r xs H Q ->
  wpAny (model X.prog X.w) X.A (call f us) (EP X pins σ Q) X.xe s
noncomputable def yQ(r:R2)(ta tb:TE):TE:=fun σ H Q=>ta σ H λx H1=>tb σ H1 λy H2=>r x y H2 Q
noncomputable def rI(C:Int->Int->Prop)(g:Int->Int->V):R2:=λx y H Q=> ∃ i j,x= .int i/\y= .int j/\C i j/\Q (g i j) H
noncomputable def xJ(g:Int->Int->V):R2:=λx y H Q=> ∃ i j,x= .int i/\y= .int j/\Q (g i j) H
section
variable{X:Cx}{a b c:Expr}{ta tb tc:TE}{pos:Pos}
theorem CD(ha:PE X a ta)(hb:PE X b tb){pins:List (Addr × Obj)}{s:Shared}{σ :St}{H:Hp}{R:V->V->Hp->Prop}(I:Inv X pins σ H s)
  (h:ta σ H λx H1=>tb σ H1 λy H2=>R x y H2) {Q:Value->Shared->Prop} {f:Value->Value->Sem Value}
  (hf: ∀ v u s2 x y H2,Inv X pins σ H2 s2->RelV x v->RelV y u->R x y H2->wpAny (model X.prog X.w) X.A (f v u) Q X.xe s2) :
  wpAny (model X.prog X.w) X.A (eval a X.env) (λv s₁ =>wpAny (model X.prog X.w) X.A (eval b X.env) (λu s₂ =>wpAny (model X.prog X.w) X.A (f v u) Q X.xe s₂) X.xe s₁) X.xe s:=by
 refine cA (ha pins s σ H _ I h) λv s1 ⟨x,H1,I1,r1,q1⟩=>?_;refine cA (hb pins s1 σ H1 _ I1 q1) λu s2 ⟨y,H2,I2,r2,q2⟩=>?_;exact hf v u s2 x y H2 I2 r1 r2 q2
theorem GS{op:Operator}{r:R2}(ho:cI X (binaryOp op) r)(ha:PE X a ta)(hb:PE X b tb):PE X (.BinOp a op b pos) (yQ r ta tb):=by
 intro pins s σ H Q I h;exact wpAny_BinOp (CD ha hb I h λv u s2 x y H2 I2 rx ry q=>ho pins s2 σ H2 x y v u Q I2 rx ry q)
theorem Hl{f:Value->Value->Sem Value}{C:Int->Int->Prop}{g:Int->Int->Int}
  (rule: ∀(i j:Int)(t u:Tok)(s:Shared)(Q:Value->Shared->Prop)(E:Value->Shared->Prop),C i j->Q (.int (g i j) s.toks) { s with toks:=s.toks+1 }->wpAny (model X.prog X.w) X.A (f (.int i t) (.int j u)) Q E s) :
  cI X f (rI C λi j=> .int (g i j)):=by
 intro pins s σ H x y v u Q I rx ry h;obtain⟨i,j,rfl,rfl,hc,q⟩:=h;obtain⟨t,rfl⟩:=rx;obtain⟨t',rfl⟩:=ry;exact rule i j t t' s _ _ hc ⟨.int (g i j),H,I.tok _,⟨_,rfl⟩,q⟩
theorem Gq{f:Value->Value->Sem Value}{g:Int->Int->Int}
  (rule: ∀(i j:Int)(t u:Tok)(s:Shared)(Q:Value->Shared->Prop)(E:Value->Shared->Prop),Q (.int (g i j) s.toks) { s with toks:=s.toks+1 }->wpAny (model X.prog X.w) X.A (f (.int i t) (.int j u)) Q E s) :
  cI X f (xJ λi j=> .int (g i j)):=by
 intro pins s σ H x y v u Q I rx ry h;obtain⟨i,j,rfl,rfl,q⟩:=h;obtain⟨t,rfl⟩:=rx;obtain⟨t',rfl⟩:=ry;exact rule i j t t' s _ _ ⟨.int (g i j),H,I.tok _,⟨_,rfl⟩,q⟩
theorem CI{f:Value->Value->Sem Value}{g:Int->Int->Bool}
  (rule: ∀(i j:Int)(t u:Tok)(s:Shared)(Q:Value->Shared->Prop)(E:Value->Shared->Prop),Q (.bool (g i j)) s->wpAny (model X.prog X.w) X.A (f (.int i t) (.int j u)) Q E s) :
  cI X f (xJ λi j=> .bl (g i j)):=by
 intro pins s σ H x y v u Q I rx ry h;obtain⟨i,j,rfl,rfl,q⟩:=h;obtain⟨t,rfl⟩:=rx;obtain⟨t',rfl⟩:=ry;exact rule i j t t' s _ _ ⟨.bl (g i j),H,I,rfl,q⟩
noncomputable def HG(i j:Int):Prop:=0 < j/\j < 1073741824
noncomputable def HY(i j:Int):Prop:=0<=j/\j<=1000000/\i.natAbs < 2 ^ 64
noncomputable def Dm(i j:Int):Prop:=(-(2 ^ 64) < i/\i < 2 ^ 64)\/(-(2 ^ 64) < j/\j < 2 ^ 64)
theorem Dm.ok{i j:Int}(h:Dm i j):IntMulOk i j:=by
 rcases h with⟨h1,h2⟩ | ⟨h1,h2⟩
 . exact .of_left (intBits_le_64 h1 h2)
 . exact .of_right (intBits_le_64 h1 h2)
theorem B5:cI X (binaryOp .Add) (xJ λi j=> .int (i+j)):=Gq λ_ _ _ _ _ _ _ q=>add_int q
theorem DB:cI X (binaryOp .Sub) (xJ λi j=> .int (i - j)):=Gq λ_ _ _ _ _ _ _ q=>sub_int q
theorem Bg:cI X (binaryOp .Mult) (rI Dm λi j=> .int (i*j)):=Hl λ_ _ _ _ _ _ _ hc q=>mul_int q hc.ok
theorem zy:cI X (binaryOp .FloorDiv) (rI HG λi j=> .int (i / j)):=Hl λi j _ _ _ _ _ hc q=>by
 have h1:(0:Int) < j:=hc.1;have h2:j < 1073741824:=hc.2;exact floordiv_int (by omega) (by rw[Int.fdiv_eq_ediv_of_nonneg i (by omega)];exact q) (.inl (PyProof.noPylong_small (by omega)))
theorem DY:cI X (binaryOp .Mod) (rI (λ_ j=>0 < j) λi j=> .int (i % j)):=Hl λi j _ _ _ _ _ hc q=>by
 have h1:(0:Int) < j:=hc;exact mod_int' (by omega) (by rw[Int.fmod_eq_emod_of_nonneg i (by omega)];exact q)
theorem Cc:cI X (binaryOp .Pow) (rI HY λi j=> .int (i ^ j.toNat)):=Hl λ_ _ _ _ _ _ _ hc q=>pow_int_small hc.1 hc.2.1 hc.2.2 q
end
noncomputable def wF:V->V->Bool
 | .non,.non=>true | .non,.int _=>true | .int _,.non=>true | .non,.bl _=>true | .bl _,.non=>true | .non,.str _=>true | .str _,.non=>true
 | .int _,.int _=>true | .bl _,.bl _=>true | .str _,.str _=>true | .byt _,.byt _=>true
 | .int _,.str _=>true | .str _,.int _=>true | .bl _,.str _=>true | .str _,.bl _=>true
 | _,_=>false
noncomputable def Jm:R2:=λx y H Q=>wF x y=true/\Q (.bl (decide (x=y))) H
noncomputable def Je:R2:=λx y H Q=>wF x y=true/\Q (.bl (!decide (x=y))) H
theorem rg{i j:Int}:decide (V.int i=V.int j)=(i == j):=by
 rw[Bool.eq_iff_iff];simp
theorem vg{i j:Bool}:decide (V.bl i=V.bl j)=(i == j):=by
 rw[Bool.eq_iff_iff];simp
theorem qQ{i j:Str}:decide (V.str i=V.str j)=(i == j):=by
 rw[Bool.eq_iff_iff];simp
theorem rH{i j:Array UInt8}:decide (V.byt i=V.byt j)=(i.toList == j.toList):=by
 rw[Bool.eq_iff_iff];cases i;cases j;simp
section
variable{X:Cx}{a b c:Expr}{ta tb tc:TE}{pos:Pos}
theorem aL{pins:List (Addr × Obj)}{σ :St}{H:Hp}{s:Shared}{Q:VK}{k k':Bool}(I:Inv X pins σ H s)(q:Q (.bl k) H)(e:k=k'):EP X pins σ Q (.bool k') s:=by
 subst e;exact⟨.bl k,H,I,rfl,q⟩
theorem GP:cI X (compareOp .Eq) Jm:=by
 intro pins s σ H x y v u Q I rx ry h;obtain⟨hs,q⟩:=h;cases x with
 | non =>
  cases rx
  cases y with
  | non=>cases ry;exact PySem.EqNone.eq_none_none (aL I q (by simp))
  | bl j=>cases ry;exact PySem.EqNone.eq_none_bool (aL I q (by simp))
  | int j=>obtain⟨t',rfl⟩:=ry;exact PySem.EqNone.eq_none_int (aL I q (by simp))
  | str j=>obtain⟨t',rfl⟩:=ry;exact PySem.EqNone.eq_none_str (aL I q (by simp))
  | _=>exact absurd (show false=true from hs) Bool.false_ne_true
 | bl i =>
  cases rx
  cases y with
  | non=>cases ry;exact PySem.EqNone.eq_bool_none (aL I q (by simp))
  | bl j=>cases ry;exact eq_bool (aL I q vg)
  | str j=>obtain⟨t',rfl⟩:=ry;exact PySem.EqMixed.eq_bool_str (aL I q (by simp))
  | _=>exact absurd (show false=true from hs) Bool.false_ne_true
 | int i =>
  obtain⟨t,rfl⟩:=rx
  cases y with
  | non=>cases ry;exact PySem.EqNone.eq_int_none (aL I q (by simp))
  | int j=>obtain⟨t',rfl⟩:=ry;exact eq_int (aL I q rg)
  | str j=>obtain⟨t',rfl⟩:=ry;exact PySem.EqMixed.eq_int_str (aL I q (by simp))
  | _=>exact absurd (show false=true from hs) Bool.false_ne_true
 | str i =>
  obtain⟨t,rfl⟩:=rx
  cases y with
  | non=>cases ry;exact PySem.EqNone.eq_str_none (aL I q (by simp))
  | bl j=>cases ry;exact PySem.EqMixed.eq_str_bool (aL I q (by simp))
  | int j=>obtain⟨t',rfl⟩:=ry;exact PySem.EqMixed.eq_str_int (aL I q (by simp))
  | str j=>obtain⟨t',rfl⟩:=ry;exact eq_str (aL I q qQ)
  | _=>exact absurd (show false=true from hs) Bool.false_ne_true
 | byt i =>
  obtain⟨t,rfl⟩:=rx
  cases y with
  | byt j=>obtain⟨t',rfl⟩:=ry;exact PySem.W.eq_bytes (aL I q rH)
  | _=>exact absurd (show false=true from hs) Bool.false_ne_true
 | _=>cases y<;>exact absurd (show false=true from hs) Bool.false_ne_true
theorem Gk:cI X (compareOp .NotEq) Je:=by
 intro pins s σ H x y v u Q I rx ry h;obtain⟨hs,q⟩:=h;cases x with
 | non =>
  cases rx
  cases y with
  | non=>cases ry;exact PySem.EqNone.ne_none_none (aL I q (by simp))
  | bl j=>cases ry;exact PySem.EqNone.ne_none_bool (aL I q (by simp))
  | int j=>obtain⟨t',rfl⟩:=ry;exact PySem.EqNone.ne_none_int (aL I q (by simp))
  | str j=>obtain⟨t',rfl⟩:=ry;exact PySem.EqNone.ne_none_str (aL I q (by simp))
  | _=>exact absurd (show false=true from hs) Bool.false_ne_true
 | bl i =>
  cases rx
  cases y with
  | non=>cases ry;exact PySem.EqNone.ne_bool_none (aL I q (by simp))
  | bl j=>cases ry;exact ne_bool (aL I q (congrArg not vg))
  | str j=>obtain⟨t',rfl⟩:=ry;exact PySem.EqMixed.ne_bool_str (aL I q (by simp))
  | _=>exact absurd (show false=true from hs) Bool.false_ne_true
 | int i =>
  obtain⟨t,rfl⟩:=rx
  cases y with
  | non=>cases ry;exact PySem.EqNone.ne_int_none (aL I q (by simp))
  | int j=>obtain⟨t',rfl⟩:=ry;exact ne_int (aL I q (congrArg not rg))
  | str j=>obtain⟨t',rfl⟩:=ry;exact PySem.EqMixed.ne_int_str (aL I q (by simp))
  | _=>exact absurd (show false=true from hs) Bool.false_ne_true
 | str i =>
  obtain⟨t,rfl⟩:=rx
  cases y with
  | non=>cases ry;exact PySem.EqNone.ne_str_none (aL I q (by simp))
  | bl j=>cases ry;exact PySem.EqMixed.ne_str_bool (aL I q (by simp))
  | int j=>obtain⟨t',rfl⟩:=ry;exact PySem.EqMixed.ne_str_int (aL I q (by simp))
  | str j=>obtain⟨t',rfl⟩:=ry;exact ne_str (aL I q (congrArg not qQ))
  | _=>exact absurd (show false=true from hs) Bool.false_ne_true
 | byt i =>
  obtain⟨t,rfl⟩:=rx
  cases y with
  | byt j=>obtain⟨t',rfl⟩:=ry;exact PySem.W.ne_bytes (aL I q (congrArg not rH))
  | _=>exact absurd (show false=true from hs) Bool.false_ne_true
 | _=>cases y<;>exact absurd (show false=true from hs) Bool.false_ne_true
theorem GU:cI X (compareOp .Lt) (xJ λi j=> .bl (decide (i < j))):=CI λ_ _ _ _ _ _ _ q=>lt_int q
theorem GG:cI X (compareOp .Gt) (xJ λi j=> .bl (decide (j < i))):=CI λ_ _ _ _ _ _ _ q=>gt_int q
theorem FE:cI X (compareOp .GtE) (xJ λi j=> .bl (decide (j<=i))):=CI λ_ _ _ _ _ _ _ q=>ge_int q
theorem su:cI X (compareOp .In) (λx y H Q=> ∃ i j,x= .str i/\y= .str j/\Q (.bl (!(Builtin.Str.occurrences j i 0 j.length 1).isEmpty)) H):=by
 intro pins s σ H x y v u Q I rx ry h;obtain⟨i,j,rfl,rfl,q⟩:=h;obtain⟨t,rfl⟩:=rx;obtain⟨t',rfl⟩:=ry;exact in_str (aL I q rfl)
theorem cI.or{f:Value->Value->Sem Value}{r r':R2}(h:cI X f r)(h':cI X f r'):cI X f (λx y H Q=>r x y H Q\/r' x y H Q):=by
 intro pins s σ H x y v u Q I rx ry q;rcases q with q | q
 . exact h pins s σ H x y v u Q I rx ry q
 . exact h' pins s σ H x y v u Q I rx ry q
theorem u6(b:Expr){op:CmpOp}(h:op≠ .In:=by decide)(h2:op≠ .NotIn:=by decide):behindInMarks op b=false:=by
 have e1:(op == CmpOp.In)=false:=by cases op<;>first | rfl | exact absurd rfl h
 have e2:(op == CmpOp.NotIn)=false:=by cases op<;>first | rfl | exact absurd rfl h2
 cases b<;>simp[behindInMarks,e1,e2]
theorem y0{op:CmpOp}{r:R2}(ho:cI X (compareOp op) r)(ha:PE X a ta)(hb:PE X b tb)(hm:behindInMarks op b=false):PE X (.Compare a [op] [b] pos) (yQ r ta tb):=by
 intro pins s σ H Q I h;exact wpAny_Compare1 (CD ha hb I h λv u s2 x y H2 I2 rx ry q=>ho pins s2 σ H2 x y v u Q I2 rx ry q) hm
noncomputable def vy(t:TE):TT:=fun σ H Q=>t σ H λx H'=> ∃ k,x= .bl k/\Q k H'
theorem zK{op:CmpOp}{r:R2}(ho:cI X (compareOp op) r)(ha:PE X a ta)(hb:PE X b tb)(hm:behindInMarks op b=false):PT X (.Compare a [op] [b] pos) (vy (yQ r ta tb)):=by
 intro pins s σ H Q I h;refine wpAny_isTrue_Compare1 (cA (ha pins s σ H _ I h) λv s1 ⟨x,H1,I1,r1,q1⟩=>cA (hb pins s1 σ H1 _ I1 q1) λu s2 ⟨y,H2,I2,r2,q2⟩ =>
  cA (ho pins s2 σ H2 x y v u _ I2 r1 r2 q2) λc s3 ⟨z,H3,I3,r3,k,e,q3⟩=>?_) hm
 subst e;cases r3;exact wpAny_truthy_bool ⟨H3,I3,q3⟩
theorem iF:(sizeLine:Nat) < 2 ^ 63:=by rw[sizeLine_eq];decide
theorem vals1{x:V}{us:List Value}(r:Vals [x] us): ∃ u,us=[u]/\RelV x u:=by
 cases r with
 | cons r1 r2=>cases r2;exact⟨_,rfl,r1⟩
theorem vals2{x y:V}{us:List Value}(r:Vals [x,y] us): ∃ u w',us=[u,w']/\RelV x u/\RelV y w':=by
 cases r with
 | cons r1 r2 =>
  cases r2 with
  | cons r3 r4=>cases r4;exact⟨_,_,rfl,r1,r3⟩
theorem tw:aM X (.type "int") (λxs H Q=>(∃ i,xs=[.int i]/\Q (.int i) H)\/ ∃ k,xs=[.bl k]/\Q (.int (if k then 1 else 0)) H):=by
 intro pins s σ H xs us Q I r h;rcases h with⟨i,rfl,q⟩ | ⟨k,rfl,q⟩
 . obtain⟨u,rfl,t,rfl⟩:=vals1 r;exact call_int_int ⟨.int i,H,I,⟨_,rfl⟩,q⟩
 . obtain⟨u,rfl,r1⟩:=vals1 r;cases r1;exact call_int_bool ⟨.int (if k then 1 else 0),H,I.tok _,⟨_,rfl⟩,q⟩
end
structure CK(h:Heap)(x dx C:Addr)(mA:Str->Option Value):Prop where
 obj:h.get? x=some (PySem.W.instObj C dx)
 ns:h.Ns1 dx mA
 ne:dx≠x
theorem sS{h:Heap}{dx:Addr}{mA:Str->Option Value}(n:h.Ns1 dx mA): ∃ od,h.get? dx=some od/\ ∀ name,PySem.W.lookIn name od=some (mA name):=by
 obtain⟨o,es,ep,ho,hd,hk,_,hm⟩:=n;refine⟨o,ho,λname=>?_⟩;have e:=hm name;unfold nsFind findBy at e;rw[<- Array.find?_toList] at e;unfold PySem.W.lookIn;rw[hd];dsimp only;split
 . rename_i y q;rw[q] at e;exact congrArg some e
 . rename_i q;rw[q] at e;have a:es.toList.any (·.refKey)=false:=by
    rw[List.any_eq_false];intro y hy;obtain⟨z,t,hkey⟩:=hk y (Array.mem_toList_iff.mp hy);simp[DictEntry.refKey,hkey]
   have a': ¬ es.toList.any (·.refKey)=true:=by rw[a];exact Bool.false_ne_true
   rw[if_neg a'];exact congrArg some e
theorem CK.look{h:Heap}{x dx C:Addr}{mA:Str->Option Value}(I:CK h x dx C mA): ∃ od,PySem.W.InstAt h x (PySem.W.instObj C dx) C (some od)/\ ∀ name,PySem.W.lookIn name od=some (mA name) :=
 let ⟨od,ho,hl⟩:=sS I.ns
 ⟨od,⟨I.obj,rfl,rfl,ho⟩,hl⟩
theorem je.some_of{v:V}{o:Option Value}(r:je (some v) o): ∃ u,o=some u/\RelV v u:=by
 cases o with
 | none=>exact(show False from r).elim
 | some u=>exact⟨u,rfl,r⟩
section
variable{P:Program}{w:World}{H H':Hp}{h h':Heap}{a C dx:Addr}{fs fs':List (Str × V)}
theorem x6(bc:gv P w H h)(e:H a=some (.ins C dx fs)): ∃ mA,CK h a dx C mA/\(∀ f,je (fs.lookup f) (mA f))/\PySem.Within mA (fs.map (·.1))/\fs.length<=1000/\H dx=some (.own a):=by
 obtain⟨d,z,ne,ob,mA,n,r,q⟩:=(show aP P w H h a (.ins C dx fs) from bc a _ e)
 exact⟨mA,⟨ob,n,ne⟩,r,q,z,d⟩
end
structure Ie(K:PySem.W.Frag)(C:Addr):Prop where
 pg:PySem.W.plainGet K C Str.empty=true
 hd:PySem.W.hasDictIn K C=true
 po:PySem.W.plainOver K C=true
 sa:PySem.W.findIn K (.ref C) "__setattr__" =some (some (.builtin "object.__setattr__"))
theorem Ie.get{K:PySem.W.Frag}{C:Addr}(c:Ie K C)(f:Str):PySem.W.plainGet K C f=true:=c.pg
structure Jo(K:PySem.W.Frag)(C:Addr)(f:Str)(v:V)(u:Value):Prop where
 at_:PySem.W.findIn K (.ref C) f=some (some u)
 rel:RelV v u
 get:PySem.W.specialIn K u "__get__" =some none
 cp:PySem.W.copiedNames.contains f=false
structure Meth(K:PySem.W.Frag)(C:Addr)(m:Str)(f:Addr):Prop where
 at_:PySem.W.findIn K (.ref C) m=some (some (.ref f))
 fn:PySem.W.isFn K (.ref f)=true
 kp:PySem.W.keepIn K (.ref f)=true
section
variable{X:Cx}{pins:List (Addr × Obj)}{σ :St}{H:Hp}{s:Shared}{a C dx:Addr}{fs:List (Str × V)}{f:Str}{v:V}{A:Around}{E:Value->Shared->Prop}
theorem Inv.made(I:Inv X pins σ H s):Inv X pins σ (upd (upd H s.heap.objs.size (.own (s.heap.objs.size+1))) (s.heap.objs.size+1) (.ins C s.heap.objs.size []))
  { s with heap:=(s.heap.push PySem.W.emptyDict).push (PySem.W.instObj C s.heap.objs.size) }:=by
 have e1:(s.heap.push PySem.W.emptyDict).get? s.heap.objs.size=some PySem.W.emptyDict:=Heap.get?_push_size s.heap rfl;have e2:((s.heap.push PySem.W.emptyDict).push (PySem.W.instObj C s.heap.objs.size)).get? (s.heap.objs.size+1)=some (PySem.W.instObj C s.heap.objs.size):=by
  have:=Heap.get?_push_size (s.heap.push PySem.W.emptyDict) (o:=PySem.W.instObj C s.heap.objs.size) rfl
  rwa [Heap.size_push] at this
 have e3:(s.heap.push PySem.W.emptyDict).Ns s.heap.objs.size (λ_=>none):=⟨PySem.W.emptyDict, #[],_,e1,rfl,(λe he=>absurd he (by simp)),λ_=>rfl⟩
 have I1:=I.laid (a:=s.heap.objs.size) (o:= .own (s.heap.objs.size+1)) (h':=s.heap.push PySem.W.emptyDict) (t':=s.toks) (λb u q=>Heap.get?_push_of_some _ q) (Nat.le_refl _) ⟨_,e1⟩;refine I1.laid (a:=s.heap.objs.size+1) (o:= .ins C s.heap.objs.size []) (t':=s.toks) (λb u q=>Heap.get?_push_of_some _ q) (Nat.le_of_eq (Heap.size_push _ _)) ?_;have ne:s.heap.objs.size≠s.heap.objs.size+1:=Nat.ne_of_lt (Nat.lt_succ_self _);refine⟨by rw[ay ne,bh],Nat.zero_le _,ne,e2,λ_=>none,(Heap.Ns1.of_empty e3).at λo q=>Heap.get?_push_of_some _ q,λ_=>True.intro,λy hy=>absurd rfl hy⟩
end
section
variable{X:Cx}{pins:List (Addr × Obj)}{σ :St}{H:Hp}{s:Shared}{A:Around}{E:Value->Shared->Prop}{Q:Value->Shared->Prop}{c:Value}{b:Bool}
inductive gq(K:PySem.W.Frag)(H:Hp):V->Value->Prop where
 | non:gq K H .non (.type "NoneType")
 | bl (x:Bool):gq K H (.bl x) (.type "bool")
 | int (i:Int):gq K H (.int i) (.type "int")
 | str (x:Str):gq K H (.str x) (.type "str")
 | flt (x:UInt64):gq K H (.flt x) (.type "float")
 | lst {a:Addr} {xs:List V} (e:H a=some (.lst xs)):gq K H (.ref a) (.type "list")
 | gC {a:Addr} {o:Obj} {xs:List V} (e:H a=some (.gC o (.lst xs))):gq K H (.ref a) (.type "list")
 | tup {a:Addr} {xs:List V} (e:H a=some (.tup xs)):gq K H (.ref a) (.type "tuple")
 | dK {a:Addr} {kvs:List (Key × V)} (e:H a=some (.dK kvs)):gq K H (.ref a) (.type "dict")
 | dT {a:Addr} {kvs:List (List Key × V)} (e:H a=some (.dT kvs)):gq K H (.ref a) (.type "dict")
 | ins {a C dx:Addr} {fs:List (Str × V)} (e:H a=some (.ins C dx fs)) (cl:Ie K C) (ha:PySem.W.findIn K (.ref C) "__class__" =some (some (.builtin "object.__class__")))
   (hn:PySem.W.specialIn K (.builtin "object.__class__") "__get__" =some (some (.builtin "getset_descriptor.__get__"))) (htk:PySem.W.takesIn K (.builtin "object.__class__")=some true)
   (hm:PySem.W.mroIn K C (.type "object")=some true):gq K H (.ref a) (.ref C)
theorem sd{x:V}{u t:Value}(I:Inv X pins σ H s)(rx:RelV x u)(ty:gq X.K H x t)(e:PySem.W.kitOne X.K t c=some b)(h: ∀ tk,Q (.bool b) { s with toks:=tk }) :
  wpAny (model X.prog X.w) A (call (.builtin "isinstance") [u,c]) Q E s:=by
 cases ty with
 | non=>cases(show u=Value.none from rx);exact PySem.W.kia_one PySem.W.kitx_none I.i6 True.intro e (λz=>nomatch z) h
 | bl y=>cases(show u=Value.bool y from rx);exact PySem.W.kia_one PySem.W.kitx_bool I.i6 True.intro e (λz=>nomatch z) h
 | int i=>obtain⟨t,q⟩:=(show ∃ t,u=Value.int i t from rx);cases q;exact PySem.W.kia_one PySem.W.kitx_int I.i6 True.intro e (λz=>nomatch z) h
 | str y=>obtain⟨t,q⟩:=(show ∃ t,u=Value.str y t from rx);cases q;exact PySem.W.kia_one PySem.W.kitx_str I.i6 True.intro e (λz=>nomatch z) h
 | flt y=>obtain⟨t,q⟩:=(show ∃ t,u=Value.float y t from rx);cases q;exact PySem.W.kia_one PySem.W.kitx_float I.i6 True.intro e (λz=>nomatch z) h
 | @lst a xs ea =>
  cases(show u=Value.ref a from rx)
  obtain⟨_,_,n,_,h1⟩:=(show aP X.prog X.w H s.heap a (.lst xs) from I.bc a _ ea)
  exact PySem.W.kia_one PySem.W.kitx_list I.i6 ⟨_,h1,rfl⟩ e (λz=>nomatch z) h
 | @gC a ob xs ea =>
  cases(show u=Value.ref a from rx)
  obtain⟨_,_,_,n,_,h1⟩:=(show aP X.prog X.w H s.heap a (.gC ob (.lst xs)) from I.bc a _ ea)
  exact PySem.W.kia_one PySem.W.kitx_list I.i6 ⟨_,h1,rfl⟩ e (λz=>nomatch z) h
 | @tup a xs ea =>
  cases(show u=Value.ref a from rx)
  obtain⟨_,_,_,p⟩:=(show aP X.prog X.w H s.heap a (.tup xs) from I.bc a _ ea)
  obtain⟨o,h1,h2,_⟩:=p
  exact PySem.W.kia_one PySem.W.kitx_tuple I.i6 ⟨o,h1,h2⟩ e (λz=>nomatch z) h
 | @dK a kvs ea =>
  cases(show u=Value.ref a from rx)
  obtain⟨_,_,vs,_,p⟩:=(show aP X.prog X.w H s.heap a (.dK kvs) from I.bc a _ ea)
  obtain⟨o,es,ep,h1,h2,_⟩:=p
  exact PySem.W.kia_one PySem.W.kitx_dict I.i6 ⟨o,h1,h2.1⟩ e (λz=>nomatch z) h
 | @dT a kvs ea =>
  cases(show u=Value.ref a from rx)
  obtain⟨_,_,xs,_,o,es,ep,h1,h2,_⟩:=(show aP X.prog X.w H s.heap a (.dT kvs) from I.bc a _ ea)
  exact PySem.W.kia_one PySem.W.kitx_dict I.i6 ⟨o,h1,h2.1⟩ e (λz=>nomatch z) h
 | @ins a C dx fs ea cl ha hn htk hm =>
  cases(show u=Value.ref a from rx)
  obtain⟨mA,O,_⟩:=x6 I.bc ea
  obtain⟨od,J,_⟩:=O.look
  exact PySem.W.kia_one (PySem.W.kitx_own (cl.get _) cl.hd ha hn htk hm) I.i6 J e (λz=>nomatch z) h
end
structure cz(k:Nat)(A:Around):Prop where
 hd:A.handled=none
 dp:A.depth+3*k+5 < recursionLimit
 un:A.units+16*k+200 < cLine
 gd:A.guards=some []
theorem cz.mono{j k:Nat}{A:Around}(r:cz k A)(h:j<=k):cz j A:=⟨r.hd,by have:=r.dp;omega,by have:=r.un;omega,r.gd⟩
theorem cz.deeper{k:Nat}{A:Around}(r:cz (k+1) A)(env:Env):cz k (A.deeper env) :=
 ⟨r.hd,by have:=r.dp;show A.depth+1+3*k+5 < _;omega,by have:=r.un;show A.units+3+16*k+200 < _;omega,r.gd⟩
theorem cz.in1{k:Nat}{A:Around}(r:cz (k+1) A):cz k A.in1 :=
 ⟨r.hd,by have:=r.dp;show A.depth+3*k+5 < _;omega,by have:=r.un;show A.units+1+16*k+200 < _;omega,r.gd⟩
theorem cz.depth{k:Nat}{A:Around}(r:cz k A):A.depth < recursionLimit:=by have:=r.dp;omega
theorem cz.units{k:Nat}{A:Around}(r:cz k A):A.units+64 < cLine:=by have:=r.un;omega
theorem cz.Bn{k:Nat}{A:Around}(r:cz k A):A.units < cLine:=by have:=r.un;omega
noncomputable def Fp:TA:=λ_ H Q=>Q [] H
noncomputable def wx(ta:TE)(tr:TA):TA:=fun σ H Q=>ta σ H λx H1=>tr σ H1 λxs H2=>Q (x::xs) H2
section
variable{X:Cx}{e:Expr}{es:List Expr}{te:TE}{t:TA}{pos:Pos}
theorem CP:PA X [] Fp:=λ_ _ _ _ H Q I h=>Calls.spliced_nil ⟨[],H,I,.nil,h⟩
theorem yP(ha:PE X e te)(hr:PA X es t)(hs:starEach (e::es) X.env=(false,eval e X.env)::starEach es X.env:=by rfl):PA X (e::es) (wx te t):=by
 intro pos pins s σ H Q I h;rw[hs];show wpAny _ _ (spliced ((false,eval e X.env)::backTo pos (starEach es X.env))) _ _ s;refine Calls.spliced_cons (cA (ha pins s σ H _ I h) λu s1 ⟨x,H1,I1,r1,q1⟩=>?_);exact cA (hr pos pins s1 σ H1 _ I1 q1) λus s2 ⟨xs,H2,I2,r2,q2⟩=>⟨x::xs,H2,I2,.cons r1 r2,q2⟩
noncomputable def Gd(t:TA):TE:=fun σ H Q=>t σ H λxs H1=>xs.length<=sizeLine/\ ∀ p,H1 p=none->Q (.ref p) (upd H1 p (.tup xs))
noncomputable def EO(t:TA):TE:=fun σ H Q=>t σ H λxs H1=>xs.length<=sizeLine/\ ∀ p,H1 p=none->Q (.ref p) (upd H1 p (.lst xs))
theorem BS{x1}(h:PA X es t):PE X (.Tuple es x1 pos) (Gd t):=by
 intro pins s σ H Q I hq;refine wpAny_Tuple_spliced (cA (h pos pins s σ H _ I hq) λus s1 ⟨xs,H1,I1,r,z,q⟩=>⟨by rw[<- r.length];exact z,?_⟩);have hf:H1 s1.heap.objs.size=none:=I1.bc.fresh (Nat.le_refl _);refine⟨.ref s1.heap.objs.size,upd H1 s1.heap.objs.size (.tup xs),I1.laid (t':=s1.toks) (λb u e=>Heap.get?_push_of_some _ e) (Nat.le_refl _) ?_,rfl,q _ hf⟩;exact⟨z,us,r,⟨_,Heap.get?_push_size _ rfl,rfl,_,rfl,rfl⟩⟩
theorem C5(h:PA X es t):PE X (.List es pos) (EO t):=by
 intro pins s σ H Q I hq;refine wpAny_List_spliced (cA (h pos pins s σ H _ I hq) λus s1 ⟨xs,H1,I1,r,z,q⟩=>⟨by rw[<- r.length];exact z,?_⟩);have hf:H1 s1.heap.objs.size=none:=I1.bc.fresh (Nat.le_refl _);refine⟨.ref s1.heap.objs.size,upd H1 s1.heap.objs.size (.lst xs),I1.laid (t':=s1.toks) (λb u e=>Heap.get?_push_of_some _ e) (Nat.le_refl _) ?_,rfl,q _ hf⟩;exact⟨z,us,0,r,Heap.get?_push_size _ rfl⟩
end
abbrev Sp:=List V->Hp->VK->XK->Prop
abbrev t7:=List Env->Hp->Shared->XK->Value->Shared->Prop
structure p6(P:Program)(w:World)(K:PySem.W.Frag)(mg:Str->Option Value)(base:Heap)(A:Around)(outer:List Env)(s:Shared)(H:Hp):Prop where
 frames:A.frames=some outer
 mod:Mod K mg base
 bs: ∀ b o,base.get? b=some o->s.heap.get? b=some o/\H b=none
 xk:base.objs.size<=s.heap.objs.size
 iV:s.heap.FunFrames base outer
 AZ: ∀ b∈ud outer,H b=none
 bc:gv P w H s.heap
 bare:AllBare s.gens
noncomputable def CE(outer:List Env)(P:Program)(w:World)(H:Hp)(s:Shared)(Q:VK)(u:Value)(s':Shared):Prop :=
 ∃ v H',s'.os=s.os/\AllBare s'.gens/\Un (ud outer) [] H H' s.heap s'.heap/\gv P w H' s'.heap/\RelV v u/\Q v H'
noncomputable def CR(CX:t7)(outer:List Env)(P:Program)(w:World)(H:Hp)(s:Shared)(Q:VK)(E:XK)(r:Result)(s':Shared):Prop :=
 match r with
 | .ok (.ret u)=>CE outer P w H s Q u s'
 | .ok _=>False
 | .error e=>CX outer H s E e s'
structure fE(P:Program)(w:World)(K:PySem.W.Frag)(mg:Str->Option Value)(base:Heap)(CX:t7)(k:Nat)(f:Addr)(fd:FuncData)(ps:List Str)(sp:Sp):Prop where
 len: ∀ vs H Q E,sp vs H Q E->vs.length=ps.length
 run: ∀(A:Around)(outer:List Env)(s:Shared)(H:Hp)(args:Args)(us:List Value)(vs:List V)(Q:VK)(E:XK),cz k A->p6 P w K mg base A outer s H->BindsTo s fd args (ps.zip us)->Vals vs us->sp vs H Q E ->
  codeAny (model P w) A (.call (.ref f) args) (CR CX outer P w H s Q E) s
theorem fE.mono{P:Program}{w:World}{K:PySem.W.Frag}{mg:Str->Option Value}{base:Heap}{CX:t7}{j k:Nat}{f:Addr}{fd:FuncData}{ps:List Str}{sp:Sp}(F:fE P w K mg base CX j f fd ps sp)(h:j<=k) :
  fE P w K mg base CX k f fd ps sp:=⟨F.len,λA outer s H args us vs Q E hr=>F.run A outer s H args us vs Q E (hr.mono h)⟩
theorem fE.imp{P:Program}{w:World}{K:PySem.W.Frag}{mg:Str->Option Value}{base:Heap}{CX:t7}{k:Nat}{f:Addr}{fd:FuncData}{ps:List Str}{sp sp':Sp}(F:fE P w K mg base CX k f fd ps sp)
  (h: ∀ vs H Q E,sp' vs H Q E->sp vs H Q E):fE P w K mg base CX k f fd ps sp' :=
 ⟨λvs H Q E q=>F.len vs H Q E (h _ _ _ _ q),λA outer s H args us vs Q E hr he hb hv hs=>F.run A outer s H args us vs Q E hr he hb hv (h _ _ _ _ hs)⟩
theorem p6.in1{P:Program}{w:World}{K:PySem.W.Frag}{mg:Str->Option Value}{base:Heap}{A:Around}{outer:List Env}{s:Shared}{H:Hp}(e:p6 P w K mg base A outer s H) :
  p6 P w K mg base A.in1 outer s H:=⟨e.frames,e.mod,e.bs,e.xk,e.iV,e.AZ,e.bc,e.bare⟩
section
variable{X:Cx}{pins:List (Addr × Obj)}{σ :St}{H:Hp}{s s':Shared}
theorem Inv.HP(I:Inv X pins σ H s):p6 X.prog X.w X.K X.mg X.base X.A X.stack s H :=
 ⟨I.ok.frames,I.ok.mod,I.bs,Nat.le_trans I.ok.xk I.sz,I.stack,I.qI,I.bc,I.bare⟩
theorem Inv.after{Q:VK}{u:Value}(I:Inv X pins σ H s)(h:CE X.stack X.prog X.w H s Q u s'):EP X pins σ Q u s':=by
 obtain⟨v,H',os,bare,un,bc,r,q⟩:=h;obtain⟨hh,g,d,t,os'⟩:=s';obtain rfl:os'=s.os:=os;exact⟨v,H',I.call (h':=hh) (g':=g) (d':=d) (t':=t) (ch:=[]) un bc bare (λb z=>absurd z (by simp)),r,q⟩
end
noncomputable def rM(sp:Sp)(yX:List V)(E:XK)(t:TA):TE:=fun σ H Q=>t σ H λvs H1=>sp (vs++yX) H1 Q E
noncomputable def Binds(K:PySem.W.Frag)(fd:FuncData)(ps:List Str)(ds:List Value):Prop :=
 ∀(s:Shared)(us:List Value),K.In s.heap->(us++ds).length=ps.length->BindsTo s fd ⟨us,[]⟩ (ps.zip (us++ds))
theorem Binds.all{K:PySem.W.Frag}{fd:FuncData}{ps:List Str}(h: ∀ us:List Value,us.length=ps.length->bindArgs fd ⟨us,[]⟩=pure (ps.zip us)):Binds K fd ps []:=λs us _ hl=>by
 rw[List.append_nil] at hl ⊢;exact .of_eq (h us hl)
noncomputable def Passes(CX:t7)(X:Cx)(E:XK):Prop:= ∀(pins:List (Addr × Obj))(σ :St)(H:Hp)(s:Shared)(e:Value)(s':Shared),Inv X pins σ H s->CX X.stack H s E e s'->X.xe e s'
section
variable{X:Cx}{CX:t7}{k:Nat}{f C:Addr}{fd:FuncData}{ps:List Str}{sp:Sp}{yX:List V}{ds:List Value}{E:XK}{x m:Str}{p pos apos:Pos}{e o:Expr}{es:List Expr}{ta:TE}{t:TA}
theorem DD{pins:List (Addr × Obj)}{σ :St}{H:Hp}{s:Shared}{Q:VK}{us:List Value}{vs:List V}(F:fE X.prog X.w X.K X.mg X.base CX k f fd ps sp)(hr:cz k X.A)(hb:Binds X.K fd ps ds)(hd:Vals yX ds)(hx:Passes CX X E)
  (I:Inv X pins σ H s) (r:Vals vs us) (h:sp (vs++yX) H Q E):wpAny (model X.prog X.w) X.A (call (.ref f) us) (EP X pins σ Q) X.xe s:=by
 have r2:Vals (vs++yX) (us++ds):=r.append hd;have hl:(us++ds).length=ps.length:=by rw[<- r2.length];exact F.len _ _ _ _ h
 refine wpAny_call (codeAny_mono (F.run X.A X.stack s H ⟨us,[]⟩ (us++ds) (vs++yX) Q E hr I.HP (hb s us I.i6 hl) r2 h) λr s' hq=>?_);cases r with
 | error e=>exact hx pins σ H s e s' I hq
 | ok fl =>
  cases fl with
  | ret u=>exact I.after hq
  | next=>exact False.elim hq
  | brk=>exact False.elim hq
  | cont=>exact False.elim hq
theorem Aj(F:fE X.prog X.w X.K X.mg X.base CX k f fd ps sp)(hr:cz k X.A)(hg:Gl X x)(hm:X.mg x=some (.ref f))(hk:PySem.W.keepIn X.K (.ref f)=true)(hb:Binds X.K fd ps ds)(hd:Vals yX ds)(hx:Passes CX X E)
  (ha:PA X (e::es) t) (hdb:(x == ("__debug__" :Str))=false:=by decide) (he:starEach (e::es) X.env=(false,eval e X.env)::starEach es X.env:=by rfl) (hpl:(backTo pos (starEach es X.env)).any (·.1)=false:=by rfl) :
  PE X (.Call (.Name x p) (e::es) [] pos) (rM sp yX E t):=by
 intro pins s σ H Q I h;refine wpAny_Call_Name_kw (qZ I hg hm ?_ hdb);refine PySem.W.callWith_K (h₀ :=X.base) I.ok.mod.HC hk (cA (ha pos pins s σ H _ I h) λus s1 ⟨vs,H1,I1,r,q⟩=>⟨I1.i6,?_⟩) he hpl;exact DD F hr hb hd hx I1 r q
structure Mk(K:PySem.W.Frag)(C f:Addr):Prop where
 makes:PySem.W.makesIn K C=true
 init:PySem.W.findIn K (.ref C) "__init__" =some (some (.ref f))
 fn:PySem.W.isFn K (.ref f)=true
 kp:PySem.W.keepIn K (.ref C)=true
end
section
variable{X:Cx}{CX:t7}{k:Nat}{f C:Addr}{fd:FuncData}{ps ks:List Str}{sp:Sp}{E:XK}{x m:Str}{p pos apos kpos:Pos}{e o:Expr}{es:List Expr}{kws:List Keyword}{te ta:TE}{t tk:TA}{nm:Option Str}
structure HZ(K:PySem.W.Frag)(fd:FuncData)(ps ks:List Str)(g:List Value->List Value->List Value)(gV:List V->List V->List V):Prop where
 to: ∀(s:Shared)(us ws:List Value),K.In s.heap->(g us ws).length=ps.length->BindsTo s fd ⟨us,ks.zip ws⟩ (ps.zip (g us ws))
 rel: ∀{vs:List V}{us:List Value}{zs:List V}{ws:List Value},Vals vs us->Vals zs ws->Vals (gV vs zs) (g us ws)
variable{g:List Value->List Value->List Value}{gV:List V->List V->List V}
end
structure aw(N P:List Str)(sc:Scope):Prop where
 kind:sc.kind= .function
 co:sc.isCoroutine=false
 gen:sc.isGenerator=false
 nd:N.Nodup
 pre:N.take P.length=P
 par: ∀ x∈P,sc.names.lookup x=some .local\/sc.names.lookup x=some .cell
 Cm: ∀ y∈sc.names,y.2≠ .free
theorem lN{kindOf:Str->Option NameKind}{x:Str}: ∀{binds:List (Str × Value)}{m:Str->Option Value},(∀ v,(x,v) ∉ binds)->bindL kindOf binds m x=m x
 | [],_,_=>rfl
 | (n,v)::r,m,h=>by
  unfold bindL;rw[lN λw hw=>h w (List.mem_cons_of_mem _ hw)];split
  . have:x≠n:=by rintro rfl;exact h v List.mem_cons_self
    simp[this]
  . rfl
theorem lE{kindOf:Str->Option NameKind}{x:Str}: ∀{binds:List (Str × Value)}{m:Str->Option Value},(∀ v,(x,v) ∉ binds)->bindC kindOf binds m x=m x
 | [],_,_=>rfl
 | (n,v)::r,m,h=>by
  unfold bindC;rw[lE λw hw=>h w (List.mem_cons_of_mem _ hw)];split
  . rfl
  . have:x≠n:=by rintro rfl;exact h v List.mem_cons_self
    simp[this]
theorem lH{kindOf:Str->Option NameKind}{x:Str}{v:Value}: ∀{P:List Str}{vs:List Value}{i:Nat}{m:Str->Option Value},P.Nodup->P[i]?=some x->vs[i]?=some v->kindOf x=some .local ->
  bindL kindOf (P.zip vs) m x=some v
 | [],_,_,_,_,h,_,_=>by simp at h
 | _::_,[],_,_,_,_,h,_=>by simp at h
 | p::P,w::vs,0,m,nd,h1,h2,hk=>by
  simp at h1 h2;subst h1;subst h2;show bindL kindOf ((p,w)::P.zip vs) m p=_;unfold bindL;rw[lN λv hv=>(List.nodup_cons.mp nd).1 (List.of_mem_zip hv).1,if_pos hk];simp
 | p::P,w::vs,i+1,m,nd,h1,h2,hk=>by
  show bindL kindOf ((p,w)::P.zip vs) m x=_;unfold bindL;exact lH (i:=i) (List.nodup_cons.mp nd).2 (by simpa using h1) (by simpa using h2) hk
theorem lG{kindOf:Str->Option NameKind}{x:Str}{v:Value}: ∀{P:List Str}{vs:List Value}{i:Nat}{m:Str->Option Value},P.Nodup->P[i]?=some x->vs[i]?=some v->kindOf x≠some .local ->
  bindC kindOf (P.zip vs) m x=some v
 | [],_,_,_,_,h,_,_=>by simp at h
 | _::_,[],_,_,_,_,h,_=>by simp at h
 | p::P,w::vs,0,m,nd,h1,h2,hk=>by
  simp at h1 h2;subst h1;subst h2;show bindC kindOf ((p,w)::P.zip vs) m p=_;unfold bindC;rw[lE λv hv=>(List.nodup_cons.mp nd).1 (List.of_mem_zip hv).1,if_neg hk];simp
 | p::P,w::vs,i+1,m,nd,h1,h2,hk=>by
  show bindC kindOf ((p,w)::P.zip vs) m x=_;unfold bindC;exact lG (i:=i) (List.nodup_cons.mp nd).2 (by simpa using h1) (by simpa using h2) hk
noncomputable def start(N:List Str)(vs:List V):St:=vs.map some++List.replicate (N.length - vs.length) none
noncomputable def gE(CX:t7)(P:Program)(w:World)(K:PySem.W.Frag)(mg:Str->Option Value)(base:Heap)(N:List Str)(qual:Str)(scope:Scope)(f:Addr)(cd:Value)(A:Around)(outer:List Env)(s:Shared)(H:Hp)(E:XK):Cx where
 prog:=P
 w:=w
 K:=K
 mg:=mg
 base:=base
 A:=A.deeper (envOfC qual scope s.heap.objs.size f cd)
 N:=N
 s₀ :=s
 H₀ :=H
 env:=envOfC qual scope s.heap.objs.size f cd
 outer:=outer
 stack:=envOfC qual scope s.heap.objs.size f cd::outer
 ex:=[]
 calm:=true
 fn:=λ_=>true
 pn:=[]
 xe:=λe s'=>wpAny (model P w) (A.deeper (envOfC qual scope s.heap.objs.size f cd)) (leaving (envOfC qual scope s.heap.objs.size f cd) e) (λ_ s''=>CX outer H s E e s'') (λe' s''=>CX outer H s E e' s'') s'
theorem o7{sc:Scope}{n:Nat}{x:Str}(h:sc.names.lookup x=some .cell): ∃ c,(cellsFrom n sc.names []).lookup x=some c:=by
 have q:=PySem.W.cellsFrom_some sc.names n [] (.inl h);exact Option.isSome_iff_exists.mp q
theorem tQ{CX:t7}{P:Program}{w:World}{K:PySem.W.Frag}{mg:Str->Option Value}{base:Heap}{N ps:List Str}{qual:Str}{scope:Scope}{f:Addr}{cd:Value}{A:Around}{outer:List Env}{s s1:Shared}{H:Hp}{E:XK}{us:List Value}{vs:List V}
  (S:aw N ps scope) (hd:A.handled=none) (e0:p6 P w K mg base A outer s H) (hl:vs.length=ps.length) (r:Vals vs us)
  (x:InCallC s s.heap.objs.size (bindL (envOfC qual scope s.heap.objs.size f cd).kindOf (ps.zip us) λ_=>none) (cellsFrom (s.heap.objs.size+1) scope.names []) (bindC (envOfC qual scope s.heap.objs.size f cd).kindOf (ps.zip us) λ_=>none) s1) :
  Inv (gE CX P w K mg base N qual scope f cd A outer s H E) [] (start N vs) H s1:=by
 have hpl:ps.length<=N.length:=by have:=congrArg List.length S.pre;rw[List.length_take] at this;omega
 obtain⟨h1,tk,rfl,hk⟩:=x.done;have noA: ∀ b:Addr,b ∉ (gE CX P w K mg base N qual scope f cd A outer s H E).ex:=λb z=>absurd (show b∈([]:List Addr) from z) (by simp);refine⟨⟨e0.mod,S.kind,rfl,rfl,Nat.le_refl _,λy z c h1 h2=>?_,λy hy=>?_,λy c _ h=>?_,λ_=>hd,Around.frames_deeper e0.frames,.inr ⟨rfl,rfl⟩,λb z=>absurd z (noA b),e0.bs,e0.xk,λb _ _=>noA b,λb z=>absurd z (noA b),e0.iV,e0.AZ⟩,
  rfl,e0.bare,Un.kept hk,⟨_,x.toInCall.ns,λi y v h1 h2 h3=>?_⟩,λy c h=>⟨_,x.cell y c h⟩,e0.bc.fresh (Nat.le_refl _),λy c h=>?_,λp hp=>absurd (show p∈([]:List (Addr × Obj)) from hp) (by simp),e0.bc.kept hk,?_⟩
 . exact name_of_addr x.apart (PySem.mem_of_lookup h1) (PySem.mem_of_lookup h2)
 . have hy:scope.names.lookup y=some .cell\/scope.names.lookup y=some .free:=hy;rcases hy with hy | hy
   . exact o7 hy
   . exact absurd rfl (S.Cm _ (PySem.mem_of_lookup hy))
 . exact Nat.le_of_lt (x.above y c (PySem.mem_of_lookup h))
 . have hi:i < vs.length:=by
    unfold start at h2;by_cases hi:i < vs.length
    . exact hi
    . rw[List.getElem?_append_right (by simpa using hi)] at h2;rw[List.getElem?_replicate] at h2;split at h2<;>cases h2
   have ha:vs[i]?=some v:=by
    unfold start at h2;rw[List.getElem?_append_left (by simpa using hi),List.getElem?_map] at h2;cases e:vs[i]? with
    | none=>rw[e] at h2;cases h2
    | some a=>rw[e] at h2;cases h2;rfl
   obtain⟨u,hu,rv⟩:=r.get ha;have hp:ps[i]?=some y:=by
    rw[<- S.pre,List.getElem?_take_of_lt (by omega)];exact h1
   have ndP:ps.Nodup:=by rw[<- S.pre];exact S.nd.sublist (List.take_sublist _ _)
   refine⟨u,rv,?_⟩;rcases S.par y (List.mem_of_getElem? hp) with k | k
   . exact .inl ⟨k,lH ndP hp hu k⟩
   . obtain⟨c,e⟩:=o7 (n:=s.heap.objs.size+1) k;refine .inr ⟨.inl k,c,e,?_⟩;have q:=x.cell y c e;rw[lG ndP hp hu (by show scope.names.lookup y≠_;rw[k];decide)] at q;exact q
 . exact e0.bc.fresh (Nat.le_of_lt (x.above y c (PySem.mem_of_lookup h)))
 . unfold start;show _=N.length;rw[List.length_append,List.length_map,List.length_replicate];omega
theorem Gs{CX:t7}{P:Program}{w:World}{K:PySem.W.Frag}{mg:Str->Option Value}{base:Heap}{k:Nat}{f:Addr}{name qual:Str}{params:Arguments}{body:List Stmt}{scope:Scope}{dV kV doc pm cdv ct oc:Value}{an od:Option Addr}
  {osl:Array (Option Value)} {N ps:List Str} {sp:Sp} (lk:K.lookup f=some ⟨oc,od,.func (PySem.W.fnOf name qual params body scope dV kV doc pm an cdv ct),osl⟩) (hcd:PySem.W.codeIn K cdv qual=true) (S:aw N ps scope)
  (len: ∀ vs H Q E,sp vs H Q E->vs.length=ps.length)
  (hbody: ∀(A:Around)(outer:List Env)(s:Shared)(H:Hp)(vs:List V)(Q:VK)(E:XK),cz k (A.deeper (envOfC qual scope s.heap.objs.size f cdv))->sp vs H Q E ->
   ∃ t,p7 (gE CX P w K mg base N qual scope f cdv A outer s H E) body t/\t { nx:=λ_ H'=>Q .non H',rt:=Q } (start N vs) H) :
  fE P w K mg base CX (k+1) f (PySem.W.fnOf name qual params body scope dV kV doc pm an cdv ct) ps sp:=by
 refine⟨len,λA outer s H args us vs Q E hr e0 hb r hsp=>?_⟩;have hl:=len _ _ _ _ hsp;have KX:K.In s.heap:=e0.mod.HC.keeps λb o e=>(e0.bs b o e).1;have lim:s.heap.NoLimit:=e0.mod.nolimit.keeps λb o e=>(e0.bs b o e).1;have hkind: ∀ y∈ps.zip us,scope.names.lookup y.1=some .local\/(scope.names.lookup y.1=some .cell/\((cellsFrom (s.heap.objs.size+1) scope.names []).lookup y.1).isSome=true):=λ⟨n,v⟩ hy=>by
  rcases S.par n (List.of_mem_zip hy).1 with q | q
  . exact .inl q
  . exact .inr ⟨q,PySem.W.cellsFrom_some _ _ _ (.inl q)⟩
 refine codeAny_call_function hr.depth (KX _ _ lk) rfl S.co S.gen rfl (PySem.W.codeRec_of KX hcd) (hb _ _ _ _ ?_);refine wpAny_newFunctionEnv_cells S.kind hkind λenv he s1 x=>?_;subst he;refine⟨lim.keeps x.toInCall.keep,codeAny_func ?_⟩;obtain⟨t,ht,hq⟩:=hbody A outer s H vs Q E (hr.deeper _) hsp;have I:Inv (gE CX P w K mg base N qual scope f cdv A outer s H E) [] (start N vs) H s1:=tQ S hr.hd e0 hl r x;refine wpAny_mono (ht [] s1 (start N vs) H _ I hq) (λfl s' hs=>?_) λe s' hs=>hs;have fin: ∀{σ':St}{H':Hp}{v:V}{u:Value},Inv (gE CX P w K mg base N qual scope f cdv A outer s H E) [] σ' H' s'->RelV v u->Q v H'->CE outer P w H s Q u s' :=
  λ{σ' H' v u} J rv q=>⟨v,H',J.os,J.bare,J.base,J.bc,rv,q⟩
 cases fl with
 | ret u =>
  obtain ⟨v, σ',H',J,rv,q⟩:=hs
  exact fin J rv q
 | next =>
  obtain ⟨σ',H',J,q⟩:=hs
  exact fin (v:=V.non) (u:=Value.none) J rfl q
 | brk =>
  obtain⟨_,_,_,q⟩:=hs
  exact False.elim q
 | cont =>
  obtain⟨_,_,_,q⟩:=hs
  exact False.elim q
section
variable{X:Cx}{x:Str}{p pos:Pos}{e:Expr}{es:List Expr}{t:TA}{id T:String}{r:List V->Hp->VK->Prop}
noncomputable def Dl(r:List V->Hp->VK->Prop)(t:TA):TE:=fun σ H Q=>t σ H λvs H1=>r vs H1 Q
theorem vN(hc:aM X (.builtin id) r)(hg:Gl X x)(hm:X.mg x=none)(hv:bootBuiltins x=some (.builtin id))(ha:PA X (e::es) t)(hn:x≠ "__name__" :=by decide)(hdb:(x == ("__debug__" :Str))=false:=by decide)
  (he:starEach (e::es) X.env=(false,eval e X.env)::starEach es X.env:=by rfl) (hpl:(backTo pos (starEach es X.env)).any (·.1)=false:=by rfl):PE X (.Call (.Name x p) (e::es) [] pos) (Dl r t):=by
 intro pins s σ H Q I h;refine wpAny_Call_Name_kw (iO I hg hm hv ?_ hn hdb);exact PyProof.Rows.callWith_builtin1 (cA (ha pos pins s σ H _ I h) λus s1 ⟨vs,H1,I1,r1,q1⟩=>hc pins s1 σ H1 vs us Q I1 r1 q1) he hpl
theorem rV(hc:aM X (.type T) r)(hg:Gl X x)(hm:X.mg x=none)(hv:bootBuiltins x=some (.type T))(ha:PA X (e::es) t)(hn:x≠ "__name__" :=by decide)(hdb:(x == ("__debug__" :Str))=false:=by decide)
  (he:starEach (e::es) X.env=(false,eval e X.env)::starEach es X.env:=by rfl) (hpl:(backTo pos (starEach es X.env)).any (·.1)=false:=by rfl):PE X (.Call (.Name x p) (e::es) [] pos) (Dl r t):=by
 intro pins s σ H Q I h;refine wpAny_Call_Name_kw (iO I hg hm hv ?_ hn hdb);exact PyProof.Rows.callWith_type1 (cA (ha pos pins s σ H _ I h) λus s1 ⟨vs,H1,I1,r1,q1⟩=>hc pins s1 σ H1 vs us Q I1 r1 q1) he hpl
end
end L2
namespace HT
open PySem PyProof.Rows
section
variable{prog:Program}{w:World}{A:Around}{E:Value->Shared->Prop}{s:Shared}
theorem y6{t b:Addr}{vs ws:List Value}{Q:Value->Shared->Prop}(ht:IsTup s.heap t vs.toArray)(hb:IsTup s.heap b ws.toArray)(hv:vs≠[])
  (h1:ws=[]->Q (.ref t) s) (h2:ws≠[]->Q (.ref s.heap.objs.size) { s with heap:=s.heap.push { cls:= .type "tuple",data:= .seq (vs++ws).toArray } })
  (hsz:vs.length+ws.length<=sizeLine):wpAny (model prog w) A (binaryOp .Add (.ref t) (.ref b)) Q E s:=by
 obtain⟨⟨cls,dd,data,sl⟩,ho,hc,n,hd⟩:=id ht;obtain⟨⟨cls2,dd2,data2,sl2⟩,ho2,hc2,n2,hd2⟩:=id hb;simp only at hc hd hc2 hd2;subst hc hd hc2 hd2;have e:vs.toArray++ws.toArray=(vs++ws).toArray:=by simp
 by_cases hw:ws=[]
 . exact concat_meets ⟨_,ho,rfl⟩ ⟨_,ho2,rfl⟩ noFill_tuple_add seq_tuple_add PySem.F.slot_tuple_add PySem.F.entry_tuple_add (PySem.F.args_tuple_add_2 _ _)
    (tuple_addW1 t b vs.toArray ws.toArray n n2 dd dd2 sl sl2 (by simpa using hv) (by simp[hw])) ⟨ho,ho2,h1 hw⟩
 . refine concat_meets ⟨_,ho,rfl⟩ ⟨_,ho2,rfl⟩ noFill_tuple_add seq_tuple_add PySem.F.slot_tuple_add PySem.F.entry_tuple_add (PySem.F.args_tuple_add_2 _ _)
    (tuple_addW2 t b vs.toArray ws.toArray n n2 dd dd2 sl sl2 (by simpa using hv) (by simpa using hw) (by rw[List.size_toArray,List.size_toArray];exact hsz)) ⟨ho,ho2,?_⟩
   rw[e];exact h2 hw
noncomputable def bU(n d:Nat):Option Int->Nat
 | none=>d
 | some v=>if v < 0 then(v+(n:Int)).toNat else min v.toNat n
theorem gO(n d:Nat):bU n d none=d:=rfl
theorem jJ(n d k:Nat):bU n d (some (k:Int))=min k n:=by
 show(if (k:Int) < 0 then((k:Int)+(n:Int)).toNat else min (k:Int).toNat n)=min k n;rw[if_neg (by omega),Int.toNat_natCast]
theorem DZ(n d:Nat)(hd:d<=n)(o:Option Int):bU n d o<=n:=by
 cases o with
 | none=>exact hd
 | some v =>
  show(if v < 0 then(v+(n:Int)).toNat else min v.toNat n)<=n
  by_cases hv:v < 0
  . rw[if_pos hv];omega
  . rw[if_neg hv];exact Nat.min_le_right _ _
theorem rF(v:Int)(n d:Nat):(if v < 0 then max (v+(n:Int)) 0 else min v (n:Int))=((bU n d (some v):Nat):Int):=by
 show(if v < 0 then max (v+(n:Int)) 0 else min v (n:Int))=(((if v < 0 then(v+(n:Int)).toNat else min v.toNat n):Nat):Int)
 by_cases hv:v < 0
 . simp only[if_pos hv];omega
 . simp only[if_neg hv];omega
theorem pR(lo hi:Option Int)(n:Nat):Builtin.Slice.sliceAdjust lo hi 1 (n:Int)=(((bU n 0 lo:Nat):Int),((bU n n hi:Nat):Int)):=by
 have h1: ¬ ((1:Int) < 0):=by omega
 unfold Builtin.Slice.sliceAdjust;simp only[h1,if_false];refine Prod.ext ?_ ?_
 . cases lo with
   | none=>rfl
   | some v=>exact rF v n 0
 . cases hi with
   | none=>rfl
   | some v=>exact rF v n n
theorem pX(i j:Nat):Builtin.Slice.slicePlaces (i:Int) (j:Int) 1=j - i:=by
 unfold Builtin.Slice.slicePlaces;have h1:(1:Int) > 0:=by omega
 simp only[h1,if_true,Int.ediv_one];split<;>omega
theorem kg{v:Value}{o:Option Int}{Q:Option Int->Shared->Prop}(p:IsPart v o)(h:Q o s):wpAny (model prog w) A (Builtin.Slice.slicePartIndex v) Q E s:=by
 cases p with
 | none=>exact slicePart_none h
 | int i t=>exact slicePart_int h
theorem eP{sl:Addr}{vl vu:Value}{lo hi:Option Int}{n:Nat}{Q:Int × Int × Nat->Shared->Prop}(hs:s.heap.IsSliceOf sl vl vu .none)(pl:IsPart vl lo)(pu:IsPart vu hi)
  (h:Q (((bU n 0 lo:Nat):Int),1,bU n n hi - bU n 0 lo) s):wpAny (model prog w) A (Builtin.Slice.sliceApplied (.ref sl) (pure (n:Int))) Q E s:=by
 obtain⟨os,hos,hcs,hds⟩:=id hs;unfold Builtin.Slice.sliceApplied Builtin.Slice.sliceFields;refine wpAny_bind (wpAny_bind (wpAny_field hos hds (x:=vl) rfl (wpAny_bind (wpAny_field hos hds (x:=vu) rfl (wpAny_bind (wpAny_field hos hds (x:= .none) rfl (wpAny_pure ?_)))))));refine wpAny_bind (slicePart_none ?_);show wpAny _ _ (if ((1:Int) == 0)=true then _ else _) _ _ s;rw[if_neg (by decide)];refine wpAny_bind (kg pl (wpAny_bind (kg pu (wpAny_bind (wpAny_pure ?_)))));show wpAny _ _ (match Builtin.Slice.sliceAdjust lo hi 1 (n:Int) with | (lo,hi)=>pure (lo,(1:Int),Builtin.Slice.slicePlaces lo hi 1)) _ _ s;rw[pR lo hi n];show wpAny _ _ (pure (((bU n 0 lo:Nat):Int),(1:Int),Builtin.Slice.slicePlaces ((bU n 0 lo:Nat):Int) ((bU n n hi:Nat):Int) 1)) _ _ s;rw[pX];exact wpAny_pure h
theorem wt(xs:Array Value)(i k:Nat):((List.range k).filterMap λ(m:Nat)=>xs[((i:Int)+(m:Int)*1).toNat]?).toArray=((xs.toList.drop i).take k).toArray:=by
 have e:(λ(m:Nat)=>xs[((i:Int)+(m:Int)*1).toNat]?)=λm=>xs[i+m]?:=by
  funext m
  have:((i:Int)+(m:Int)*1).toNat=i+m:=by omega
  rw[this]
 rw[e];have:=pick_run xs i k;rw[List.filterMap_map] at this;have e2:((λx=>xs[x]?) ∘ λx=>i+x)=λm=>xs[i+m]?:=rfl;rw[e2] at this;rw [this]
theorem ib {t sl : Addr} {items : Array Value} {vl vu : Value} {lo hi : Option Int} {Q : Value -> Shared -> Prop} (ht : IsTup s.heap t items) (hs : s.heap.IsSliceOf sl vl vu .none) (pl : IsPart vl lo) (pu : IsPart vu hi)
    (hw : ¬ (bU items.size 0 lo = 0 /\ bU items.size items.size hi = items.size))
    (h : Q (.ref s.heap.objs.size) { s with heap := s.heap.push { cls := .type "tuple", data := .seq ((items.toList.drop (bU items.size 0 lo)).take (bU items.size items.size hi - bU items.size 0 lo)).toArray } })
    (hsz : items.size <= sizeLine) : wpAny (model prog w) A (getItem (.ref t) (.ref sl)) Q E s := by
  have htake : sizeOk (.seq ((items.toList.drop (bU items.size 0 lo)).take (bU items.size items.size hi - bU items.size 0 lo)).toArray) := by
    show ((items.toList.drop (bU items.size 0 lo)).take (bU items.size items.size hi - bU items.size 0 lo)).toArray.size <= sizeLine;rw [List.size_toArray, List.length_take, List.length_drop, Array.length_toList];omega
  have hj : bU items.size items.size hi <= items.size := DZ _ _ (Nat.le_refl _) hi;obtain ⟨os, hos, hcs, hds⟩ := id hs;have hTs : s.TypeIs (.ref sl) "slice" := ⟨os, hos, hcs⟩
  unfold getItem
  try with_reducible refine wpAny_holding ?_
  first | refine wpAny_bind (wpAny_pure ?_) | skip
  refine wpAny_bind (wpAny_sequenceKey ht.typeIs (by decide) ?_);refine wpAny_bind (wpAny_callSpecial?_slot (name := Str.ofString "__getitem__") ht.typeIs PyProof.Rows.slot_tuple_getitem
    (wpAny_call_entry PyProof.Rows.slot_tuple_getitem ht.typeIs entry_tuple_getitem ?_ (args_tuple_getitem _ _)))
  show wpAny _ _ (Builtin.Tuple.tupleItemsOf (.ref t) >>= _) _ _ s;refine wpAny_bind (tupleItemsOf_ ht ?_);refine wpAny_bind (wpAny_typeOf hTs ?_);rw [if_pos (by decide)];refine wpAny_bind (eP hs pl pu ?_);have hno : ¬ ((((bU items.size 0 lo : Nat) : Int) == 0 && (1 : Int) == 1 && (bU items.size items.size hi - bU items.size 0 lo) == items.size) = true) := by
    intro q;rw [Bool.and_eq_true, Bool.and_eq_true] at q;have q1 : ((bU items.size 0 lo : Nat) : Int) = 0 := eq_of_beq q.1.1;have q2 : bU items.size items.size hi - bU items.size 0 lo = items.size := eq_of_beq q.2;exact hw ⟨by omega, by omega⟩
  show wpAny _ _ (if (((bU items.size 0 lo : Nat) : Int) == 0 && (1 : Int) == 1 && (bU items.size items.size hi - bU items.size 0 lo) == items.size) = true then _ else _) _ _ s;rw [if_neg hno, wt]
  first
    | exact wpAny_bind (m := Builtin.Tuple.tupleExact _) (wpAny_newObj_type (wpAny_pure ⟨_, rfl, wpAny_pure h⟩) htake)
    | exact wpAny_bind (m := Builtin.Tuple.tupleExact _) (wpAny_newObj_type (wpAny_bind (wpAny_pure (wpAny_pure ⟨_, rfl, wpAny_pure h⟩))) htake)
    | exact wpAny_bind (wpAny_bind (m := Builtin.Tuple.tupleExact _) (wpAny_newObj_type (wpAny_pure (wpAny_pure ⟨_, rfl, wpAny_pure h⟩)) htake))
    | exact wpAny_bind (wpAny_bind (m := Builtin.Tuple.tupleExact _) (wpAny_newObj_type (wpAny_pure ⟨_, rfl, wpAny_pure h⟩) htake))
end
end HT
namespace L2
open PySem PySem.Spec PyProof.Rows
abbrev TO:=St->Hp->(Option Int->Hp->Prop)->Prop
noncomputable def PO(X:Cx)(e:Option Expr)(t:TO):Prop :=
 ∀(pins:List (Addr × Obj))(s:Shared)(σ :St)(H:Hp)(Q:Option Int->Hp->Prop),Inv X pins σ H s->t σ H Q ->
  wpAny (model X.prog X.w) X.A (evalPart e X.env) (λu s'=> ∃ o H',Inv X pins σ H' s'/\IsPart u o/\Q o H') X.xe s
noncomputable def q9:TO:=λ_ H Q=>Q none H
noncomputable def AQ(t:TE):TO:=fun σ H Q=>t σ H λx H1=> ∃ i,x= .int i/\Q (some i) H1
section
variable{X:Cx}{e:Expr}{te:TE}{lo hi:Option Expr}{tl th:TO}{pos p2:Pos}
theorem ya:PO X none q9:=by
 intro pins s σ H Q I h;rw[evalPart_none];exact wpAny_pure ⟨none,H,I,.none,h⟩
theorem zX(h:PE X e te):PO X (some e) (AQ te):=by
 intro pins s σ H Q I hw;rw[evalPart_some];refine cA (h pins s σ H _ I hw) λu s1 ⟨x,H1,I1,r1,q1⟩=>?_;obtain⟨i,rfl,q⟩:=q1;obtain⟨t,rfl⟩:=r1;exact⟨some i,H1,I1,.int i t,q⟩
noncomputable def xj(X:Cx)(r:V->Option Int->Option Int->Hp->VK->Prop):Prop :=
 ∀(pins:List (Addr × Obj))(s:Shared)(σ :St)(H:Hp)(x:V)(v vl vu:Value)(lo hi:Option Int)(sl:Addr)(Q:VK),Inv X pins σ H s->RelV x v->s.heap.IsSliceOf sl vl vu .none->IsPart vl lo->IsPart vu hi->r x lo hi H Q ->
  ∃ T id,typeLookup (.type T) "__getitem__" =pure (some (.builtin id))/\s.TypeIs v T/\wpAny (model X.prog X.w) X.A (getItem v (.ref sl)) (EP X pins σ Q) X.xe s
theorem xj.or{r r':V->Option Int->Option Int->Hp->VK->Prop}(h:xj X r)(h':xj X r'):xj X (λx lo hi H Q=>r x lo hi H Q\/r' x lo hi H Q):=by
 intro pins s σ H x v vl vu lo hi sl Q I rx hs pl pu q;rcases q with q | q
 . exact h pins s σ H x v vl vu lo hi sl Q I rx hs pl pu q
 . exact h' pins s σ H x v vl vu lo hi sl Q I rx hs pl pu q
noncomputable def IG(r:V->Option Int->Option Int->Hp->VK->Prop)(te:TE)(tl th:TO):TE:=fun σ H Q=>te σ H λx H1=>tl σ H1 λl H2=>th σ H2 λu H3=>r x l u H3 Q
theorem wj{r:V->Option Int->Option Int->Hp->VK->Prop}(hr:xj X r)(he:PE X e te)(hl:PO X lo tl)(hu:PO X hi th):PE X (.Subscript e (.Slice lo hi none p2) pos) (IG r te tl th):=by
 intro pins s σ H Q I h;refine Subscript_ (cA (he pins s σ H _ I h) λv s1 ⟨x,H1,I1,r1,q1⟩=>?_);refine wpAny_Slice (cA (hl pins s1 σ H1 _ I1 q1) λvl s2 ⟨l,H2,I2,pl,q2⟩=>cA (hu pins s2 σ H2 _ I2 q2) λvu s3 ⟨u,H3,I3,pu,q3⟩=>?_);rw[evalPart_none];refine wpAny_pure ?_;have I4:Inv X pins σ H3 { s3 with heap:=s3.heap.push { cls:= .type "slice",data:= .fields #[vl,vu,.none] } }:=I3.kept (t':=s3.toks) λb ob q=>Heap.get?_push_of_some _ q;obtain⟨T,id,hT,ht,hg⟩:=hr pins { s3 with heap:=s3.heap.push { cls:= .type "slice",data:= .fields #[vl,vu,.none] } } σ H3 x v vl vu l u s3.heap.objs.size Q I4 r1 (Heap.IsSliceOf.new ..) pl pu q3;show wpAny (model X.prog X.w) X.A (subscriptTail e (.Slice lo hi none p2) v (.ref s3.heap.objs.size)) (EP X pins σ Q) X.xe { s3 with heap:=s3.heap.push { cls:= .type "slice",data:= .fields #[vl,vu,.none] } };exact tail_any (ops:=[.ref s3.heap.objs.size,v]) ht hT hg (by with_unfolding_all rfl)
noncomputable def jC(xs:List V)(lo hi:Option Int):List V:=(xs.drop (HT.bU xs.length 0 lo)).take (HT.bU xs.length xs.length hi - HT.bU xs.length 0 lo)
theorem jy(xs:List V)(lo hi:Option Int):(jC xs lo hi).length<=xs.length:=by
 unfold jC;rw[List.length_take,List.length_drop];omega
noncomputable def F7(K:PySem.W.Frag):V->Option Int->Option Int->Hp->VK->Prop:=λx lo hi H Q=> ∃ a xs,x= .ref a/\fk K H a xs /\
 ¬ (HT.bU xs.length 0 lo=0/\HT.bU xs.length xs.length hi=xs.length)/\ ∀ p,H p=none->Q (.ref p) (upd H p (.tup (jC xs lo hi)))
theorem Cb:xj X (F7 X.K):=by
 intro pins s σ H x v vl vu lo hi sl Q I rx hs pl pu h;obtain⟨a,xs,rfl,hx,hw,q⟩:=h;cases rx;obtain⟨ak,r,ht,hz⟩:=I.tuple hx;have hlen:ak.toArray.size=xs.length:=by rw[List.size_toArray];exact r.length.symm
 refine⟨"tuple",_,PyProof.Rows.slot_tuple_getitem.lookup,ht.typeIs,?_⟩;refine HT.ib ht hs pl pu (by rw[hlen];exact hw) ?_ (by rw[hlen];exact hz);rw[hlen];refine⟨.ref s.heap.objs.size,_,I.laid (t':=s.toks) (o:= .tup (jC xs lo hi)) (λb ob q=>Heap.get?_push_of_some _ q) (Nat.le_refl _) ?_,rfl,q _ (I.bc.fresh (Nat.le_refl _))⟩;exact⟨Nat.le_trans (jy xs lo hi) hz,_,(r.drop (HT.bU xs.length 0 lo)).take (HT.bU xs.length xs.length hi - HT.bU xs.length 0 lo),lb.new _ _⟩
noncomputable def Aw(K:PySem.W.Frag):R2:=λx y H Q=> ∃ a b xs ys,x= .ref a/\y= .ref b/\fk K H a xs/\fk K H b ys/\xs≠[]/\xs.length+ys.length<=sizeLine /\
 (ys=[]->Q (.ref a) H)/\(ys≠[]-> ∀ p,H p=none->Q (.ref p) (upd H p (.tup (xs++ys))))
theorem Vals.jM{xs:List V}{us:List Value}(r:Vals xs us):us=[]↔xs=[]:=by
 cases r with
 | nil=>simp
 | cons _ _=>simp
theorem yC:cI X (binaryOp .Add) (Aw X.K):=by
 intro pins s σ H x y v u Q I rx ry h;obtain⟨a,b,xs,ys,rfl,rfl,ha,hb,hx,hz,q1,q2⟩:=h;cases rx;cases ry;obtain⟨ak,r1,p1,_⟩:=I.tuple ha;obtain⟨its2,r2,p2,_⟩:=I.tuple hb;refine HT.y6 p1 p2 (λz=>hx (r1.jM.mp z)) (λz=>⟨.ref a,H,I,rfl,q1 (r2.jM.mp z)⟩) (λz=>?_) (by rw[<- r1.length,<- r2.length];exact hz);refine⟨.ref s.heap.objs.size,_,I.laid (t':=s.toks) (o:= .tup (xs++ys)) (λb ob q=>Heap.get?_push_of_some _ q) (Nat.le_refl _) ?_,rfl,q2 (λw=>z (r2.jM.mpr w)) _ (I.bc.fresh (Nat.le_refl _))⟩;exact⟨by rw[List.length_append];exact hz,_,r1.append r2,lb.new _ _⟩
end
noncomputable def lD(n:Nat)(i:Int):Option Nat:=if 0<=i then(if i < n then some i.toNat else none) else if -(n:Int)<=i then some (i+n).toNat else none
noncomputable def cZ{α :Type}(xs:List α)(i:Int):Option α :=(lD xs.length i).bind λj=>xs[j]?
theorem rO{n:Nat}{i:Int}{j:Nat}(h:lD n i=some j):seqIndex? i n=some j/\j < n/\ -(n:Int)<=i/\i < n:=by
 unfold lD at h;by_cases h0:0<=i
 . rw[if_pos h0] at h;by_cases h1:i < n
   . rw[if_pos h1] at h;have e:i.toNat=j:=Option.some.inj h;exact⟨by rw[seqIndex_of h0 h1,e],by omega,by omega,h1⟩
   . rw[if_neg h1] at h;cases h
 . rw[if_neg h0] at h;by_cases h1: -(n:Int)<=i
   . rw[if_pos h1] at h;have e:(i+n).toNat=j:=Option.some.inj h;exact⟨by rw[seqIndex_neg (by omega) h1,e],by omega,h1,by omega⟩
   . rw[if_neg h1] at h;cases h
theorem mG{α :Type}{xs:List α}{i:Int}{v: α}(h:cZ xs i=some v): ∃ j,seqIndex? i xs.length=some j/\xs[j]?=some v/\j < xs.length/\ -(xs.length:Int)<=i/\i < xs.length:=by
 unfold cZ at h;cases e:lD xs.length i with
 | none=>rw[e] at h;cases h
 | some j =>
  rw[e] at h
  obtain⟨h1,h2,h3,h4⟩:=rO e
  exact⟨j,h1,h,h2,h3,h4⟩
theorem fZ{α :Type}{xs:List α}{j:Nat}{v: α}(h:xs[j]?=some v):cZ xs (j:Int)=some v:=by
 have hj:j < xs.length:=(List.getElem?_eq_some_iff.mp h).1;have e:lD xs.length (j:Int)=some j:=by
  unfold lD;rw[if_pos (by omega),if_pos (by omega)];simp
 unfold cZ;rw[e];exact h
noncomputable def m5(b:Expr):Prop:= ∀ o i,subscripted b false o i=operate [o,i] (getItem o i)
noncomputable def sk(X:Cx)(r:R2):Prop :=
 ∀(value slice:Expr)(pins:List (Addr × Obj))(s:Shared)(σ :St)(H:Hp)(x y:V)(v u:Value)(Q:VK),Inv X pins σ H s->RelV x v->RelV y u->r x y H Q ->
  subscripted slice false v u=operate [v,u] (getItem v u)->wpAny (model X.prog X.w) X.A (subscriptTail value slice v u) (EP X pins σ Q) X.xe s
noncomputable def FH(X:Cx)(id:String)(r:V->List V->Hp->VK->Prop):Prop :=
 ∀(pins:List (Addr × Obj))(s:Shared)(σ :St)(H:Hp)(x:V)(xs:List V)(v:Value)(us:List Value)(Q:VK),Inv X pins σ H s->RelV x v->Vals xs us->r x xs H Q ->
  wpAny (model X.prog X.w) X.A (call (.builtin id) (v::us)) (EP X pins σ Q) X.xe s
section
variable{X:Cx}{a b:Expr}{ta tb:TE}{pos:Pos}
theorem sk.or{r r':R2}(h:sk X r)(h':sk X r'):sk X (λx y H Q=>r x y H Q\/r' x y H Q):=by
 intro value slice pins s σ H x y v u Q I rx ry q hs;rcases q with q | q
 . exact h value slice pins s σ H x y v u Q I rx ry q hs
 . exact h' value slice pins s σ H x y v u Q I rx ry q hs
theorem Fx{r:R2}(hr:sk X r)(ha:PE X a ta)(hb:PE X b tb)(hs:m5 b):PE X (.Subscript a b pos) (yQ r ta tb):=by
 intro pins s σ H Q I h;exact Subscript_ (CD ha hb I h λv u s2 x y H2 I2 rx ry q=>hr a b pins s2 σ H2 x y v u Q I2 rx ry q (hs _ _))
noncomputable def FT(K:PySem.W.Frag):R2:=λx y H Q=> ∃ p xs i v,x= .ref p/\y= .int i/\eU K H p xs/\cZ xs i=some v/\Q v H
noncomputable def F0(K:PySem.W.Frag):R2:=λx y H Q=> ∃ p xs i v,x= .ref p/\y= .int i/\fk K H p xs/\cZ xs i=some v/\Q v H
noncomputable def EI:R2:=λx y H Q=> ∃ z i c,x= .str z/\y= .int i/\z.length<=sizeLine/\cZ z.cps.toList i=some c/\Q (.str ⟨#[c]⟩) H
theorem zC:sk X (FT X.K):=by
 intro value slice pins s σ H x y v u Q I rx ry h hs;obtain⟨p,xs,i,z,rfl,rfl,hq,he,q⟩:=h;cases rx;obtain⟨t,rfl⟩:=ry;obtain⟨ak,r,pl,hz⟩:=I.list hq;obtain⟨j,h1,h2,h3,h4,h5⟩:=mG he;obtain⟨w,ew,rw'⟩:=r.get h2;have hl:=r.length;have hn:=iF;have fin:EP X pins σ Q w s:=⟨z,H,I,rw',q⟩
 by_cases h0:0<=i
 . have hj:i.toNat=j:=by
    rw[seqIndex_of h0 h5] at h1;exact Option.some.inj h1
   exact item_listR pl.isList h0 (by omega) (by rw[hj];simpa using ew) fin hs
 . have hj:(i+(ak.toArray.size:Int)).toNat=j:=by
    rw[seqIndex_neg (by omega) h4] at h1;rw[List.size_toArray,<- hl];exact Option.some.inj h1
   exact subscriptTail_builtinR (x:=w) pl.isList.typeIs slot_list_getitem.lookup
    (wpAny_getItem_list_neg (Q:=λr s'=>r=w/\EP X pins σ Q r s') pl.isList (by omega) (by rw[List.size_toArray]<;>omega) (by omega) (by rw[hj];simpa using ew) ⟨rfl,fin⟩) hs
theorem BB:sk X (F0 X.K):=by
 intro value slice pins s σ H x y v u Q I rx ry h hs;obtain⟨p,xs,i,z,rfl,rfl,hq,he,q⟩:=h;cases rx;obtain⟨t,rfl⟩:=ry;obtain⟨ak,r,pl,hz⟩:=I.tuple hq;obtain⟨j,h1,h2,h3,h4,h5⟩:=mG he;obtain⟨w,ew,rw'⟩:=r.get h2;have hl:=r.length;have hn:=iF;have fin:EP X pins σ Q w s:=⟨z,H,I,rw',q⟩
 exact subscriptTail_builtinR (x:=w) pl.typeIs slot_tuple_getitem.lookup
  (getItem_tuple (j:=j) (Q:=λr s'=>r=w/\EP X pins σ Q r s') pl (by omega) (by omega) (by rw[List.size_toArray,<- hl];exact h1) (by simpa using ew) ⟨rfl,fin⟩) hs
theorem Bb:sk X EI:=by
 intro value slice pins s σ H x y v u Q I rx ry h hs;obtain⟨z,i,c,rfl,rfl,hz,he,q⟩:=h;obtain⟨t,rfl⟩:=rx;obtain⟨t',rfl⟩:=ry;obtain⟨j,h1,h2,h3,h4,h5⟩:=mG he;have hl:z.cps.toList.length=z.length:=by simp[Str.length]
 rw[hl] at h1 h4 h5;have hn:=iF;exact tail_any (typeIs_str s z t) slot_str_getitem.lookup (getItem_str (c:=c) (by
  have e1:decide (i < -(2 ^ 63:Int))=false:=decide_eq_false (by omega);have e2:decide (i ≥ 2 ^ 63)=false:=decide_eq_false (by omega);rw[e1,e2,Bool.or_false]) (by rw[h1];simpa using h2) ⟨.str ⟨#[c]⟩,H,I.tok _,⟨_,rfl⟩,q⟩) hs
noncomputable def Ji(K:PySem.W.Frag):R2:=λx y H Q=>FT K x y H Q\/F0 K x y H Q\/EI x y H Q
theorem Bm:sk X (Ji X.K):=zC.or (BB.or Bb)
theorem pT(ak:List Value)(n j:Nat)(u:Value):Obj.mapSeq (·.setIfInBounds j u) { cls:= .type "list",data:= .seq ak.toArray n }={ cls:= .type "list",data:= .seq (ak.set j u).toArray n }:=by
 simp[Obj.mapSeq]
theorem Inv.lst{pins:List (Addr × Obj)}{σ :St}{H:Hp}{s:Shared}{p:Addr}{xs:List V}(I:Inv X pins σ H s)(h:H p=some (.lst xs)) :
  ∃(ak:List Value)(n:Nat),Vals xs ak/\s.heap.get? p=some { cls:= .type "list",data:= .seq ak.toArray n }/\xs.length<=sizeLine:=by
 obtain⟨z,ak,n,r,e⟩:=I.bc p _ h;exact⟨ak,n,r,e,z⟩
theorem Inv.Dc{pins:List (Addr × Obj)}{σ :St}{H:Hp}{s:Shared}{p:Addr}{xs ys:List V}{ak its':List Value}{n n':Nat}{f:Obj->Obj}(I:Inv X pins σ H s)(h:H p=some (.lst xs))
  (ho:s.heap.get? p=some { cls:= .type "list",data:= .seq ak.toArray n }) (hf:f { cls:= .type "list",data:= .seq ak.toArray n }={ cls:= .type "list",data:= .seq its'.toArray n' }) (r:Vals ys its') (hz:ys.length<=sizeLine) (t:Nat) :
  Inv X pins σ (upd H p (.lst ys)) { s with heap:=s.heap.update p f,toks:=t }:=by
 have e:(s.heap.update p f).get? p=some { cls:= .type "list",data:= .seq its'.toArray n' }:=by
  rw[Heap.get?_update_self f ho (by rw[hf]<;>rfl),hf]
 refine I.write (x:=p) (e:=p) (by rw[h];trivial) (.inl rfl) (λb u hb q=>(Heap.get?_update_other _ _ (Ne.symm hb)).trans q) ⟨_,e⟩ ?_;exact⟨hz,its',n',r,e⟩
noncomputable def GY:V->V->V->Hp->(Hp->Prop)->Prop:=λo i v H Q=> ∃ p xs k j,o= .ref p/\i= .int k/\H p=some (.lst xs)/\lD xs.length k=some j/\Q (upd H p (.lst (xs.set j v)))
theorem set_list:lB X GY:=by
 intro pins s σ H o i v ov iv u Q I ro ri rv h;obtain⟨p,xs,k,j,rfl,rfl,hp,hj,q⟩:=h;cases ro;obtain⟨t,rfl⟩:=ri;obtain⟨ak,n,r,ho,hz⟩:=I.lst hp;obtain⟨h1,h2,h3,h4⟩:=rO hj;have hl:=r.length;have hn:=iF;have I':Inv X pins σ (upd H p (.lst (xs.set j v))) { s with heap:=s.heap.update p (Obj.mapSeq (·.setIfInBounds j u)) } :=
  I.Dc hp ho (pT ak n j u) (r.set rv j) (by rw[List.length_set];exact hz) s.toks
 by_cases h0:0<=k
 . have hk:k.toNat=j:=by
    rw[seqIndex_of h0 h4] at h1;exact Option.some.inj h1
   exact PySem.W.ki_setAt ho h0 (by omega) (by rw[List.size_toArray,<- hl];exact h4) (by rw[hk];exact⟨_,I',q⟩)
 . have hk:(k+(ak.toArray.size:Int)).toNat=j:=by
    rw[seqIndex_neg (by omega) h3] at h1;rw[List.size_toArray,<- hl];exact Option.some.inj h1
   exact PySem.W.ki_setBack ho (by omega) (by rw[List.size_toArray,<- hl];exact h3) (by omega) (by rw[hk];exact⟨_,I',q⟩)
theorem ng(lo hi:Option Int)(n:Nat):(sliceBounds lo hi none n).1=((HT.bU n 0 lo:Nat):Int)/\(sliceBounds lo hi none n).2.1=((HT.bU n n hi:Nat):Int)/\(sliceBounds lo hi none n).2.2=1:=by
 refine⟨?_,?_,rfl⟩
 . cases lo with
   | none=>simp[sliceBounds,HT.bU]
   | some i =>
    simp only[sliceBounds,HT.bU,Option.getD_none,show(1:Int) > 0 by decide,if_true]
    by_cases h:i < 0
    . simp only[h,if_true]<;>omega
    . simp only[h,if_false]<;>omega
 . cases hi with
   | none=>simp[sliceBounds,HT.bU]
   | some i =>
    simp only[sliceBounds,HT.bU,Option.getD_none,show(1:Int) > 0 by decide,if_true]
    by_cases h:i < 0
    . simp only[h,if_true]<;>omega
    . simp only[h,if_false]<;>omega
theorem lq(ak:List Value)(lo hi:Option Int):slicePick ak.toArray lo hi none=((ak.drop (HT.bU ak.length 0 lo)).take (HT.bU ak.length ak.length hi - HT.bU ak.length 0 lo)).toArray:=by
 obtain⟨h1,h2,h3⟩:=ng lo hi ak.toArray.size;unfold slicePick;rw[h1,h2,h3];simp only[sliceRange_one,pick_run,List.size_toArray]<;>rfl
noncomputable def Fj(K:PySem.W.Frag):V->Option Int->Option Int->Hp->VK->Prop:=λx lo hi H Q=> ∃ a xs,x= .ref a/\eU K H a xs/\ ∀ p,H p=none->Q (.ref p) (upd H p (.lst (jC xs lo hi)))
theorem yw:xj X (Fj X.K):=by
 intro pins s σ H x v vl vu lo hi sl Q I rx hs pl pu h;obtain⟨a,xs,rfl,hx,q⟩:=h;cases rx;obtain⟨ak,r,ht,hz⟩:=I.list hx;have hlen:=r.length;refine⟨"list",_,slot_list_getitem.lookup,ht.isList.typeIs,?_⟩;refine wpAny_getItem_list_slice ht.isList hs pl pu .none (by simp) ?_ (by rw[List.size_toArray]<;>omega);rw[lq,<- hlen];refine⟨.ref s.heap.objs.size,_,I.laid (t':=s.toks) (o:= .lst (jC xs lo hi)) (λb ob q=>Heap.get?_push_of_some _ q) (Nat.le_refl _) ?_,rfl,q _ (I.bc.fresh (Nat.le_refl _))⟩;exact⟨Nat.le_trans (jy xs lo hi) hz,_,0,(r.drop (HT.bU xs.length 0 lo)).take (HT.bU xs.length xs.length hi - HT.bU xs.length 0 lo),Heap.get?_push_size _ rfl⟩
noncomputable def ft:V->Bool
 | .non=>true
 | .bl _=>true
 | .int _=>true
 | .str _=>true
 | _=>false
noncomputable def Aq:V->V->Bool
 | .non,.non=>true
 | .bl a,.bl b=>a == b
 | .bl a,.int b=>(if a then 1 else 0) == b
 | .int a,.bl b=>a == (if b then 1 else 0)
 | .int a,.int b=>a == b
 | .str a,.str b=>a == b
 | _,_=>false
theorem Dz{A:Around}{s:Shared}{y x:V}{u v:Value}(ry:RelV y u)(rx:RelV x v)(fy:ft y=true)(fx:ft x=true):SeqAt.EqAt A s u v (Aq y x):=by
 cases y with
 | non =>
  cases ry
  cases x with
  | non=>cases rx;exact SeqAt.EqAt.same _
  | bl b=>cases rx;exact SeqAt.EqAt.none_bool b
  | int b=>obtain⟨t,rfl⟩:=rx;exact SeqAt.EqAt.none_int b t
  | str b=>obtain⟨t,rfl⟩:=rx;exact SeqAt.EqAt.none_str b t
  | _=>exact absurd (show false=true from fx) Bool.false_ne_true
 | bl a =>
  cases ry
  cases x with
  | non=>cases rx;exact SeqAt.EqAt.bool_none a
  | bl b=>cases rx;exact SeqAt.EqAt.bool_bool a b
  | int b=>obtain⟨t,rfl⟩:=rx;exact SeqAt.EqAt.bool_int a b t
  | str b=>obtain⟨t,rfl⟩:=rx;exact SeqAt.EqAt.bool_str a b t
  | _=>exact absurd (show false=true from fx) Bool.false_ne_true
 | int a =>
  obtain⟨t',rfl⟩:=ry
  cases x with
  | non=>cases rx;exact SeqAt.EqAt.int_none a t'
  | bl b=>cases rx;exact SeqAt.EqAt.int_bool a t' b
  | int b=>obtain⟨t,rfl⟩:=rx;exact SeqAt.EqAt.int_int a t' b t
  | str b=>obtain⟨t,rfl⟩:=rx;exact SeqAt.EqAt.int_str a t' b t
  | _=>exact absurd (show false=true from fx) Bool.false_ne_true
 | str a =>
  obtain⟨t',rfl⟩:=ry
  cases x with
  | non=>cases rx;exact SeqAt.EqAt.str_none a t'
  | bl b=>cases rx;exact SeqAt.EqAt.str_bool a t' b
  | int b=>obtain⟨t,rfl⟩:=rx;exact SeqAt.EqAt.str_int a t' b t
  | str b=>obtain⟨t,rfl⟩:=rx;exact SeqAt.EqAt.str_str a t' b t
  | _=>exact absurd (show false=true from fx) Bool.false_ne_true
 | _=>exact absurd (show false=true from fy) Bool.false_ne_true
noncomputable def qm(x:V)(u:Value):Bool:=match u with
 | .none=>Aq .non x
 | .bool b=>Aq (.bl b) x
 | .int i _=>Aq (.int i) x
 | .str z _=>Aq (.str z) x
 | _=>false
theorem vf{x y:V}{u:Value}(r:RelV y u)(f:ft y=true):qm x u=Aq y x:=by
 cases y with
 | non=>cases r;rfl
 | bl b=>cases r;rfl
 | int i=>obtain⟨t,rfl⟩:=r;rfl
 | str z=>obtain⟨t,rfl⟩:=r;rfl
 | _=>exact absurd (show false=true from f) Bool.false_ne_true
theorem gU{x:V}: ∀{xs:List V}{us:List Value},Vals xs us->xs.all ft=true->us.any (qm x)=xs.any λy=>Aq y x
 | _,_,.nil,_=>rfl
 | y::xs,u::us,.cons r t,f=>by
  rw[List.all_cons,Bool.and_eq_true] at f;rw[List.any_cons,List.any_cons,vf r f.1,gU t f.2]
theorem fG{A:Around}{s:Shared}{x:V}{v:Value}(rx:RelV x v)(fx:ft x=true): ∀{xs:List V}{us:List Value},Vals xs us->xs.all ft=true-> ∀ u∈us,SeqAt.EqAt A s u v (qm x u)
 | _,_,.nil,_=>λu hu=>by cases hu
 | y::xs,u::us,.cons r t,f=>λu' hu=>by
  rw[List.all_cons,Bool.and_eq_true] at f;rcases List.mem_cons.mp hu with rfl | hu
  . rw[vf r f.1];exact Dz r rx f.1 fx
  . exact fG rx fx t f.2 u' hu
noncomputable def GW(x:V)(xs:List V):Bool:=xs.any λy=>Aq y x
noncomputable def IB(K:PySem.W.Frag)(neg:Bool):R2:=λx y H Q=> ∃ p xs,y= .ref p/\(eU K H p xs\/fk K H p xs)/\ft x=true/\xs.all ft=true/\Q (.bl (if neg then !GW x xs else GW x xs)) H
theorem rZ:cI X (compareOp .In) (IB X.K false):=by
 intro pins s σ H x y v u Q I rx ry h;obtain⟨p,xs,rfl,hq,fx,fs,q⟩:=h;cases ry;rcases hq with hq | hq
 . obtain⟨ak,r,pl,hz⟩:=I.list hq;refine SeqAt.in_listAt (qm x) pl.isList (λw hw=>fG rx fx r fs w (by simpa using hw)) ⟨.bl _,H,I,rfl,?_⟩;rw[show ak.toArray.any (qm x)=ak.any (qm x) by simp,gU r fs];exact q
 . obtain⟨ak,r,pl,hz⟩:=I.tuple hq;refine SeqAt.in_tupleAt (qm x) pl (λw hw=>fG rx fx r fs w (by simpa using hw)) ⟨.bl _,H,I,rfl,?_⟩;rw[show ak.toArray.any (qm x)=ak.any (qm x) by simp,gU r fs];exact q
theorem mU:cI X (compareOp .NotIn) (IB X.K true):=by
 intro pins s σ H x y v u Q I rx ry h;obtain⟨p,xs,rfl,hq,fx,fs,q⟩:=h;cases ry;rcases hq with hq | hq
 . obtain⟨ak,r,pl,hz⟩:=I.list hq;refine SeqAt.notIn_listAt (qm x) pl.isList (λw hw=>fG rx fx r fs w (by simpa using hw)) ⟨.bl _,H,I,rfl,?_⟩;rw[show ak.toArray.any (qm x)=ak.any (qm x) by simp,gU r fs];exact q
 . obtain⟨ak,r,pl,hz⟩:=I.tuple hq;refine SeqAt.notIn_tupleAt (qm x) pl (λw hw=>fG rx fx r fs w (by simpa using hw)) ⟨.bl _,H,I,rfl,?_⟩;rw[show ak.toArray.any (qm x)=ak.any (qm x) by simp,gU r fs];exact q
theorem mP:cI X (compareOp .NotIn) (λx y H Q=> ∃ i j,x= .str i/\y= .str j/\Q (.bl (!(!(Builtin.Str.occurrences j i 0 j.length 1).isEmpty))) H):=by
 intro pins s σ H x y v u Q I rx ry h;obtain⟨i,j,rfl,rfl,q⟩:=h;obtain⟨t,rfl⟩:=rx;obtain⟨t',rfl⟩:=ry;exact notIn_str ⟨.bl _,H,I,rfl,q⟩
theorem my:aM X (.builtin "len") (λxs H Q=> ∃ p ys,xs=[.ref p]/\(eU X.K H p ys\/fk X.K H p ys)/\Q (.int ys.length) H):=by
 intro pins s σ H xs us Q I r h;obtain⟨p,ys,rfl,hq,q⟩:=h;obtain⟨u,rfl,rx⟩:=vals1 r;cases rx;have hn:=iF;rcases hq with hq | hq
 . obtain⟨ak,r',pl,hz⟩:=I.list hq;have hlen:=r'.length;exact Calls.call_len_list pl.isList (by simp only[List.size_toArray]<;>omega) ⟨.int ys.length,H,I.tok _,⟨s.toks+1,by rw[List.size_toArray,hlen]⟩,q⟩
 . obtain⟨ak,r',pl,hz⟩:=I.tuple hq;have hlen:=r'.length;exact len_tuple pl (by simp only[List.size_toArray]<;>omega) ⟨.int ys.length,H,I.tok _,⟨s.toks+1,by rw[List.size_toArray,hlen]⟩,q⟩
theorem ni:aM X (.builtin "len") (λxs H Q=> ∃ z,xs=[.str z]/\z.length<=sizeLine/\Q (.int z.length) H):=by
 intro pins s σ H xs us Q I r h;obtain⟨z,rfl,hz,q⟩:=h;obtain⟨u,rfl,t,rfl⟩:=vals1 r;have hn:=iF;exact len_str (by omega) ⟨.int z.length,H,I.tok _,⟨_,rfl⟩,q⟩
theorem aM.or{f:Value}{r r':List V->Hp->VK->Prop}(h:aM X f r)(h':aM X f r'):aM X f (λxs H Q=>r xs H Q\/r' xs H Q):=by
 intro pins s σ H xs us Q I rs q;rcases q with q | q
 . exact h pins s σ H xs us Q I rs q
 . exact h' pins s σ H xs us Q I rs q
theorem k3:aM X (.type "tuple") (λxs H Q=> ∃ p ys,xs=[.ref p]/\((eU X.K H p ys/\ ∀ l,H l=none->Q (.ref l) (upd H l (.tup ys)))\/(fk X.K H p ys/\Q (.ref p) H))):=by
 intro pins s σ H xs us Q I r h;obtain⟨p,ys,rfl,h⟩:=h;obtain⟨u,rfl,rx⟩:=vals1 r;cases rx;rcases h with⟨hq,q⟩ | ⟨hq,q⟩
 . obtain⟨ak,r',pl,hz⟩:=I.list hq;have hlen:=r'.length;refine call_tuple_list pl.isList (λh' kp=>?_) (by simp only[List.size_toArray]<;>omega);have I1:Inv X pins σ H { s with heap:=h' }:=I.kept (t':=s.toks) kp;have I2:Inv X pins σ (upd H h'.objs.size (.tup ys)) { s with heap:=h'.push { cls:= .type "tuple",data:= .seq ak.toArray } } :=
    I1.laid (t':=s.toks) (λb o e=>Heap.get?_push_of_some _ e) (Nat.le_refl _) (show aP X.prog X.w _ _ _ (.tup ys) from⟨hz,ak,r',lb.new _ _⟩)
   exact⟨.ref h'.objs.size,_,I2,rfl,q _ (I1.bc.fresh (Nat.le_refl _))⟩
 . obtain⟨ak,r',pl,hz⟩:=I.tuple hq;exact call_tuple_same pl ⟨.ref p,H,I,rfl,q⟩
noncomputable def Hc(K:PySem.W.Frag)(T:String)(x:V)(H:Hp):Prop:=match x with
 | .str _=>T= "str"
 | .int _=>T= "int"
 | .ref p=>(T= "list" /\ ∃ xs,eU K H p xs)\/(T= "tuple" /\ ∃ o,K.lookup p=some o/\o.cls= .type "tuple" /\o.dict=none) \/
   (T= "dict" /\((∃ kvs,H p=some (.dK kvs))\/ ∃ kvs,H p=some (.dT kvs)))\/(T= "set" /\ ∃ S n,H p=some (.set S n))
 | _=>False
theorem D4{pins:List (Addr × Obj)}{σ :St}{H:Hp}{s:Shared}{T:String}{x:V}{v:Value}(I:Inv X pins σ H s)(r:RelV x v)(ty:Hc X.K T x H) :
  s.TypeIs v T/\ ∀ a,v= .ref a-> ∃ ob,s.heap.get? a=some ob/\ob.dict=none:=by
 cases x with
 | str z =>
  obtain⟨t,rfl⟩:=r
  cases(show T= "str" from ty)
  exact⟨typeIs_str s z t,λ_ e=>nomatch e⟩
 | int i =>
  obtain⟨t,rfl⟩:=r
  cases(show T= "int" from ty)
  exact⟨typeIs_int s i t,λ_ e=>nomatch e⟩
 | ref p =>
  cases r
  rcases ty with⟨rfl,xs,hq⟩ | ⟨rfl,o,hk,hc,hd⟩ | ⟨rfl,hk⟩ | ⟨rfl,S,n,hk⟩
  . obtain⟨ak,_,pl,_⟩:=I.list hq;refine⟨pl.isList.typeIs,λa e=>?_⟩;cases e;obtain⟨o,n,e,c,hd,_⟩:=pl;exact⟨o,e,hd⟩
  . refine⟨⟨o,I.i6 p o hk,hc⟩,λa e=>?_⟩;cases e;exact⟨o,I.i6 _ o hk,hd⟩
  . have z: ∃ o,s.heap.get? p=some o/\o.ExactDict:=by
     rcases hk with⟨kvs,hk⟩ | ⟨kvs,hk⟩
     . obtain⟨_,_,_,_,o,_,_,e,ex,_⟩:=I.bc p _ hk;exact⟨o,e,ex⟩
     . obtain⟨_,_,_,_,o,_,_,e,ex,_⟩:=I.bc p _ hk;exact⟨o,e,ex⟩
    obtain⟨o,e,ex⟩:=z;refine⟨⟨o,e,ex.1⟩,λa e2=>?_⟩;cases e2;exact⟨o,e,ex.2.1⟩
  . obtain⟨o,_,_,_,e,ex,_⟩:=I.bc p _ hk;refine⟨⟨o,e,ex.1⟩,λa e2=>?_⟩;cases e2;exact⟨o,e,ex.2.1⟩
 | _=>exact False.elim ty
noncomputable def IM(K:PySem.W.Frag)(T:String)(r:V->List V->Hp->VK->Prop)(to:TE)(t:TA):TE:=fun σ H Q=>to σ H λx H1=>Hc K T x H1/\t σ H1 λxs H2=>r x xs H2 Q
variable{o e:Expr}{es:List Expr}{to:TE}{t:TA}{name:Str}{apos cpos:Pos}{T id:String}{r:V->List V->Hp->VK->Prop}
theorem FC(pa:PlainAttrs T)(slot:Slot T name id)(hty:typeOf (.builtin id)=pure (.type "method_descriptor"))(hm:FH X id r)(ho:PE X o to)(ha:PA X (e::es) t)
  (hbase:attributeBase o name X.env (eval o X.env)=eval o X.env:=by rfl)
  (hfew:((backTo cpos (starEach (e::es) X.env)).all (λx=> !x.1)&&(backToKw cpos (keywordEach [] X.env)).all (λx=>x.1.isSome)
   && decide ((e::es).length+([]:List Keyword).length+(if ([]:List Keyword).isEmpty then 0 else 1) < 30))=true:=by rfl)
  (hline:(apos.endLine == cpos.line)=true:=by rfl) (hs:starEach (e::es) X.env=(false,eval e X.env)::starEach es X.env:=by rfl) (hplain:(backTo cpos (starEach es X.env)).any (·.1)=false:=by rfl) :
  PE X (.Call (.Attribute o name apos) (e::es) [] cpos) (IM X.K T r to t):=by
 intro pins s σ H Q I h;refine wpAny_Call_method_late hbase hfew hline rfl (cA (ho pins s σ H _ I h) λv s1 ⟨x,H1,I1,r1,ty,q1⟩=>?_);obtain⟨h1,h2⟩:=D4 I1 r1 ty;refine⟨T,id,pa,slot,hty,h1,h2,?_⟩;have hA:=ha cpos pins s1 σ H1 _ I1 q1;rw[hs] at hA ⊢;refine Calls.callWith_builtin (by show(false||(backTo cpos (starEach es X.env)).any (·.1))=false;rw[hplain]<;>rfl) (Calls.evalArgs_plain ?_)
 exact cA hA λus s2 ⟨vs,H2,I2,r2,q2⟩=>hm pins s2 σ H2 x vs v us Q I2 r1 r2 q2
/- xs.append(e),list.index on a module's tuple .. are FH facts of 06m -/
end
noncomputable def Jg(X:Cx)(id:String)(r:V->List V->Hp->VK->Prop):Prop :=
 ∀(pins:List (Addr × Obj))(s:Shared)(σ :St)(H:Hp)(x:V)(xs:List V)(v:Value)(us:List Value)(Q:VK),Inv X pins σ H s->RelV x v->Vals xs us->r x xs H Q ->
  wpAny (model X.prog X.w) X.A (call (.builtin id) (v::us)) (EP X pins σ Q) X.xe s
theorem Vals.one: ∀{x:V}{us:List Value},Vals [x] us-> ∃ u,us=[u]/\RelV x u
 | _,_,.cons r .nil=>⟨_,rfl,r⟩
theorem Vals.two: ∀{x y:V}{us:List Value},Vals [x,y] us-> ∃ u v,us=[u,v]/\RelV x u/\RelV y v
 | _,_,_,.cons r (.cons q .nil)=>⟨_,_,rfl,r,q⟩
theorem Vals.zero: ∀{us:List Value},Vals [] us->us=[]
 | _,.nil=>rfl
theorem Vals.rep{xs:List V}{us:List Value}(h:Vals xs us): ∀ k:Nat,Vals (List.replicate k xs).flatten (List.replicate k us).flatten
 | 0=> .nil
 | k+1=>by
  rw[List.replicate_succ,List.replicate_succ,List.flatten_cons,List.flatten_cons];exact Vals.append h (Vals.rep h k)
theorem foldl_rep(ak:List Value): ∀(k:Nat)(acc:List Value),
  List.foldl (λx1 x2=>x1++x2) acc.toArray (List.replicate k ak.toArray)=(acc++(List.replicate k ak).flatten).toArray
 | 0,acc=>by simp
 | k+1,acc=>by
  have e:acc.toArray++ak.toArray=(acc++ak).toArray:=by simp
  have e2:(acc++ak)++(List.replicate k ak).flatten=acc++(List.replicate (k+1) ak).flatten:=by
   rw[List.replicate_succ,List.flatten_cons,List.append_assoc]
  rw[<- e2,<- foldl_rep ak k (acc++ak),<- e,List.replicate_succ,List.foldl_cons]
section
variable{X:Cx}{pins:List (Addr × Obj)}{σ :St}{H:Hp}{s:Shared}{l b:Addr}{xs ys zs:List V}
theorem Inv.HF{ak its':List Value}{n:Nat}{f:Array Value->Array Value}{t':Nat}(I:Inv X pins σ H s)(hH:H l=some (.lst xs))
  (e:s.heap.get? l=some { cls:= .type "list",data:= .seq ak.toArray n }) (hf:f ak.toArray=its'.toArray) (hv:Vals ys its') (hz:ys.length<=sizeLine) :
  Inv X pins σ (upd H l (.lst ys)) { s with heap:=s.heap.update l (Obj.mapSeq f),toks:=t' }:=by
 have q:=PySem.IsL.update e f;rw[hf] at q;refine I.write (x:=l) (e:=l) (by rw[hH];exact trivial) (.inl rfl) (λb' u hb hu=>(Heap.get?_update_other s.heap (Obj.mapSeq f) (Ne.symm hb)).trans hu) ⟨_,q⟩ ?_;exact⟨hz,its',_,hv,q⟩
theorem Inv.Ft{ak:List Value}{t':Nat}(I:Inv X pins σ H s)(hv:Vals ys ak)(hz:ys.length<=sizeLine) :
  Inv X pins σ (upd H s.heap.objs.size (.lst ys)) { s with heap:=s.heap.push { cls:= .type "list",data:= .seq ak.toArray },toks:=t' } :=
 I.laid (λ_ _ q=>Heap.get?_push_of_some _ q) (Nat.le_refl _) ⟨hz,ak,0,hv,Heap.get?_push_size _ rfl⟩
theorem Inv.fresh(I:Inv X pins σ H s):H s.heap.objs.size=none:=I.bc.fresh (Nat.le_refl _)
theorem Inv.zU(I:Inv X pins σ H s)(hH:H l=some (.lst xs)):xs.length<=sizeLine/\ ∃(ak:List Value)(n:Nat),Vals xs ak/\xs.length=ak.length/\s.heap.get? l=some { cls:= .type "list",data:= .seq ak.toArray n }:=by
 obtain⟨z,ak,n,r,e⟩:=I.bc l _ hH;exact⟨z,ak,n,r,r.length,e⟩
theorem uT{n:Nat}(h:n<=sizeLine):Builtin.List.listTooLong n=false:=by
 unfold Builtin.List.listTooLong;exact decide_eq_false (by omega)
end
section
variable{X:Cx}
noncomputable def zq:V->List V->Hp->VK->Prop:=λx vs H Q=> ∃ l xs y,x= .ref l/\vs=[y]/\H l=some (.lst xs)/\xs.length < sizeLine/\Q .non (upd H l (.lst (xs++[y])))
theorem sY:Jg X "list.append" zq:=by
 intro pins s σ H x vs v us Q I rx rv h;obtain⟨l,xs,y,rfl,rfl,hH,hz,q⟩:=h;cases rx;obtain⟨u,rfl,ru⟩:=rv.one;obtain⟨z,ak,n,r,hl,e⟩:=I.zU hH;refine call_meets F.slot_list_append ⟨_,e,rfl⟩ F.entry_list_append (F.args_list_append_2 _ _) (PySem.list_append l ak.toArray n u (by rw[List.size_toArray];omega)) ⟨e,?_⟩;refine⟨.non,_,I.HF (its':=ak++[u]) hH e (by simp) (r.append (.cons ru .nil)) ?_,rfl,q⟩;rw[List.length_append,List.length_singleton];omega
noncomputable def Fb:R2:=λx y H Q=> ∃ l b xs zs,x= .ref l/\y= .ref b/\H l=some (.lst xs)/\H b=some (.lst zs)/\xs.length+zs.length<=sizeLine/\ ∀ p,H p=none->Q (.ref p) (upd H p (.lst (xs++zs)))
theorem DA:cI X (binaryOp .Add) Fb:=by
 intro pins s σ H x y v u Q I rx ry h;obtain⟨l,b,xs,zs,rfl,rfl,hH,hB,hz,q⟩:=h;cases rx;cases ry;obtain⟨z,ak,n,r,hl,e⟩:=I.zU hH;obtain⟨z2,its2,n2,r2,hl2,e2⟩:=I.zU hB;refine PySem.P.add_list e e2 ?_ (by rw[List.size_toArray,List.size_toArray];omega);have ea:ak.toArray++its2.toArray=(ak++its2).toArray:=by simp
 rw[ea];exact⟨.ref _,_,I.Ft (t':=s.toks) (r.append r2) (by rw[List.length_append];omega),rfl,q _ I.fresh⟩
noncomputable def Ig:R2:=λx y H Q=> ∃ l k xs,x= .ref l/\y= .int k/\H l=some (.lst xs)/\ -(2 ^ 63)<=k/\k < 2 ^ 63/\xs.length*k.toNat<=sizeLine /\
 ∀ p,H p=none->Q (.ref p) (upd H p (.lst (List.replicate k.toNat xs).flatten))
theorem len_rep{α :Type}(xs:List α)(k:Nat):(List.replicate k xs).flatten.length=k*xs.length:=by
 induction k with
 | zero=>simp
 | succ k ih=>rw[List.replicate_succ,List.flatten_cons,List.length_append,ih,Nat.succ_mul,Nat.add_comm]
theorem CU:cI X (binaryOp .Mult) Ig:=by
 intro pins s σ H x y v u Q I rx ry h;obtain⟨l,k,xs,rfl,rfl,hH,h1,h2,hz,q⟩:=h;cases rx;obtain⟨t,rfl⟩:=ry;obtain⟨z,ak,n,r,hl,e⟩:=I.zU hH;have hlen:ak.toArray.size*k.toNat<=sizeLine:=by rw[List.size_toArray,<- hl];exact hz
 have hcap: ¬ ak.toArray.size*k.toNat > (2 ^ 63 - 1) / 8:=by
  have:(sizeLine:Nat)<=(2 ^ 63 - 1) / 8:=by decide
  omega
 have hfit: ¬ (!Builtin.List.listFitsIndex k)=true:=by
  rw[fitsIndex_both h1 h2];exact Bool.false_ne_true
 have hlong: ¬ Builtin.List.listTooLong (ak.toArray.size*k.toNat)=true:=by
  rw[uT hlen];exact Bool.false_ne_true
 have hnew:List.foldl (λx1 x2=>x1++x2) #[] (List.replicate (if ak.toArray.isEmpty=true then 0 else k.toNat) ak.toArray)=(List.replicate k.toNat ak).flatten.toArray:=by
  have f0: ∀ m:Nat,List.foldl (λx1 x2=>x1++x2) #[] (List.replicate m ak.toArray)=(List.replicate m ak).flatten.toArray:=λm=>by
   have:=foldl_rep ak m [];rw[List.nil_append] at this;exact this
  rw[f0];cases ak with
  | nil=>simp
  | cons a r'=>rw[if_neg (by simp)]
 refine wpAny_binaryOp_repeat_ref (T:= "list") (U:= "int") (by decide) ⟨_,e,rfl⟩ (λs'=>typeIs_int s' k t) noFill_list_mul F.fills_int_mul F.slot_int_rmul repeat_list F.slot_int_index.lookup
  (call_meets F.slot_int_rmul (typeIs_int s k t) F.entry_int_rmul (F.args_int_rmul_2 _ _) (int___rmul___int_list k t l ak.toArray n)
   ⟨e,rfl,⟨_,e,rfl⟩,call_meets F.slot_list_mul ⟨_,e,rfl⟩ F.entry_list_mul (F.args_list_mul_2 _ _) (AutoListH.list___mul___list_int_3 l ak.toArray n k t hfit hcap hlong) ⟨e,?_⟩⟩)
 rw[hnew];exact⟨.ref _,_,I.Ft (t':=s.toks) (r.rep k.toNat) (by rw[len_rep,Nat.mul_comm];exact hz),rfl,q _ I.fresh⟩
end
end L2
namespace Att
open PySem PySem.W PySem.Calls PyProof.Rows
theorem jG{P:Params}{h:Heap}: ∀(ns:List Int)(vs:List Value),WellAll P h vs (ns.map WData.int)->IntsAre vs ns:=by
 intro ns
 induction ns with
 | nil =>
  intro vs w
  rw[List.map_nil] at w
  cases w
  exact .nil
 | cons n ns ih =>
  intro vs w
  rw[List.map_cons] at w
  cases w with
  | cons a b =>
   cases a
   exact .cons _ _ (ih _ b)
theorem sX {l : OpenLaw} {n : Nat} (hn : l.most = some n) {P : Params} {h : Heap} {args : List WData} {vals : List Value}
    (hpre : l.row.toRowW.claim.pre args = true) (hwl : WellAll P h vals args) :
    ∃ a vs ns, vals = [Value.ref a] /\ args = [WData.list (ns.map WData.int)] /\ h.get? a = some { cls := .type "list", data := .seq vs.toArray } /\ IntsAre vs ns /\ ns.length <= n := by
  have hsh : WShape.hasAll [] args [.list .int] = true := (pre_splitW hpre).1;have hc : l.pre.holds [] { args := args } = true := (pre_splitW hpre).2;obtain ⟨d, r, rfl, h1, h2⟩ := hasAllW_cons hsh;obtain rfl := hasAllW_nil h2;obtain ⟨xs, rfl, h3⟩ := hasW_list h1;obtain ⟨ns, rfl⟩ := items_int h3;have hlen : ns.length <= n := by
    unfold OpenLaw.pre at hc;have h4 : (WTm.not (.lt (.lit (.int (n : Int))) (.len (.arg 0)))).holds [] { args := [.list (ns.map .int)] } = true := by
      have h4 := (holds_andW hc).1;rw [hn] at h4;exact h4
    have h5 := condW_of h4 (w_not (w_lt w_lit (w_len_list (w_arg rfl))));rw [List.length_map] at h5;refine Nat.le_of_not_lt λq => ?_;have q' : (n : Int) < ((ns.length : Nat) : Int) := by omega
    first
      | (rw [decide_eq_true q'] at h5; exact absurd h5 (by decide))
      | (simp at h5; omega)
  cases hwl with
  | cons w1 w2 =>
    cases w2
    cases w1 with
    | list ho hall => exact ⟨_, _, ns, rfl, rfl, ho, jG ns _ hall, hlen⟩
theorem s9 (l:OpenLaw) (args:List WData):l.row.toRowW.claim.post args (.bool true) args=true :=
 postW_of (r:=l.row.toRowW) (X:=(true == true))
  (show WShape.has [] (.bool true) .bool=true by first | rfl | decide | simp [WShape.has,WShape.arms,WShape.armsAll])
  (show(WTm.eq .res (.lit (.bool true))).value [] { args:=args,res:=some (.bool true),after:=args }=some (.bool (true == true)) from w_eq_bool (w_res rfl) w_lit) rfl
theorem nO{l:OpenLaw}{n:Nat}{q:Program}{loose:List Str}{XP:(Str->Option Value)->Heap->Prop}{YP:World->Heap->Prop}{d:DefRec}
  (hn:l.most=some n) (hdf:d.params.defaults=[])
  (call: ∀(w:World)(s₀ s₁ :Shared)(mg mb:Str->Option Value)(fa:Addr)(o:Obj)(pm cd doc:Value)(a:Addr)(vs:List Value)(ns:List Int),
   Ground q loose [] XP w s₀ mg mb s₁.heap->YP w s₁.heap ->
   s₁.heap.get? fa=some o->o.data= .func (docDef d.name d.params d.body d.scope pm cd doc)->s₁.heap.CodeRec cd d.name->mg d.name=some (.ref fa) ->
   s₁.heap.get? a=some { cls:= .type "list",data:= .seq vs.toArray }->IntsAre vs ns->ns.length<=n->s₁.gens= #[] ->
   codeAny (model l.prog w) callerA (.call (.ref fa) ⟨[.ref a],[]⟩) (λr s'=>r= .ok (.ret (.bool true))/\OldK s₁.heap s'.heap/\s'.os=s₁.os/\AllBare s'.gens) s₁) :
  WalkO q loose XP YP l.row.toRowW d [] (λf vs=>PySem.call f vs):=by
 intro w s₀ s₁ mg mb G Y fa o pm cd doc dV kV ho hd hcd hD hmg hg args vals as hpre hlay hrd hwl hlo;obtain rfl:dV= .none:=Dflts.none hD hdf;obtain rfl:kV= .none:=Dflts.noKw hD;obtain⟨a,vs,ns,rfl,rfl,hobj,hints,hlen⟩:=sX hn hpre hwl;refine enter_call (codeAny_mono (call w s₀ s₁ mg mb fa o pm cd doc a vs ns G Y ho (fd_plain hd) hcd hmg hobj hints hlen hg) λr s' hq=>?_);obtain⟨rfl,h2,h3,h4⟩:=hq;exact⟨.inl ⟨.bool true,.bool true,[],rfl,λ_=>rfl,.bool true,s9 l _,λ_=>⟨List.Pairwise.nil,λ_ hm=>(nomatch hm)⟩⟩,h2,h3,h4⟩
section
variable{prog:Program}{w:World}{A:Around}{E:Value->Shared->Prop}{s:Shared}{K:Frag}
noncomputable def ledger(h:Heap)(L d:Addr):List (Addr × Obj):=(List.range h.objs.size).filterMap λa=>if a=L\/a=d then none else(h.get? a).map λo=>(a,o)
end
end Att
namespace L2
open PySem PySem.Spec PyProof.Rows
theorem lL: ∀{vs:List Value}{ns:List Int},IntsAre vs ns->Vals (ns.map V.int) vs
 | _,_,.nil=> .nil
 | _,_,.cons n t h=> .cons ⟨t,rfl⟩ (lL h)
noncomputable def vh(H:Hp):Prop:= ∀ b,H b=none\/ ∃ o xs,H b=some (.gC o (.lst xs))
theorem wz{P:Program}{w:World}{K:PySem.W.Frag}{mg mb:Str->Option Value}{CX:t7}{k:Nat}{fa a:Addr}{fd:FuncData}{x:Str}{sp:Sp}{s₁ :Shared}{vs:List Value}{ns:List Int}
  (KX:K.In s₁.heap) (hns:s₁.heap.Ns mainGlobals mg) (hb:s₁.heap.Ns builtinsNs mb) (hbb: ∀ x:Str,x≠ "__name__" ->mb x=bootBuiltins x) (hlim:s₁.heap.NoLimit) (hg:s₁.gens= #[])
  (ha:s₁.heap.get? a=some { cls:= .type "list",data:= .seq vs.toArray }) (hi:IntsAre vs ns) (hl:ns.length<=sizeLine) (hr:cz k callerA)
  (F: ∀ base:Heap,K.In base->base.Ns mainGlobals mg->fE P w K mg base CX k fa fd [x] sp) (hbind: ∀(s:Shared)(u:Value),BindsTo s fd ⟨[u],[]⟩ [(x,u)])
  (hsp: ∀ H:Hp,vh H->eU K H a (ns.map V.int)->sp [.ref a] H (λv _=>v= .bl true) λ_ _ _=>False)
  (hCX: ∀ H e s',CX [] H s₁ (λ_ _ _=>False) e s'->False) :
  codeAny (model P w) callerA (.call (.ref fa) ⟨[.ref a],[]⟩) (λr s'=>r= .ok (.ret (.bool true))/\OldK s₁.heap s'.heap/\s'.os=s₁.os/\AllBare s'.gens) s₁ :=by
 have rv:=lL hi;have lenV:=hi.length;have core: ∀ H:Hp,vh H->eU K H a (ns.map V.int)->gv P w H s₁.heap->(∀ b,H b≠none->b=a)->(H a≠none->K.lookup a=none) ->
   codeAny (model P w) callerA (.call (.ref fa) ⟨[.ref a],[]⟩) (λr s'=>r= .ok (.ret (.bool true))/\OldK s₁.heap s'.heap/\s'.os=s₁.os/\AllBare s'.gens) s₁ :=by
  intro H hO hS bc hA hK;have base_of: ∀{b:Addr}{o:Obj},s₁.heap.get? b=some o->H b=none->(mD s₁.heap H).get? b=some o:=λe n=>uq e n;have noA: ∀{b:Addr}{o:Obj}{es:Array DictEntry}{ep:Nat},s₁.heap.get? b=some o->o.data= .dict es ep->H b=none:=λ{b o es ep} e d=>by
   cases q:H b with
   | none=>rfl
   | some u =>
    have e':b=a:=hA b (by rw[q];simp)
    subst e'
    rw[ha] at e;cases e
    have d':Data.seq vs.toArray _=Data.dict es ep:=d
    cases d'
  have nsK: ∀{b:Addr}{m:Str->Option Value},s₁.heap.Ns b m->(mD s₁.heap H).Ns b m:=λ{b m} ⟨o,es,ep,e,d,r⟩=>⟨o,es,ep,base_of e (noA e d),d,r⟩
  have hKb:K.In (mD s₁.heap H):=λb o e=>base_of (KX b o e) (by
   cases q:H b with
   | none=>rfl
   | some u =>
    have e':b=a:=hA b (by rw[q];simp)
    subst e'
    rw[hK (by rw[q];simp)] at e;cases e)
  have hM:Mod K mg (mD s₁.heap H):=⟨hKb,nsK hns,⟨mb,nsK hb,hbb⟩,let ⟨mc,h1,h2⟩:=hlim;⟨mc,nsK h1,h2⟩⟩
  have e0:p6 P w K mg (mD s₁.heap H) callerA [] s₁ H:=⟨rfl,hM,λb o e=>yB e,Nat.le_of_eq (sF _ _),trivial,λb hb=>absurd (show b∈([]:List Addr) from hb) (by simp),bc,.of_eq hg⟩
  refine codeAny_mono ((F _ hKb (nsK hns)).run callerA [] s₁ H ⟨[.ref a],[]⟩ [.ref a] [.ref a] _ _ hr e0 (hbind s₁ (.ref a)) (.cons rfl .nil) (hsp H hO hS)) λr s' h=>?_;cases r with
  | error e=>exact(hCX H e s' h).elim
  | ok fl =>
   cases fl with
   | next=>exact False.elim h
   | brk=>exact False.elim h
   | cont=>exact False.elim h
   | ret u =>
    obtain⟨v,H',os,bare,un,hok',r',q⟩:=h
    have q':v= .bl true:=q
    subst q'
    obtain rfl:u=Value.bool true:=r'
    refine⟨rfl,OldK.of_keep λb o e=>?_,os,bare⟩
    cases q:H b with
    | none=>exact un.keep b o e q (by intro z;exact absurd (show b∈([]:List Addr) from z) (by simp)) (by simp)
    | some u =>
     rcases hO b with z | ⟨ob,xs,z⟩
     . rw[q] at z;cases z
     . have z2:=un.gD b ob _ z;obtain⟨e1,_⟩:=bc b _ z;obtain⟨e2,_⟩:=hok' b _ z2;rw[e] at e1;cases e1;exact e2
 cases hk:K.lookup a with
 | some o =>
  have e:=KX a o hk
  rw[ha] at e
  cases e
  refine core (λ_=>none) (λ_=> .inl rfl) (.inr ⟨_,vs.toArray,_,hk,rfl,rfl,rfl,by rw[List.size_toArray,lenV];exact hl,by simpa using rv⟩) (λb u z=>by have z':(none:Option HO)=some u:=z;cases z') (λb z=>absurd rfl z) λz=>absurd rfl z
 | none =>
  refine core (λb=>if b=a then some (.gC { cls:= .type "list",data:= .seq vs.toArray } (.lst (ns.map V.int))) else none) (λb=>?_) (.inl (.inr ⟨{ cls:= .type "list",data:= .seq vs.toArray },if_pos rfl⟩)) (λb u z=>?_) (λb z=>?_) λ_=>hk
  . by_cases hb:b=a
    . exact .inr ⟨_,_,if_pos hb⟩
    . exact .inl (if_neg hb)
  . by_cases hb:b=a
    . have z':=(if_pos hb).symm.trans z;cases z';subst hb;exact⟨ha,by rw[List.length_map];exact hl,vs,_,rv,ha⟩
    . have z':=(if_neg hb).symm.trans z;cases z'
  . by_cases hb:b=a
    . exact hb
    . exact absurd (if_neg hb) z
theorem zw{l:PySem.W.OpenLaw}{n k:Nat}{q:Program}{loose:List Str}{XP:(Str->Option Value)->Heap->Prop}{YP:World->Heap->Prop}{d:DefRec}{K:Params->PySem.W.Frag}{CX:World->t7}{sp:World->Sp}{x:Str}
  (hn:l.most=some n) (hn2:n<=sizeLine) (hdf:d.params.defaults=[]) (hr:cz k callerA)
  (hY: ∀(w:World)(h:Heap),YP w h->(K w.params).In h)
  (F: ∀(w:World)(mg:Str->Option Value)(fa:Addr)(h:Heap),(K w.params).In h->h.Ns mainGlobals mg->mg d.name=some (.ref fa) ->
   ∃ fd:FuncData,(∀(s:Shared)(u:Value),BindsTo s fd ⟨[u],[]⟩ [(x,u)]) /\
    ∀ base:Heap,(K w.params).In base->base.Ns mainGlobals mg->fE l.prog w (K w.params) mg base (CX w) k fa fd [x] (sp w))
  (hsp: ∀(w:World)(H:Hp)(a:Addr)(ns:List Int),ns.length<=n->vh H->eU (K w.params) H a (ns.map V.int)->sp w [.ref a] H (λv _=>v= .bl true) λ_ _ _=>False)
  (hCX: ∀(w:World)(H:Hp)(s:Shared)(e:Value)(s':Shared),CX w [] H s (λ_ _ _=>False) e s'->False) :
  PySem.W.WalkO q loose XP YP l.row.toRowW d [] (λf vs=>PySem.call f vs):=by
 refine Att.nO hn hdf λw s₀ s₁ mg mb fa o pm cd doc a vs ns G Y ho hd hcd hmg hobj hints hlen hg=>?_;have KX:=hY w _ Y;obtain ⟨fd,hb,hF⟩:=F w mg fa _ KX G.T.g hmg;exact wz KX G.T.g G.T.b G.T.builtins G.T.nolimit hg hobj hints (Nat.le_trans hlen hn2) hr hF hb (λH hO hS=>hsp w H a ns hlen hO hS) λH e s'=>hCX w H s₁ e s'
end L2
/- THE LAST THEOREM (shape; LID, My.* are yours):
   My.Adr: a structure of the addresses that your layer names (classes, functions); My.Txt K t: a structure (Prop) of the equations over K;
   My.txt_mk : {K} {implicit addresses ..} (e1 : nsIn K mainGlobals "law" = some (some (.ref f))) (e2 : K.lookup f = some ⟨oc, od, .func (fnOf "law" "law" params body scope dV kV doc pm an cdv ct), sl⟩) (e3 : codeIn K cdv "law" = true) .. : ∃ t, My.Txt K t
set_option maxRecDepth 100000 in
(the tactic k_is has no namespace:write k_is) -/
namespace L2
open PySem PySem.Spec PyProof.Rows
noncomputable def bS(s:Stmt):Arguments:=match s with
 | .FunctionDef _ a _ _ _ _ _ _ _ _=>a
 | _=>{ posonlyargs:=[],args:=[],vararg:=none,kwonlyargs:=[],kw_defaults:=[],kwarg:=none,defaults:=[] }
noncomputable def aX(s:Stmt):List Stmt:=match s with
 | .FunctionDef _ _ b _ _ _ _ _ _ _=>b
 | _=>[]
noncomputable def af(s:Stmt):Scope:=match s with
 | .FunctionDef _ _ _ _ _ _ sc _ _ _=>sc
 | _=>{ kind:= .function,names:=[],isGenerator:=false,isCoroutine:=false }
abbrev nI:t7:=λ_ _ _ _ _ _=>False
abbrev E0:XK:=λ_ _ _=>False
theorem FZ{X:Cx}:Passes nI X E0:=λ_ _ _ _ _ _ _ h=>h.elim
structure ue(K:PySem.W.Frag)(x qual:Str)(st:Stmt)(f:Addr)(fd:FuncData):Prop where
 ex: ∃(oc:Value)(od:Option Addr)(kV doc pm:Value)(an:Option Addr)(cdv ct:Value)(osl:Array (Option Value)),
  fd=PySem.W.fnOf x qual (bS st) (aX st) (af st) .none kV doc pm an cdv ct/\K.lookup f=some ⟨oc,od,.func fd,osl⟩/\PySem.W.codeIn K cdv qual=true
 kp:PySem.W.keepIn K (.ref f)=true
section
variable{P:Program}{w:World}{K:PySem.W.Frag}{mg:Str->Option Value}{base:Heap}
theorem ue.ok{x qual:Str}{st:Stmt}{f:Addr}{fd:FuncData}{N ps:List Str}{k:Nat}{sp:Sp}(F:ue K x qual st f fd)(S:aw N ps (af st))(len: ∀ vs H Q E,sp vs H Q E->vs.length=ps.length)
  (hbody: ∀(cdv:Value)(A:Around)(outer:List Env)(s:Shared)(H:Hp)(vs:List V)(Q:VK)(E:XK),cz k (A.deeper (envOfC qual (af st) s.heap.objs.size f cdv))->sp vs H Q E ->
   ∃ t,p7 (gE nI P w K mg base N qual (af st) f cdv A outer s H E).ll (aX st) t/\t { nx:=λ_ H'=>Q .non H',rt:=Q } (start N vs) H):fE P w K mg base nI (k+1) f fd ps sp:=by
 obtain⟨oc,od,kV,doc,pm,an,cdv,ct,osl,rfl,lk,hcd⟩:=F.ex;refine Gs lk hcd S len λA outer s H vs Q E hr hsp=>?_;obtain⟨t,h,q⟩:=hbody cdv A outer s H vs Q E hr hsp;exact⟨t,h.ll,q⟩
theorem ue.binds{x qual:Str}{st:Stmt}{f:Addr}{fd:FuncData}{ps:List Str}(F:ue K x qual st f fd)
  (h: ∀(kV doc pm:Value)(an:Option Addr)(cdv ct:Value)(us:List Value),us.length=ps.length->bindArgs (PySem.W.fnOf x qual (bS st) (aX st) (af st) .none kV doc pm an cdv ct) ⟨us,[]⟩=pure (ps.zip us)):Binds K fd ps []:=by
 obtain⟨oc,od,kV,doc,pm,an,cdv,ct,osl,rfl,lk,hcd⟩:=F.ex;exact .all (h kV doc pm an cdv ct)
theorem DL{x qual:Str}{st:Stmt}{f:Addr}{oc:Value}{od an:Option Addr}{osl:Array (Option Value)}{kV doc pm cdv ct:Value}(l:K.lookup f=some ⟨oc,od,.func (PySem.W.fnOf x qual (bS st) (aX st) (af st) .none kV doc pm an cdv ct),osl⟩)
  (c:PySem.W.codeIn K cdv qual=true) (k:PySem.W.keepIn K (.ref f)=true):ue K x qual st f (PySem.W.fnOf x qual (bS st) (aX st) (af st) .none kV doc pm an cdv ct):=⟨⟨oc,od,kV,doc,pm,an,cdv,ct,osl,rfl,l,c⟩,k⟩
end
theorem EK{A:Around}{k:Nat}(hr:cz k A):A.units+1 < cLine:=Nat.lt_of_le_of_lt (Nat.add_le_add_left (by decide:1<=64) _) hr.units
noncomputable def gu(H H':Hp):Prop:= ∀ b o,H b=some o->H' b=some o
theorem gu.refl(H:Hp):gu H H:=λ_ _ h=>h
theorem gu.trans{H H1 H2:Hp}(a:gu H H1)(b:gu H1 H2):gu H H2:=λc o h=>b c o (a c o h)
theorem gu.free{H H':Hp}(e:gu H H'){l:Addr}(h:H' l=Option.none):H l=Option.none:=by
 cases q:H l with
 | none=>rfl
 | some o =>
  rw[e l o q] at h
  cases h
theorem gu.seq{K:PySem.W.Frag}{H H':Hp}{a:Addr}{xs:List V}(e:gu H H')(h:eU K H a xs):eU K H' a xs:=by
 rcases h with(h | ⟨o,h⟩) | h
 . exact .inl (.inl (e _ _ h))
 . exact .inl (.inr ⟨o,e _ _ h⟩)
 . exact .inr h
open PySem PySem.W PyProof.Rows
section
variable{κ :Type}[DecidableEq κ]
noncomputable def eW(kvs:List (κ × V))(k: κ):Option V:=(kvs.find? λkv=>decide (kv.1=k)).map (·.2)
noncomputable def putK(kvs:List (κ × V))(k: κ)(v:V):List (κ × V) :=
 if (kvs.any λkv=>decide (kv.1=k))=true then kvs.map (λkv=>if kv.1=k then(kv.1,v) else kv) else kvs++[(k,v)]
theorem kH{p: κ × V}{r:List (κ × V)}{k: κ}(e:p.1=k):eW (p::r) k=some p.2:=by simp[eW,List.find?_cons,e]
theorem ki{p: κ × V}{r:List (κ × V)}{k: κ}(e: ¬ p.1=k):eW (p::r) k=eW r k:=by simp[eW,List.find?_cons,e]
theorem og(k: κ): ∀ kvs:List (κ × V),(kvs.any λkv=>decide (kv.1=k))=(eW kvs k).isSome
 | []=>rfl
 | p::r=>by
  rw[List.any_cons];by_cases e:p.1=k
  . simp only[kH e,decide_eq_true e,Bool.true_or,Option.isSome_some]
  . rw[ki e,decide_eq_false e,Bool.false_or];exact og k r
theorem fz(kvs:List (κ × V))(k: κ)(v:V):(putK kvs k v).length<=kvs.length+1:=by
 unfold putK;split
 . rw[List.length_map];omega
 . rw[List.length_append,List.length_cons,List.length_nil];omega
theorem je.eQ{o:Option V}{u:Option Value}(r:je o u):o.isSome=u.isSome:=by
 cases o with
 | none=>cases u with
  | none=>rfl
  | some _=>exact(show False from r).elim
 | some _=>cases u with
  | none=>exact(show False from r).elim
  | some _=>rfl
theorem je.getD{o:Option V}{u:Option Value}{d:V}{d':Value}(r:je o u)(rd:RelV d d'):RelV (o.getD d) (u.getD d'):=by
 cases o with
 | none=>cases u with
  | none=>exact rd
  | some _=>exact(show False from r).elim
 | some _=>cases u with
  | none=>exact(show False from r).elim
  | some _=>exact r
theorem KV.val{kvs:List (κ × V)}{vs:List (κ × Value)}(r:KV kvs vs)(k: κ):je (eW kvs k) (valueAt vs k):=by
 unfold KV at r
 induction r with
 | nil=>exact True.intro
 | @cons p q ps qs h t ih =>
  obtain⟨h1,h2⟩:=h
  by_cases e:p.1=k
  . have e':q.1=k:=h1.symm.trans e;have b:valueAt (q::qs) k=some q.2:=by simp[valueAt,List.find?_cons,e']
    rw[kH e,b];exact h2
  . have e': ¬ q.1=k:=λz=>e (h1.trans z);have b:valueAt (q::qs) k=valueAt qs k:=by simp[valueAt,List.find?_cons,e']
    rw[ki e,b];exact ih
theorem KV.any{kvs:List (κ × V)}{vs:List (κ × Value)}(r:KV kvs vs)(k: κ):(kvs.any λkv=>decide (kv.1=k))=vs.any λkv=>decide (kv.1=k):=by
 unfold KV at r
 induction r with
 | nil=>rfl
 | cons h t ih=>rw[List.any_cons,List.any_cons,ih,h.1]
theorem KV.Dw{kvs:List (κ × V)}{vs:List (κ × Value)}(r:KV kvs vs)(k: κ){y:V}{u:Value}(ry:RelV y u) :
  KV (kvs.map λkv=>if kv.1=k then(kv.1,y) else kv) (vs.map λkv=>if kv.1=k then(kv.1,u) else kv):=by
 unfold KV at r ⊢
 induction r with
 | nil=>exact .nil
 | @cons p q ps qs h t ih =>
  rw[List.map_cons,List.map_cons]
  refine .cons ?_ ih
  obtain⟨h1,h2⟩:=h
  by_cases e:p.1=k
  . rw[if_pos e,if_pos (h1.symm.trans e)];exact⟨h1,ry⟩
  . rw[if_neg e,if_neg (λz=>e (h1.trans z))];exact⟨h1,h2⟩
theorem KV.put{kvs:List (κ × V)}{vs:List (κ × Value)}(r:KV kvs vs)(k: κ){y:V}{u:Value}(ry:RelV y u):KV (putK kvs k y) (stored vs k u):=by
 unfold putK stored;rw[r.any k];by_cases e:(vs.any λkv=>decide (kv.1=k))=true
 . rw[if_pos e,if_pos e];exact r.Dw k ry
 . rw[if_neg e,if_neg e];exact Paired.snoc r ⟨rfl,ry⟩
theorem KV.keys{kvs:List (κ × V)}{vs:List (κ × Value)}(r:KV kvs vs):kvs.map (·.1)=vs.map (·.1):=by
 unfold KV at r
 induction r with
 | nil=>rfl
 | cons h t ih=>rw[List.map_cons,List.map_cons,ih,h.1]
theorem KV.length{kvs:List (κ × V)}{vs:List (κ × Value)}(r:KV kvs vs):kvs.length=vs.length:=Paired.length r
end
theorem jx{P:Program}{w:World}{k:Key}{u:Value}(r:RelV (kV k) u):(aE P w).is k u=true:=by
 cases k with
 | inl i=>obtain⟨t,e⟩:=(show ∃ t,u=Value.int i t from r);subst e;exact oC P w i t
 | inr x=>obtain⟨t,e⟩:=(show ∃ t,u=Value.str x t from r);subst e;exact n4 P w x t
theorem lX{P:Program}{w:World}: ∀{ks:List Key}{us:List Value},Vals (ks.map kV) us->ItemsAre (aE P w) ks us
 | [],_,r=>by rw[List.map_nil] at r;cases r;exact .nil
 | k::ks,_,r=>by
  rw[List.map_cons] at r;cases r with
  | cons h t=>exact .cons (jx h) (lX t)
abbrev KT(H:Hp):List (List Key × V)->List (List Key × Addr × Value)->Prop:=Paired λp q=>p.1=q.1/\H q.2.1=some (.tup (p.1.map kV))/\RelV p.2 q.2.2
theorem KT.val{H:Hp}{kvs:List (List Key × V)}{xs:List (List Key × Addr × Value)}(r:KT H kvs xs)(k:List Key):je (eW kvs k) ((atKey xs k).map (·.2)):=by
 induction r with
 | nil=>exact True.intro
 | @cons p q ps qs h t ih =>
  obtain⟨h1,_,h2⟩:=h
  by_cases e:p.1=k
  . have e':q.1=k:=h1.symm.trans e;have b:atKey (q::qs) k=some q.2:=by simp[atKey,List.find?_cons,e']
    rw[kH e,b];exact h2
  . have e': ¬ q.1=k:=λz=>e (h1.trans z);have b:atKey (q::qs) k=atKey qs k:=by simp[atKey,List.find?_cons,e']
    rw[ki e,b];exact ih
theorem KT.Dw{H:Hp}{kvs:List (List Key × V)}{xs:List (List Key × Addr × Value)}(r:KT H kvs xs)(k:List Key){y:V}{u:Value}(ry:RelV y u) :
  KT H (kvs.map λkv=>if kv.1=k then(kv.1,y) else kv) (xs.map (putAt k u)):=by
 induction r with
 | nil=>exact .nil
 | @cons p q ps qs h t ih =>
  rw[List.map_cons,List.map_cons]
  refine .cons ?_ ih
  obtain⟨h1,h2,h3⟩:=h
  unfold putAt
  by_cases e:p.1=k
  . rw[if_pos e,if_pos (h1.symm.trans e)];exact⟨h1,h2,ry⟩
  . rw[if_neg e,if_neg (λz=>e (h1.trans z))];exact⟨h1,h2,h3⟩
theorem KT.put{H:Hp}{kvs:List (List Key × V)}{xs:List (List Key × Addr × Value)}(r:KT H kvs xs)(k:List Key){b:Addr}{y:V}{u:Value}(hb:H b=some (.tup (k.map kV)))(ry:RelV y u) :
  KT H (putK kvs k y) (storedH xs k b u):=by
 have e:(kvs.any λkv=>decide (kv.1=k))=(atKey xs k).isSome:=by
  rw[og,(r.val k).eQ,Option.isSome_map]
 unfold putK storedH;rw[e];by_cases q:(atKey xs k).isSome=true
 . rw[if_pos q,if_pos q];exact r.Dw k ry
 . rw[if_neg q,if_neg q];exact Paired.snoc r ⟨rfl,hb,ry⟩
theorem KT.keeps{H H':Hp}{kvs:List (List Key × V)}{xs:List (List Key × Addr × Value)}(r:KT H kvs xs)(ht: ∀ b ys,H b=some (.tup ys)->H' b=some (.tup ys)):KT H' kvs xs :=
 Paired.tE r λ_ _ z=>⟨z.1,ht _ _ z.2.1,z.2.2⟩
section
variable{P:Program}{w:World}{H:Hp}{h:Heap}{a:Addr}
theorem AJ{u:HO}(ok:gv P w H h)(e:Rd H a u):aP P w H h a u:=e.ok ok
theorem jr{kvs:List (Key × V)}(ok:gv P w H h)(e:Rd H a (.dK kvs)):kvs.length<=sizeLine/\(a == sysModules)=false/\ ∃ vs,KV kvs vs/\h.DictOf (aE P w) a vs :=
 show aP P w H h a (.dK kvs) from AJ ok e
theorem nX{kvs:List (Key × V)}(ok:gv P w H h)(e:H a=some (.dK kvs)):kvs.length<=sizeLine/\(a == sysModules)=false/\ ∃ vs,KV kvs vs/\h.DictOf (aE P w) a vs:=jr ok (.inl e)
theorem iB{ks:List Key}(ok:gv P w H h)(e:H a=some (.tup (ks.map kV))):(tupleKind (aE P w)).is h ks a:=by
 obtain⟨_,ak,r,o,h1,h2,n,h3,_⟩:=(show aP P w H h a (.tup (ks.map kV)) from ok a _ e)
 exact⟨o,ak.toArray,n,h1,h2,h3,by simpa using lX r⟩
theorem kO{kvs:List (List Key × V)}(ok:gv P w H h)(e:Rd H a (.dT kvs)):kvs.length<=sizeLine/\(a == sysModules)=false /\
  ∃ xs,KT H kvs xs/\h.DictOfH (tupleKind (aE P w)) a xs:=by
 obtain⟨z,y,xs,r,o,es,ep,h1,h2,h3,h4,h5⟩:=(show aP P w H h a (.dT kvs) from AJ ok e)
 refine⟨z,y,xs,r,o,es,ep,h1,h2,h3,h4,λx hx=>?_,h5⟩;have all: ∀{l:List (List Key × V)}{m:List (List Key × Addr × Value)},KT H l m-> ∀ x∈m,(tupleKind (aE P w)).is h x.1 x.2.1:=by
  intro l m q
  induction q with
  | nil=>intro x hx;exact nomatch hx
  | @cons p q ps qs hq t ih =>
   intro x hx
   rcases List.mem_cons.mp hx with e | hx
   . subst e;exact iB ok (by rw[<- hq.1];exact hq.2.1)
   . exact ih x hx
 exact all r x hx
theorem Gm{kvs:List (List Key × V)}(ok:gv P w H h)(e:H a=some (.dT kvs)):kvs.length<=sizeLine/\(a == sysModules)=false /\
  ∃ xs,KT H kvs xs/\h.DictOfH (tupleKind (aE P w)) a xs:=kO ok (.inl e)
end
noncomputable def gp(H:Hp)(a:Addr)(y:V)(r:Option V):Prop :=
 (∃ kvs k,Rd H a (.dK kvs)/\y=kV k/\r=eW kvs k)\/ ∃ kvs k b,Rd H a (.dT kvs)/\y= .ref b/\H b=some (.tup (k.map kV))/\r=eW kvs k
noncomputable def p8(H:Hp)(a:Addr)(y v:V)(H':Hp):Prop :=
 (∃ kvs k,H a=some (.dK kvs)/\y=kV k/\kvs.length < sizeLine/\H'=upd H a (.dK (putK kvs k v))) \/
 ∃ kvs k b,H a=some (.dT kvs)/\y= .ref b/\H b=some (.tup (k.map kV))/\kvs.length < sizeLine/\H'=upd H a (.dT (putK kvs k v))
theorem gp.k{H:Hp}{a:Addr}{kvs:List (Key × V)}{k:Key}(e:H a=some (.dK kvs)):gp H a (kV k) (eW kvs k):= .inl ⟨kvs,k,.inl e,rfl,rfl⟩
theorem gp.t{H:Hp}{a b:Addr}{kvs:List (List Key × V)}{k:List Key}(e:H a=some (.dT kvs))(eb:H b=some (.tup (k.map kV))):gp H a (.ref b) (eW kvs k):= .inr ⟨kvs,k,b,.inl e,rfl,eb,rfl⟩
theorem p8.k{H:Hp}{a:Addr}{kvs:List (Key × V)}{k:Key}{v:V}(e:H a=some (.dK kvs))(hl:kvs.length < sizeLine):p8 H a (kV k) v (upd H a (.dK (putK kvs k v))):= .inl ⟨kvs,k,e,rfl,hl,rfl⟩
theorem p8.t{H:Hp}{a b:Addr}{kvs:List (List Key × V)}{k:List Key}{v:V}(e:H a=some (.dT kvs))(eb:H b=some (.tup (k.map kV)))(hl:kvs.length < sizeLine) :
  p8 H a (.ref b) v (upd H a (.dT (putK kvs k v))):= .inr ⟨kvs,k,b,e,rfl,eb,hl,rfl⟩
section
variable{X:Cx}{pins:List (Addr × Obj)}{σ :St}{H:Hp}{s:Shared}{a:Addr}{y v:V}{u r:Value}{o:Option V}{A:Around}{E:Value->Shared->Prop}
theorem Inv.big(I:Inv X pins σ H s):sysModules < s.heap.objs.size:=by
 have h:mainGlobals < s.heap.objs.size:=(I.mod.glob.keeps I.bk).lt;exact Nat.lt_trans (by decide) h
theorem sf{Q:Value->Shared->Prop}(hu:A.units+1 < cLine)(I:Inv X pins σ H s)(g:gp H a y (some v))(ry:RelV y u)(h: ∀ w' s',Inv X pins σ H s'->RelV v w'->Q w' s') :
  wpAny (model X.prog X.w) A (getItem (.ref a) u) Q E s:=by
 rcases g with⟨kvs,k,e,ey,l⟩ | ⟨kvs,k,b,e,ey,eb,l⟩
 . subst ey;obtain⟨z,hd,vs,rel,dd⟩:=jr I.bc e;obtain⟨w',hw,rw'⟩:=je.some_of (v:=v) (o:=valueAt vs k) (by rw[l];exact rel.val k);exact wpAny_getItem_of (jx ry) dd.mapOf hw (h w' _ (I.tok _) rw')
 . subst ey;cases(show u=Value.ref b from ry);obtain⟨z,hd,xs,rel,dd⟩:=kO I.bc e;obtain⟨w',hw,rw'⟩:=je.some_of (v:=v) (o:=(atKey xs k).map (·.2)) (by rw[l];exact rel.val k)
   obtain⟨p,hp,hp2⟩:=Option.map_eq_some_iff.mp hw;refine wpAny_getItem_heap (tupleKind_room_in1 hu) (iB I.bc eb) dd hp ?_;rw[hp2];exact h w' _ (I.tok _) rw'
theorem HE{Q:Value->Shared->Prop}(hu:A.units+1 < cLine)(I:Inv X pins σ H s)(g:gp H a y o)(ry:RelV y u)(h: ∀ s',Inv X pins σ H s'->Q (.bool o.isSome) s') :
  wpAny (model X.prog X.w) A (compareOp .In u (.ref a)) Q E s:=by
 rcases g with⟨kvs,k,e,ey,l⟩ | ⟨kvs,k,b,e,ey,eb,l⟩
 . subst ey;obtain⟨z,hd,vs,rel,dd⟩:=jr I.bc e;refine wpAny_in_of (jx ry) hd dd.mapOf ?_;rw[<- (rel.val k).eQ,<- l];exact h _ (I.tok _)
 . subst ey;cases(show u=Value.ref b from ry);obtain⟨z,hd,xs,rel,dd⟩:=kO I.bc e;refine wpAny_in_heap (tupleKind_room_in1 hu) (iB I.bc eb) hd dd ?_;have q:=(rel.val k).eQ;rw[Option.isSome_map] at q;rw[<- q,<- l];exact h _ (I.tok _)
theorem zH{Q:Value->Shared->Prop}(hu:A.units+1 < cLine)(I:Inv X pins σ H s)(g:gp H a y o)(ry:RelV y u)(h: ∀ s',Inv X pins σ H s'->Q (.bool (!o.isSome)) s') :
  wpAny (model X.prog X.w) A (compareOp .NotIn u (.ref a)) Q E s:=by
 rcases g with⟨kvs,k,e,ey,l⟩ | ⟨kvs,k,b,e,ey,eb,l⟩
 . subst ey;obtain⟨z,hd,vs,rel,dd⟩:=jr I.bc e;refine wpAny_notIn_of (jx ry) hd dd.mapOf ?_;rw[<- (rel.val k).eQ,<- l];exact h _ (I.tok _)
 . subst ey;cases(show u=Value.ref b from ry);obtain⟨z,hd,xs,rel,dd⟩:=kO I.bc e;refine wpAny_notIn_heap (tupleKind_room_in1 hu) (iB I.bc eb) hd dd ?_;have q:=(rel.val k).eQ;rw[Option.isSome_map] at q;rw[<- q,<- l];exact h _ (I.tok _)
theorem mF{h':Heap}{t':Nat}{ob:HO}(I:Inv X pins σ H s)(mu:FW (H a))(hs:Heap.SameBut a s.heap h')(he: ∃ q,h'.get? a=some q)(new:aP X.prog X.w (upd H a ob) h' a ob) :
  Inv X pins σ (upd H a ob) { s with heap:=h',toks:=t' } :=
 I.write (x:=a) (e:=a) mu (.inl rfl) (λb q hb z=>(hs.2 b hb).trans z) he new
theorem nA{P:Program}{w:World}{H':Hp}{h':Heap}{kvs:List (Key × V)}{vs:List (Key × Value)}(z:kvs.length<=sizeLine)(hd:(a == sysModules)=false)(rel:KV kvs vs)(dd:h'.DictOf (aE P w) a vs) :
  aP P w H' h' a (.dK kvs):=⟨z,hd,vs,rel,dd⟩
theorem tW{H':Hp}{Q:Unit->Shared->Prop}(hu:A.units+1 < cLine)(I:Inv X pins σ H s)(g:p8 H a y v H')(ry:RelV y u)(rv:RelV v r)(h: ∀ s',Inv X pins σ H' s'->Q () s') :
  wpAny (model X.prog X.w) A (setItem (.ref a) u r) Q E s:=by
 rcases g with⟨kvs,k,e,ey,l,eH⟩ | ⟨kvs,k,b,e,ey,eb,l,eH⟩
 . subst ey eH;obtain⟨z,hd,vs,rel,dd⟩:=nX I.bc e;have hz:vs.length<=sizeLine:=by rw[<- rel.length];exact z
   have hl:(putK kvs k v).length<=sizeLine:=by have:=fz kvs k v;omega
   refine wpAny_setItem_pairs (hsz:=hz) (jx ry) dd λh' dd' hs=>h _ ?_;have he: ∃ q,h'.get? a=some q:=let ⟨q,_,_,hq,_⟩:=dd';⟨q,hq⟩
   exact mF I (by rw[e];exact True.intro) hs he (nA hl hd (rel.put k rv) dd')
 . subst ey eH;cases(show u=Value.ref b from ry);obtain⟨z,hd,xs,rel,dd⟩:=Gm I.bc e;have hz:xs.length<=sizeLine:=by rw[<- Paired.length rel];exact z
   have hl:(putK kvs k v).length<=sizeLine:=by have:=fz kvs k v;omega
   refine wpAny_setItem_heap (hsz:=hz) (tupleKind_room_in1 hu) (iB I.bc eb) dd λh' dd' hs=>h _ ?_;obtain⟨q,es,ep,hq,h2,h3,h4,_,h5⟩:=dd';refine mF I (by rw[e];exact True.intro) hs ⟨q,hq⟩ ⟨hl,hd,_,(rel.put k eb rv).keeps λc ys ec=>?_,q,es,ep,hq,h2,h3,h4,h5⟩;rw[ay (lU ec e (λz=>nomatch z))];exact ec
end
section
variable{X:Cx}{pins:List (Addr × Obj)}{σ :St}{H:Hp}{s:Shared}{a:Addr}{kvs:List (Key × V)}{k:Key}{u:Value}{A:Around}{E:Value->Shared->Prop}
theorem Fi{Q:Value->Shared->Prop}(I:Inv X pins σ H s)(e:Rd H a (.dK kvs))(h: ∀ t s',Inv X pins σ H s'->Q (.int kvs.length t) s'):wpAny (model X.prog X.w) A (call (.builtin "len") [.ref a]) Q E s:=by
 obtain⟨z,hd,vs,rel,dd⟩:=jr I.bc e;refine call_len_dict hd dd (by rw[<- rel.length];rw[sizeLine_eq] at z;omega) ?_;rw[<- rel.length];exact h _ _ (I.tok _)
end
theorem oA{X:Cx}{pins:List (Addr × Obj)}{σ :St}{H:Hp}{s:Shared}{a:Addr}{y:V}{o:Option V}(I:Inv X pins σ H s)(g:gp H a y o):s.TypeIs (.ref a) "dict" :=by
 rcases g with⟨kvs,k,e,_,_⟩ | ⟨kvs,k,b,e,_,_,_⟩
 . obtain⟨_,_,vs,_,dd⟩:=jr I.bc e;exact dd.typeIs
 . obtain⟨_,_,xs,_,dd⟩:=kO I.bc e;exact dd.typeIs
theorem oq{P:Program}{w:World}{H:Hp}(h:Heap)(hb:sysModules < h.objs.size):aP P w H (h.push { cls:= .type "dict",data:= .dict #[] }) h.objs.size (.dK []) :=
 ⟨Nat.zero_le _,beq_eq_false_iff_ne.mpr (Ne.symm (Nat.ne_of_lt hb)),[],.nil,Heap.DictOf.new h⟩
noncomputable def wW:TE:=λ_ H Q=> ∀ p,H p=none->Q (.ref p) (upd H p (.dK []))
section
variable{X:Cx}{pos:Pos}
theorem wV:PE X (.Dict [] [] pos) wW:=λpins s σ H Q I h =>
 wpAny_Dict_empty ⟨.ref s.heap.objs.size,_,I.laid (a:=s.heap.objs.size) (o:= .dK []) (t':=s.toks) (λ_ _ q=>Heap.get?_push_of_some _ q) (Nat.le_refl _) (oq s.heap I.big),rfl,h _ (I.bc.fresh (Nat.le_refl _))⟩
end
noncomputable def iX:List (TE × TE)->St->Hp->(List (V × V)->Hp->Prop)->Prop
 | [],_,H,Q=>Q [] H
 | (tk,tv)::r, σ,H,Q=>tk σ H λx H1=>tv σ H1 λy H2=>iX r σ H2 λps H3=>Q ((x,y)::ps) H3
abbrev VV:List (V × V)->List (Value × Value)->Prop:=Paired λp q=>RelV p.1 q.1∧RelV p.2 q.2
noncomputable def FR (X:Cx) (pos:Pos) (keys:List (Option Expr)) (values:List Expr) (trs:List (TE × TE)):Prop :=
 ∀ (pins:List (Addr × Obj)) (s:Shared) (σ :St) (H:Hp) (Q:List (V × V)->Hp->Prop),Inv X pins σ H s->iX trs σ H Q ->
  wpAny (model X.prog X.w) X.A (evalPairs (pairTrees keys values X.env pos)) (λvs s'=> ∃ ps H',Inv X pins σ H' s'/\VV ps vs/\Q ps H') X.xe s
theorem zM{X:Cx}{pos:Pos}:FR X pos [] [] []:=λpins s σ H Q I h=>pairTrees_nil_walk ⟨[],H,I,.nil,h⟩
theorem vI{X:Cx}{pos:Pos}{k v:Expr}{ks:List (Option Expr)}{vs:List Expr}{tk tv:TE}{trs:List (TE × TE)}(hk:PE X k tk)(hv:PE X v tv)(hr:FR X pos ks vs trs) :
  FR X pos (some k::ks) (v::vs) ((tk,tv)::trs):=λpins s σ H Q I h =>
 pairTrees_cons_walk (cA (hk pins s σ H _ I h) λu s1 ⟨x,H1,I1,rx,q1⟩=>cA (hv pins s1 σ H1 _ I1 q1) λw2 s2 ⟨y,H2,I2,ry,q2⟩ =>
  cA (hr pins s2 σ H2 _ I2 q2) λws s3 ⟨ps,H3,I3,rel,q3⟩=>⟨(x,y)::ps,H3,I3,.cons ⟨rx,ry⟩ rel,q3⟩)
noncomputable def bX(kvs more:List (Key × V)):List (Key × V):=more.foldl (λacc kv=>putK acc kv.1 kv.2) kvs
theorem KV.merge: ∀{more:List (Key × V)}{rs:List (Key × Value)}{kvs:List (Key × V)}{vs:List (Key × Value)},KV more rs->KV kvs vs->KV (bX kvs more) (merged vs rs):=by
 intro more rs kvs vs r;unfold KV at r
 induction r generalizing kvs vs with
 | nil=>intro q;exact q
 | @cons p q ps qs h t ih =>
  intro r0
  have e:KV (putK kvs p.1 p.2) (stored vs q.1 q.2):=by
   have:=r0.put p.1 h.2;rw[<- h.1];exact this
  exact ih e
theorem cV: ∀(more kvs:List (Key × V)),(bX kvs more).length<=kvs.length+more.length
 | [],kvs=>by show kvs.length<=kvs.length+0;omega
 | p::r,kvs=>by
  have h1:=cV r (putK kvs p.1 p.2);have h2:=fz kvs p.1 p.2;show(bX (putK kvs p.1 p.2) r).length<=_;rw[List.length_cons];omega
theorem kA{P:Program}{w:World}: ∀{kvs:List (Key × V)}{ws:List (Value × Value)},VV (kvs.map λkv=>(kV kv.1,kv.2)) ws-> ∃ rs,Carries (aE P w) ws rs/\KV kvs rs
 | [],_,r=>by rw[List.map_nil] at r;cases r;exact⟨[],True.intro,.nil⟩
 | p::kvs,_,r=>by
  rw[List.map_cons] at r;cases r with
  | @cons a b as bs h t =>
   obtain⟨rs,c,q⟩:=kA (P:=P) (w:=w) t
   obtain⟨b1,b2⟩:=b
   exact⟨(p.1,b2)::rs,⟨jx h.1,rfl,c⟩,.cons ⟨rfl,h.2⟩ q⟩
noncomputable def Ay(trs:List (TE × TE)):TE:=fun σ H Q=> ∀ p,H p=none->iX trs σ (upd H p (.dK [])) λps H2=>H2 p=some (.dK [])/\ ∃ kvs:List (Key × V),ps=kvs.map (λkv=>(kV kv.1,kv.2))/\kvs.length<=15/\Q (.ref p) (upd H2 p (.dK (bX [] kvs)))
theorem zJ{X:Cx}{pos:Pos}{keys:List (Option Expr)}{values:List Expr}{trs:List (TE × TE)}(h:FR X pos keys values trs)(hall:keys.all (·.isSome)=true)(hl:keys.length=values.length)(h0:keys≠[])
  (h15:keys.length<=15):PE X (.Dict keys values pos) (Ay trs):=by
 intro pins s σ H Q I q;have hn:=I.bc.fresh (Nat.le_refl s.heap.objs.size);have I1:=I.laid (a:=s.heap.objs.size) (o:= .dK []) (h':=s.heap.push { cls:= .type "dict",data:= .dict #[] }) (t':=s.toks) (λ_ _ q=>Heap.get?_push_of_some _ q) (Nat.le_refl _) (oq s.heap I.big);refine wpAny_Dict_walk (knd:=aE X.prog X.w) hall hl h0 h15 (cA (h pins _ σ _ _ I1 (q _ hn)) λws s2 ⟨ps,H2,I2,rel,e,kvs,ep,lk,q2⟩=>?_);subst ep;obtain⟨rs,c,rk⟩:=kA (P:=X.prog) (w:=X.w) rel;obtain⟨z,hd,vs0,r0,dd⟩:=nX I2.bc e;cases r0;refine⟨rs,c,dd,λh' dd' hs=>⟨.ref s.heap.objs.size,_,?_,rfl,q2⟩⟩;have hz:(bX [] kvs).length<=sizeLine:=by
  have h1:=cV kvs [];rw[List.length_nil] at h1;rw[sizeLine_eq];omega
 have he: ∃ q,h'.get? s.heap.objs.size=some q:=let ⟨q,_,_,hq,_⟩:=dd';⟨q,hq⟩
 exact mF I2 (by rw[e];exact True.intro) hs he (nA hz hd (rk.merge .nil) dd')
structure M1(X:Cx)(o:Expr)(m:Str)(apos:Pos)(e:Expr)(cpos:Pos):Prop where
 base:attributeBase o m X.env (eval o X.env)=eval o X.env
 iw:((backTo cpos (starEach [e] X.env)).all (λx=> !x.1)&&(backToKw cpos (keywordEach [] X.env)).all (λx=>x.1.isSome)
  && decide (([e]:List Expr).length+([]:List Keyword).length+(if ([]:List Keyword).isEmpty then 0 else 1) < 30))=true
 line:(apos.endLine == cpos.line)=true
 trees:backTo cpos (starEach [e] X.env)=[(false,eval e X.env)]
structure M2(X:Cx)(o:Expr)(m:Str)(apos:Pos)(e f:Expr)(cpos:Pos):Prop where
 base:attributeBase o m X.env (eval o X.env)=eval o X.env
 iw:((backTo cpos (starEach [e,f] X.env)).all (λx=> !x.1)&&(backToKw cpos (keywordEach [] X.env)).all (λx=>x.1.isSome)
  && decide (([e,f]:List Expr).length+([]:List Keyword).length+(if ([]:List Keyword).isEmpty then 0 else 1) < 30))=true
 line:(apos.endLine == cpos.line)=true
 trees:backTo cpos (starEach [e,f] X.env)=[(false,eval e X.env),(false,eval f X.env)]
noncomputable def IU(H:Hp)(a:Addr):Prop:=(∃ kvs,Rd H a (.dK kvs))\/ ∃ kvs,Rd H a (.dT kvs)
theorem CW{X:Cx}{pins:List (Addr × Obj)}{σ :St}{H:Hp}{s:Shared}{a:Addr}(I:Inv X pins σ H s)(d:IU H a) :
  s.TypeIs (.ref a) "dict" /\(∀ b,Value.ref a= .ref b-> ∃ ob,s.heap.get? b=some ob/\ob.dict=none)/\(a == sysModules)=false:=by
 rcases d with⟨kvs,e⟩ | ⟨kvs,e⟩
 . obtain⟨_,hd,vs,_,dd⟩:=jr I.bc e;refine⟨dd.typeIs,λb q=>?_,hd⟩;cases q;obtain⟨ob,_,_,h1,h2,_⟩:=dd;exact⟨ob,h1,h2.2.1⟩
 . obtain⟨_,hd,xs,_,dd⟩:=kO I.bc e;refine⟨dd.typeIs,λb q=>?_,hd⟩;cases q;obtain⟨ob,_,_,h1,h2,_⟩:=dd;exact⟨ob,h1,h2.2.1⟩
section
variable{X:Cx}{pins:List (Addr × Obj)}{σ :St}{H:Hp}{s:Shared}{a:Addr}{y d:V}{u r:Value}{o:Option V}{A:Around}{E:Value->Shared->Prop}
theorem C2{Q:Value->Shared->Prop}(hu:A.units+1 < cLine)(I:Inv X pins σ H s)(g:gp H a y o)(ry:RelV y u)(rd:RelV d r)(h: ∀ w' s',Inv X pins σ H s'->RelV (o.getD d) w'->Q w' s') :
  wpAny (model X.prog X.w) A (call (.builtin "dict.get") [.ref a,u,r]) Q E s:=by
 rcases g with⟨kvs,k,e,ey,l⟩ | ⟨kvs,k,b,e,ey,eb,l⟩
 . subst ey;obtain⟨z,hd,vs,rel,dd⟩:=jr I.bc e;refine call_meetsIn PySem.F.slot_dict_get dd.typeIs PySem.F.entry_dict_get (PySem.F.args_dict_get_3 _ _ _) (meets_dict_get_default (aE X.prog X.w) a (jx ry) hd r) ⟨_,dd.mapOf,h _ _ (I.tok _) ?_⟩;rw[l];exact(rel.val k).getD rd
 . subst ey;cases(show u=Value.ref b from ry);obtain⟨z,hd,xs,rel,dd⟩:=kO I.bc e;refine call_meetsIn PySem.F.slot_dict_get dd.typeIs PySem.F.entry_dict_get (PySem.F.args_dict_get_3 _ _ _) (meetsH_dict_get_default (tupleKind (aE X.prog X.w)) a b hd r) ⟨tupleKind_room_in1 hu,k,xs,iB I.bc eb,dd,h _ _ (I.tok _) ?_⟩;rw[l];exact(rel.val k).getD rd
end
noncomputable def vw(td ty tx:TE):TE:=fun σ H Q=>td σ H λx H1=> ∃ a,x= .ref a/\IU H1 a/\ty σ H1 λy H2=>tx σ H2 λz H3=> ∃ o,gp H3 a y o/\Q (o.getD z) H3
section
variable{X:Cx}{o e f:Expr}{apos cpos:Pos}{td ty tx:TE}
theorem uo(hu:X.A.units+1 < cLine)(ho:PE X o td)(he:PE X e ty)(hf:PE X f tx)(m:M2 X o "get" apos e f cpos):PE X (.Call (.Attribute o "get" apos) [e,f] [] cpos) (vw td ty tx):=by
 intro pins s σ H Q I h;refine wpAny_Call_method m.base m.iw m.line PySem.F.plainAttrs_dict PySem.F.slot_dict_get PySem.F.type_dict_get (cA (ho pins s σ H _ I h) λu s1 ⟨x,H1,I1,rx,a,ex,d,q1⟩=>?_);subst ex;obtain rfl:u=Value.ref a:=rx;obtain⟨t1,t2,_⟩:=CW I1 d;refine⟨t1,t2,?_⟩;rw[m.trees];refine Calls.callWith_builtin rfl (Calls.evalArgs_plain (Calls.spliced_cons (cA (he pins s1 σ H1 _ I1 q1) λiv s2 ⟨y,H2,I2,ry,q2⟩ =>
  Calls.spliced_cons (cA (hf pins s2 σ H2 _ I2 q2) λfv s3 ⟨z,H3,I3,rz,ov,g,q3⟩=>Calls.spliced_nil ?_))))
 exact C2 hu I3 g ry rz λw' s4 I4 rw'=>⟨_,H3,I4,rw',q3⟩
end
section
variable{X:Cx}
theorem tD:aM X (.builtin "len") (λxs H Q=> ∃ a kvs,xs=[V.ref a]/\H a=some (.dK kvs)/\Q (.int kvs.length) H):=by
 intro pins s σ H xs us Q I r h;obtain⟨a,kvs,rfl,ha,q⟩:=h;obtain⟨u,rfl,ru⟩:=vals1 r;cases ru;exact Fi I (.inl ha) λt s' I'=>⟨.int kvs.length,H,I',⟨t,rfl⟩,q⟩
end
noncomputable def mask(n:Str):Str:=⟨n.cps.push 0⟩
noncomputable def fu(sc fn:List (Str × NameKind))(N vars:List Str):Bool :=
 sc.all (λp=>p.2 != .cell&&(p.2 != .free||(fn.lookup p.1 == some .cell||fn.lookup p.1 == some .free))&&(p.2 != .local||sc.lookup p.1 == some .local)) &&
 N.all (λn=>vars.contains n||sc.lookup n !=some .local)&&vars.all (λv=>sc.lookup (mask v) == none)
noncomputable def nG (N vars:List Str):List Str:=N.map (λn=>if vars.contains n then mask n else n)++vars
noncomputable def dS (X:Cx) (vars:List Str) (scope:Scope) (cl:List (Str × Addr)) (C:Addr) (s₀ :Shared) (H₀ :Hp) (ex:List Addr) (pn:List (Addr × Obj)):Cx :=
 { X with N:=nG X.N vars,env:=compEnvC scope cl C X.env,s₀ :=s₀,H₀ :=H₀,outer:=X.stack,ex:=ex,fn:=λ_=>false,pn:=pn }
theorem gx (f : Str -> NameKind -> NameKind) (x : Str) : ∀ names : List (Str × NameKind), (names.map λp => (p.1, f p.1 p.2)).lookup x = (names.lookup x).map (f x)
  | [] => rfl
  | p :: r => by
    have ih := gx f x r;rw [List.map_cons, List.lookup_cons, List.lookup_cons, ih];cases q : x == p.1 with
    | true => obtain rfl : x = p.1 := by simpa using q
              rfl
    | false => rfl
theorem fN {env:Env} {names:List (Str × NameKind)} {x:Str} :
  (names.map λ(n,k)=>if (k == NameKind.free&&env.scope.kind == .function&&env.kindOf n == some .cell) then (n,NameKind.cell) else (n,k)).lookup x =
   (names.lookup x).map λk=>if (k == NameKind.free&&env.scope.kind == .function&&env.kindOf x == some .cell) then NameKind.cell else k:=by
 rw[<- gx (λn k=>if (k == NameKind.free&&env.scope.kind == .function&&env.kindOf n == some .cell) then NameKind.cell else k) x names];congr 2
 funext p
 obtain⟨n,k⟩:=p;show(if _ then _ else _)=_;split<;>rename_i z<;>simp[z]
theorem lookup_mem{β :Type}{x:Str}{c: β}: ∀{l:List (Str × β)},l.lookup x=some c->(x,c)∈l
 | [],h=>by simp at h
 | p::r,h=>by
  rw[List.lookup_cons] at h;cases q:x == p.1 with
  | true =>
   rw[q] at h
   obtain rfl:x=p.1:=by simpa using q
   obtain rfl:p.2=c:=by simpa using h
   exact List.mem_cons_self
  | false=>rw[q] at h;exact List.mem_cons_of_mem _ (lookup_mem h)
theorem dB{β :Type}{x:Str}{c: β}: ∀{l:List (Str × β)},(x,c)∈l-> ∃ d,l.lookup x=some d
 | [],h=>nomatch h
 | (n,k)::r,h=>by
  cases hx:x == n with
  | true=>exact⟨k,by simp only[List.lookup_cons,hx]⟩
  | false =>
   have h':(x,c)∈r:=by
    rcases List.mem_cons.mp h with e | e
    . cases e;simp at hx
    . exact e
   obtain⟨d,q⟩:=dB h'
   exact⟨d,by simp only[List.lookup_cons,hx];exact q⟩
theorem gA{env:Env}: ∀(names:List (Str × NameKind))(acc:List (Str × Addr)),(∀ p∈names,p.2= .free-> ∃ c,env.cells.lookup p.1=some c) ->
  ∃ cl,(forIn names acc λ(x:Str × NameKind) (r:List (Str × Addr))=>(match x with | (name,kind)=>if (kind == NameKind.free)=true then do let a <- cellOf env name;pure (ForInStep.yield ((name,a)::r)) else pure (ForInStep.yield r):Sem (ForInStep (List (Str × Addr)))))=pure cl /\
   (∀ p∈cl,p∈acc\/env.cells.lookup p.1=some p.2)/\(∀ p∈acc,p∈cl)/\ ∀ p∈names,p.2= .free-> ∃ c,(p.1,c)∈cl
 | [],acc,_=>⟨acc,rfl,λp h=> .inl h,λp h=>h,λp h=>nomatch h⟩
 | (n,k)::r,acc,h=>by
  by_cases hk:(k == NameKind.free)=true
  . obtain⟨c,hc⟩:=h (n,k) List.mem_cons_self (by simpa using hk);obtain⟨cl,e,h1,h2,h3⟩:=gA r ((n,c)::acc) λp hp=>h p (List.mem_cons_of_mem _ hp);refine⟨cl,?_,λp hp=>?_,λp hp=>h2 p (List.mem_cons_of_mem _ hp),λp hp hf=>?_⟩
    . rw[List.forIn_cons];have z:cellOf env n=pure c:=by unfold cellOf;have hc':env.cells.lookup n=some c:=hc;rw[hc']
      simp only[hk,if_true,z];exact e
    . rcases h1 p hp with q | q
      . rcases List.mem_cons.mp q with q | q
        . exact .inr (by rw[q];exact hc)
        . exact .inl q
      . exact .inr q
    . rcases List.mem_cons.mp hp with q | q
      . exact⟨c,by rw[q];exact h2 _ List.mem_cons_self⟩
      . exact h3 p q hf
  . obtain⟨cl,e,h1,h2,h3⟩:=gA r acc λp hp=>h p (List.mem_cons_of_mem _ hp);refine⟨cl,?_,h1,h2,λp hp hf=>?_⟩
    . rw[List.forIn_cons];simp only[if_neg hk];exact e
    . rcases List.mem_cons.mp hp with q | q
      . rw[q] at hf;exact absurd (by simpa using hf) hk
      . exact h3 p q hf
theorem j6{env:Env}{scope:Scope}(h: ∀ p∈scope.names,p.2= .free-> ∃ c,env.cells.lookup p.1=some c) :
  ∃ cl,closureFor scope env=pure cl/\(∀ x c,cl.lookup x=some c->env.cells.lookup x=some c)/\ ∀ x,scope.names.lookup x=some .free-> ∃ c,cl.lookup x=some c:=by
 obtain⟨cl,e,h1,_,h3⟩:=gA scope.names [] h;refine⟨cl,?_,λx c q=>?_,λx q=>?_⟩
 . unfold closureFor;show(forIn scope.names ([]:List (Str × Addr)) _ >>= λr=>pure r)=_
   erw [e]
   rfl
 . rcases h1 _ (lookup_mem q) with z | z
   . cases z
   . exact z
 . obtain⟨c,q'⟩:=h3 _ (lookup_mem q) rfl;exact dB q'
noncomputable def Ab(cs:List Expr)(v:Env):Sem Bool :=
 forIn cs true λc r=>if r=true then(isTrue c v (eval c v) >>= λok=>pure (ForInStep.yield ok)) else pure (ForInStep.yield r)
noncomputable def qy(M:Model)(A:Around)(v:Env)(e:Expr)(acc:Value)(X:Value->Shared->Prop)(D:Shared->Prop):Bool->Shared->Prop:=λok u=>if ok=true then
  wpAny M A (eval e v) (λx u1=>wpAny M A (call (.builtin "list.append") [acc,x]) (λ_ u2=>D u2) X u1) X u
 else D u
noncomputable def BU(M:Model)(A:Around)(v:Env)(tg e:Expr)(cs:List Expr)(it acc:Value)(X:Value->Shared->Prop)(D:Shared->Prop)(i:Value)(u:Shared):Prop :=
 wpAny M A (letOwnedTupleGo tg it i) (λ_ u1=>wpAny M A (assign tg v i) (λ_ u2=>wpAny M A (Ab cs v) (qy M A v e acc X D) X u2) X u1) X u
theorem kE{prog:Program}{w:World}{A:Around}{R:Result->Shared->Prop}{s:Shared}{elt target iter:Expr}{ifs:List Expr}{scope:Scope}{pos:Pos}{it acc:Value}{env:Env}(I:Nat->Shared->Prop)
  (turn: ∀ k u,I k u->wpAny (model prog w) A (pyNext it) (λr u1=>match r with
   | none=>R (.ok .next) u1
   | some i=>BU (model prog w) A env target elt ifs it acc (notedBy (model prog w) A env λe s'=>R (.error e) s') (λu2=> ∃ m,m < k/\I m u2) i u1) (notedBy (model prog w) A env λe s'=>R (.error e) s') u)
  (n:Nat) (h:I n s):codeAny (model prog w) A (.compLoop (.ListComp elt [⟨target,iter,ifs,0⟩] scope pos) 0 it acc env) R s:=by
 refine codeAny_loop rfl I (λk u hu=>wpAny_noted (m:=compTurn (.ListComp elt [⟨target,iter,ifs,0⟩] scope pos) 0 it acc env) ?_) n h;rw[compTurn_list];refine wpAny_bind (wpAny_standAt (wpAny_bind (wpAny_mono (turn k u hu) (λr u1 g=>?_) λ_ _ z=>z)))
 match r,g with
 | none,g=>exact wpAny_pure g
 | some i,g =>
  refine wpAny_bind (wpAny_mono g (λ_ _ g=>wpAny_bind (wpAny_mono g (λ_ _ g=>wpAny_bind (wpAny_mono g (λok u4 g=>?_) λ_ _ z=>z)) λ_ _ z=>z)) λ_ _ z=>z)
  match ok,g with
  | false,g=>exact wpAny_pure (And.intro rfl g)
  | true,g=>exact wpAny_bind (wpAny_bind (wpAny_mono g (λ_ _ g=>wpAny_bind (wpAny_mono g (λ_ _ g=>wpAny_pure (wpAny_pure (And.intro rfl g))) λ_ _ z=>z)) λ_ _ z=>z))
noncomputable def PF(X:Cx)(ifs:List Expr)(t:TT):Prop :=
 ∀(pins:List (Addr × Obj))(s:Shared)(σ :St)(H:Hp)(Q:Bool->Hp->Prop),Inv X pins σ H s->t σ H Q ->
  wpAny (model X.prog X.w) X.A (forIn ifs true λc r=>if r=true then do let ok <- isTrue c X.env (eval c X.env);pure (ForInStep.yield ok) else pure (ForInStep.yield r)) (TP X pins σ Q) X.xe s
noncomputable def AX:TT:=λ_ H Q=>Q true H
theorem CQ{X:Cx}:PF X [] AX:=λ_ _ σ H Q I h=>wpAny_tests_nil ⟨H,I,h⟩
theorem Bw{X:Cx}{c:Expr}{t:TT}(h:PT X c t):PF X [c] t:=λpins s σ H Q I q=>wpAny_tests_one (h pins s σ H Q I q)
noncomputable def Ha(k:Nat)(wi:TI)(g:TG)(tt:TT)(te:TE):TE:=fun σ H Q=>wi σ H λJ H1=> ∃ W:Nat->Nat->List V->Hp->Prop,(∃ m,W 0 m [] H1)/\ ∀ i m ys H,W i m ys H ->
 (J.stop i H/\ ∀ p,H p=none->Q (.ref p) (upd H p (.lst ys))) \/
 (J.go i H/\ys.length < sizeLine/\ ∀ x H',J.AO i H x H'->g x (σ ++List.replicate k none) H' fun σ2 H2=>tt σ2 H2 λb H3 =>
  if b=true then te σ2 H3 λy H4=> ∃ m',m' < m/\W (i+1) m' (ys++[y]) H4 else ∃ m',m' < m/\W (i+1) m' ys H3)
section
variable{X:Cx}{pins:List (Addr × Obj)}{σ :St}{H:Hp}{s:Shared}{scope:Scope}{vars:List Str}{cl:List (Str × Addr)}
theorem fj(h:fu scope.names X.env.scope.names X.N vars=true): ∀ p∈scope.names,p.2≠ .cell/\(p.2= .free->X.env.kindOf p.1=some .cell\/X.env.kindOf p.1=some .free)/\(p.2= .local->scope.names.lookup p.1=some .local):=by
 intro p hp;unfold fu at h;simp only[Bool.and_eq_true,List.all_eq_true] at h;obtain⟨⟨h1,_⟩,_⟩:=h;have q:=h1 p hp;simp only[Bool.or_eq_true,bne_iff_ne,ne_eq,beq_iff_eq] at q;obtain⟨⟨q1,q2⟩,q3⟩:=q;refine⟨q1,λe=>?_,λe=>?_⟩
 . rcases q2 with z | z
   . exact absurd e z
   . exact z
 . rcases q3 with z | z
   . exact absurd e z
   . exact z
theorem Cf(h:fu scope.names X.env.scope.names X.N vars=true): ∀ n∈X.N,¬ n∈vars->scope.names.lookup n≠some .local:=by
 intro n hn hv;unfold fu at h;simp only[Bool.and_eq_true,List.all_eq_true] at h;obtain⟨⟨_,h2⟩,_⟩:=h;have q:=h2 n hn;simp only[Bool.or_eq_true,bne_iff_ne,ne_eq,List.contains_iff_mem] at q;exact q.resolve_left hv
theorem rX(h:fu scope.names X.env.scope.names X.N vars=true): ∀ n∈vars,scope.names.lookup (mask n)=none:=by
 intro n hn;unfold fu at h;simp only[Bool.and_eq_true,List.all_eq_true] at h;simpa using h.2 n hn
theorem Inv.dS{C:Addr}{h':Heap}{t':Nat}{m':Str->Option Value}{fp:List Addr}(I:Inv X pins σ H s)(hkind:scope.kind= .function)(hlc:fu scope.names X.env.scope.names X.N vars=true)
  (hc1: ∀ x c,cl.lookup x=some c->X.env.cells.lookup x=some c) (hc2: ∀ x,scope.names.lookup x=some .free-> ∃ c,cl.lookup x=some c)
  (hfp: ∀ b∈fp,lA X pins H b) (hfo: ∀ b∈fp,∃ o,s.heap.get? b=some o) (hC:s.heap.objs.size<=C) (hn:h'.Ns C m') (k: ∀ b o,s.heap.get? b=some o->h'.get? b=some o) :
  Inv (dS X vars scope cl C s H fp (X.pn++pins)) [] (σ ++List.replicate vars.length none) H { s with heap:=h',toks:=t' }:=by
 have hHC:H C=none:=I.bc.fresh hC;have cellOf: ∀ x c,cl.lookup x=some c->c < s.heap.objs.size:=λx c e=>by
  obtain⟨v,q⟩:=I.cell x c (hc1 x c e);exact q.lt
 refine⟨?ok,rfl,I.bare,Un.kept k,⟨m',hn,?loc⟩,λx c e=>?cell,hHC,λx c e=>I.fJ x c (hc1 x c e),?pin,I.bc.kept k,?len⟩
 case ok =>
  refine{ mod:=I.ok.mod,kind:=?_,glob:=I.ok.glob,blt:=I.ok.blt,above:=hC,inj:=?_,has:=?_,Eu:=(λ_ _ e=>by cases e),hd:=I.ok.hd,frames:=I.ok.frames,Fv:= .inl rfl,HX:=?_,bs:=I.bs,xk:=Nat.le_trans I.ok.xk I.sz,sE:=?_,vM:=?_,iV:=I.stack,AZ:=I.qI }
  . exact hkind
  . exact λx y c e1 e2=>I.ok.inj x y c (hc1 x c e1) (hc1 y c e2)
  . intro x hx;have hx':(compEnvC scope cl C X.env).kindOf x=some .cell\/(compEnvC scope cl C X.env).kindOf x=some .free:=hx;have e:(compEnvC scope cl C X.env).kindOf x=(scope.names.lookup x).map λk=>if (k == NameKind.free&&X.env.scope.kind == .function&&X.env.kindOf x == some .cell) then NameKind.cell else k:=fN
    rw[e] at hx';cases q:scope.names.lookup x with
    | none=>rw[q] at hx';simp at hx'
    | some kd =>
     have hm:=fj (X:=X) hlc _ (lookup_mem q)
     by_cases hf:kd= .free
     . subst hf;exact hc2 x q
     . rw[q] at hx';have hf':(kd == NameKind.free)=false:=by simpa using hf
       simp only[Option.map_some,hf',Bool.false_and,Bool.false_eq_true,if_false,Option.some.injEq] at hx';rcases hx' with z | z
       . exact absurd z hm.1
       . exact absurd z hf
  . intro b hb;have f:=hfp b hb;obtain⟨o,e⟩:=hfo b hb;exact⟨Nat.ne_of_lt (Nat.lt_of_lt_of_le (Heap.lt_size e) hC),λx c e=>f.2.2.2.2.1 x c (hc1 x c e)⟩
  . intro b o e hb;have f:=hfp b hb;rcases f.2.2.2.1 with z | z
    . exact I.ok.sE b o e z
    . exact absurd (Nat.lt_of_lt_of_le (Heap.lt_size (I.ok.bs b o e).1) z) (Nat.lt_irrefl _)
  . intro b hb z;have f:=hfp b hb;rcases List.mem_cons.mp (I.jh b z) with q | q
    . exact f.2.1 q
    . exact f.2.2.1 q
 case loc =>
  intro i x v e1 e2 e3
  have e1':(nG X.N vars)[i]?=some x:=e1
  have e:(compEnvC scope cl C X.env).scope.names.lookup x=(scope.names.lookup x).map λk=>if (k == NameKind.free&&X.env.scope.kind == .function&&X.env.kindOf x == some .cell) then NameKind.cell else k:=fN
  by_cases hi:i < σ.length
  . rw[List.getElem?_append_left hi] at e2;unfold nG at e1';rw[List.getElem?_append_left (by rw[List.length_map,<- I.len];exact hi),List.getElem?_map] at e1';cases q:X.N[i]? with
    | none=>rw[q] at e1';cases e1'
    | some n =>
     rw[q] at e1'
     have e1'':(if vars.contains n=true then mask n else n)=x:=Option.some.inj e1'
     have vis:(scope.names.lookup x).isSome=true:=by
      unfold Ey at e3;have e3':(compEnvC scope cl C X.env).scope.names.lookup x=some .local\/(compEnvC scope cl C X.env).scope.names.lookup x=some .cell\/(compEnvC scope cl C X.env).scope.names.lookup x=some .free:=e3;rw[e] at e3';cases z:scope.names.lookup x with
      | none=>rw[z] at e3';simp at e3'
      | some _=>rfl
     by_cases hv:n∈vars
     . rw[if_pos (by simpa using hv)] at e1'';have:=rX (X:=X) hlc n hv;rw[e1''] at this;rw[this] at vis;cases vis
     . rw[if_neg (by simpa using hv)] at e1'';subst e1'';have nl:=Cf (X:=X) hlc n (List.mem_of_getElem? q) hv;cases z:scope.names.lookup n with
       | none=>rw[z] at vis;cases vis
       | some kd =>
        have hm:=fj (X:=X) hlc _ (lookup_mem z)
        have hkd:kd= .free:=by
         unfold Ey at e3;have e3':(compEnvC scope cl C X.env).scope.names.lookup n=some .local\/(compEnvC scope cl C X.env).scope.names.lookup n=some .cell\/(compEnvC scope cl C X.env).scope.names.lookup n=some .free:=e3;rw[e,z] at e3';by_cases hf:kd= .free
         . exact hf
         . have hf':(kd == NameKind.free)=false:=by simpa using hf
           simp only[Option.map_some,hf',Bool.false_and,Bool.false_eq_true,if_false,Option.some.injEq] at e3';rcases e3' with y | y | y
           . rw[y] at z;exact absurd z nl
           . exact absurd y hm.1
           . exact y
        subst hkd
        have kk:=hm.2.1 rfl
        obtain⟨m,_,hl⟩:=I.loc
        obtain⟨u,r,look⟩:=hl i n v q e2 (.inr kk)
        obtain⟨c,hcl⟩:=hc2 n z
        have look': ∃ c,X.env.cells.lookup n=some c/\s.heap.IsCell c (some u):=by
         rcases look with⟨y,_⟩ | ⟨_,y⟩
         . rcases kk with w | w<;>(rw[w] at y;cases y)
         . exact y
        obtain⟨c',hc',⟨o,ho,hd⟩⟩:=look'
        have ec:c=c':=Option.some.inj ((hc1 n c hcl).symm.trans hc')
        subst ec
        refine⟨u,r,.inr ⟨?_,c,hcl,o,k c o ho,hd⟩⟩
        show(compEnvC scope cl C X.env).scope.names.lookup n=some .cell\/(compEnvC scope cl C X.env).scope.names.lookup n=some .free
        rw[e,z]
        simp only[Option.map_some]
        split
        . exact .inl rfl
        . exact .inr rfl
  . rw[List.getElem?_append_right (Nat.not_lt.mp hi),List.getElem?_replicate] at e2;split at e2<;>cases e2
 case cell =>
  obtain⟨v,o,ho,hd⟩:=I.cell x c (hc1 x c e)
  exact⟨v,o,k c o ho,hd⟩
 case pin =>
  intro p hp
  have hp':p∈X.pn++pins:=by simpa [L2.dS] using hp
  obtain⟨e,n,ne,nf,d⟩:=I.pin p hp'
  refine⟨k _ _ e,n,Nat.ne_of_lt (Nat.lt_of_lt_of_le (Heap.lt_size e) hC),λz=>?_,d⟩
  rcases List.mem_cons.mp (I.jh p.1 z) with q | q
  . exact ne q
  . exact nf q
 case len =>
  show(σ ++List.replicate vars.length none).length=(nG X.N vars).length
  unfold nG
  rw[List.length_append,List.length_append,List.length_map,List.length_replicate,I.len]
end
noncomputable def GK(n:Nat)(g:TG):Prop:= ∀ x σ H Q,g x σ H Q->g x σ H fun σ2 H2=>Q σ2 H2/\ ∀ j,j < n-> σ2[j]?= σ[j]?
noncomputable def FU(n:Nat)(g:nJ):Prop:= ∀ xs σ H Q,g xs σ H Q->g xs σ H fun σ2 H2=>Q σ2 H2/\ ∀ j,j < n-> σ2[j]?= σ[j]?
noncomputable def nh(g:TG):Prop:= ∀ x σ H Q Q',(∀ σ2 H2,Q σ2 H2->Q' σ2 H2)->g x σ H Q->g x σ H Q'
theorem yr{n i:Nat}(h:n<=i):GK n (dH i):=λx σ H Q q=>⟨q,λj hj=>List.getElem?_set_ne (by omega)⟩
theorem pQ{i:Nat}:nh (dH i):=λx σ H Q Q' f q=>f _ _ q
theorem D6{n:Nat}:FU n sO:=λxs σ H Q q=>⟨q.1,q.2,λ_ _=>rfl⟩
theorem zv{n:Nat}{g:TG}{gs:nJ}(h:GK n g)(hm:nh g)(hs:FU n gs):FU n (ji g gs):=λxs σ H Q q=>by
 obtain⟨v,r,e,z⟩:=q;refine⟨v,r,e,hm _ _ _ _ _ (fun σ2 H2 y=>?_) (h _ _ _ _ z)⟩;have y':=hs _ _ _ _ y.1;have:(fun σ3 H3=>(Q σ3 H3/\ ∀ j,j < n-> σ3[j]?= σ2[j]?))=fun σ3 H3=>(Q σ3 H3/\ ∀ j,j < n-> σ3[j]?= σ[j]?):=by
  funext σ3 H3
  exact propext ⟨λw=>⟨w.1,λj hj=>(w.2 j hj).trans (y.2 j hj)⟩,λw=>⟨w.1,λj hj=>(w.2 j hj).trans (y.2 j hj).symm⟩⟩
 rw[this] at y';exact y'
theorem B7{K:PySem.W.Frag}{n m:Nat}{gs:nJ}(hs:FU n gs):GK n (rY K m gs):=λx σ H Q q=>by
 obtain⟨a,xs,e,h1,h2,h3⟩:=q;exact⟨a,xs,e,h1,h2,hs _ _ _ _ h3⟩
section
variable{X:Cx}{scope:Scope}{vars:List Str}{elt tg iter:Expr}{ifs:List Expr}{pos:Pos}{wi:TI}{g:TG}{tt:TT}{te:TE}
theorem kK{pins:List (Addr × Obj)}{σ :St}{H2:Hp}{s2:Shared}{cl:List (Str × Addr)}{it:Addr}{fp:List Addr}{tn:Nat->Heap->Prop}{J:It}{RR:Value->Addr->Result->Shared->Prop}{Q:VK}{E:Value->Shared->Prop}
  (hc:X.calm=true) (hx: ∀ v s,¬ X.xe v s) (hkind:scope.kind= .function) (hlc:fu scope.names X.env.scope.names X.N vars=true)
  (hb: ∀ cl C s₀ H₀ ex pn,PG (dS X vars scope cl C s₀ H₀ ex pn) tg g/\PF (dS X vars scope cl C s₀ H₀ ex pn) ifs tt/\PE (dS X vars scope cl C s₀ H₀ ex pn) elt te) (hgk:GK X.N.length g)
  (hc1: ∀ x c,cl.lookup x=some c->X.env.cells.lookup x=some c) (hc2: ∀ x,scope.names.lookup x=some .free-> ∃ c,cl.lookup x=some c)
  (I2:Inv X pins σ H2 s2) (T:Turn X.prog X.w X.K tg J fp it tn) (st2:tn 0 s2.heap) (f2: ∀ b∈fp,lA X pins H2 b)
  {W:Nat->Nat->List V->Hp->Prop} {m0:Nat} (w0:W 0 m0 [] H2)
  (turn: ∀ i m ys H,W i m ys H->(J.stop i H/\ ∀ p,H p=none->Q (.ref p) (upd H p (.lst ys))) \/
   (J.go i H/\ys.length < sizeLine/\ ∀ x H',J.AO i H x H'->g x (σ ++List.replicate vars.length none) H' fun σ2 H2=>tt σ2 H2 λb H3 =>
    if b=true then te σ2 H3 λy H4=> ∃ m',m' < m/\W (i+1) m' (ys++[y]) H4 else ∃ m',m' < m/\W (i+1) m' ys H3))
  (hRR: ∀ D C s4 H4 ys m,Inv X pins σ (upd H4 D (.lst ys)) s4->s4.heap.Ns C m->H4 D=none->(upd H4 D (.lst ys)) C=none->C≠X.env.locals->X.s₀.heap.objs.size<=C->(∀ x c,X.env.cells.lookup x=some c->c≠C)->(∀ p∈X.pn++pins,p.1≠C) ->
   Q (.ref D) (upd H4 D (.lst ys))->RR (.ref D) C (.ok .next) s4) :
  wpAny (model X.prog X.w) X.A (newList []) (λacc s₃ =>wpAny (model X.prog X.w) X.A (newFunctionEnv scope X.env.globals cl [] X.env.qual none .none (some X.env)) (λcenv s₄ =>
   codeAny (model X.prog X.w) X.A (.compStart (.ListComp elt [⟨tg,iter,ifs,0⟩] scope pos) 0 (.ref it) acc { cenv with scope:=relabel scope X.env }) (RR acc cenv.locals) s₄) E s₃) E s2:=by
 have hcell: ∀ y∈scope.names,y.2≠ .cell:=λy hy=>(fj (X:=X) hlc y hy).1;refine wpAny_newObj_type (wpAny_newFunctionEnv hcell (λy hy=>absurd hy (by simp)) (λh₁ hns₁ hsb₁ =>?_) hkind);dsimp only at hns₁ hsb₁ ⊢;generalize hH2:s2.heap.push { cls:= .type "list",dict:=none,data:= .seq ([]:List Value).toArray }=P2 at hns₁ hsb₁ ⊢;have hC:P2.objs.size=s2.heap.objs.size+1:=by rw[<- hH2,Heap.size_push]
 have hDC:s2.heap.objs.size≠P2.objs.size:=by rw[hC];exact Nat.ne_of_lt (Nat.lt_succ_self _)
 have hCle:s2.heap.objs.size<=P2.objs.size:=by rw[hC];exact Nat.le_succ _
 have below: ∀ b,b < s2.heap.objs.size->b≠P2.objs.size/\b≠s2.heap.objs.size:=λb hb=>⟨by rw[hC];exact Nat.ne_of_lt (Nat.lt_succ_of_lt hb),Nat.ne_of_lt hb⟩
 have old: ∀ b o,s2.heap.get? b=some o->h₁.get? b=some o:=λb o e=>hsb₁.extBut b o (below b (Heap.lt_size e)).1 (Heap.get?_push_of_some _ (hH2 ▸ Heap.get?_push_of_some _ e));have hacc:h₁.get? s2.heap.objs.size=some { cls:= .type "list",data:= .seq ([]:List Value).toArray 0 }:=hsb₁.extBut _ _ hDC (Heap.get?_push_of_some _ (hH2 ▸ Heap.get?_push_size _ rfl));generalize hDe:s2.heap.objs.size=D at *;generalize hCe:P2.objs.size=C at *;have fo: ∀ b∈fp,∃ o,s2.heap.get? b=some o:=λb hb=>let ⟨o,e,_⟩:=T.obj _ _ st2 b hb;⟨o,e⟩
 have fpD: ∀ b∈fp,b < D:=λb hb=>by obtain⟨o,e⟩:=fo b hb;rw[<- hDe];exact Heap.lt_size e
 have pnlt: ∀ p∈X.pn++pins,p.1 < D:=λp hp=>by rw[<- hDe];exact Heap.lt_size (I2.pin p hp).1
 have cllt: ∀ x c,X.env.cells.lookup x=some c->c < D:=λx c e=>by obtain⟨v,q⟩:=I2.cell x c e;rw[<- hDe];exact q.lt
 have hLD:X.env.locals < D:=by rw[<- hDe];exact I2.lt
 have hD0:X.s₀.heap.objs.size<=D:=by rw[<- hDe];exact I2.sz
 have IY0:Inv (dS X vars scope cl C s2 H2 fp (X.pn++pins)) [] (σ ++List.replicate vars.length none) H2 { s2 with heap:=h₁,toks:=s2.toks+([]:List (Str × Value)).length } :=
  I2.dS hkind hlc hc1 hc2 f2 fo (by rw[hDe];exact hCle) hns₁ old
 have st1:tn 0 h₁ :=T.keep _ _ _ st2 λb _ o e=>old b o e;obtain⟨hg,hf,he⟩:=hb cl C s2 H2 fp (X.pn++pins);generalize hY:dS X vars scope cl C s2 H2 fp (X.pn++pins)=Y at *;have Yprog:Y.prog=X.prog:=by rw[<- hY];rfl
 have Yw:Y.w=X.w:=by rw[<- hY];rfl
 have YK:Y.K=X.K:=by rw[<- hY];rfl
 have YA:Y.A=X.A:=by rw[<- hY];rfl
 have Ycalm:Y.calm=true:=by rw[<- hY];exact hc
 have Yenv:Y.env=compEnvC scope cl C X.env:=by rw[<- hY];rfl
 have Yloc:Y.env.locals=C:=by rw[Yenv];rfl
 have Yex:Y.ex=fp:=by rw[<- hY];rfl
 have Yfs:Y.fs=ud X.stack:=by rw[<- hY];rfl
 have Ys0:Y.s₀ =s2:=by rw[<- hY];rfl
 have YH0:Y.H₀ =H2:=by rw[<- hY];rfl
 have Ypn:Y.pn=X.pn++pins:=by rw[<- hY];rfl
 have YN:Y.N=nG X.N vars:=by rw[<- hY];rfl
 have Yxe: ∀ v s,¬ Y.xe v s:=by rw[<- hY];exact hx
 have noE: ∀{E':Value->Shared->Prop}{v:Value}{s:Shared},Y.xe v s->E' v s:=λh=>absurd h (Yxe _ _);have Ycell: ∀ x c,Y.env.cells.lookup x=some c->c < D:=λx c e=>by rw[Yenv] at e;exact cllt x c (hc1 x c e)
 have fpY: ∀{H':Hp}{pl:List (Addr × Obj)},(∀ b∈fp,H' b=none)->(∀ p∈pl,D<=p.1)-> ∀ b∈fp,lA Y pl H' b:=λ{H' pl} hn hp b hb=>by
  refine⟨hn b hb,?_,?_,.inl (by rw[Yex];exact hb),?_,?_⟩
  . rw[Yloc];exact Nat.ne_of_lt (Nat.lt_of_lt_of_le (fpD b hb) hCle)
  . rw[Yfs];intro z;rcases List.mem_cons.mp (I2.jh b z) with q | q
    . exact(f2 b hb).2.1 q
    . exact(f2 b hb).2.2.1 q
  . intro x c e z;rw[Yenv] at e;exact(f2 b hb).2.2.2.2.1 x c (hc1 x c e) z
  . intro p hp';rcases List.mem_append.mp hp' with q | q
    . rw[Ypn] at q;exact(f2 b hb).2.2.2.2.2 p q
    . intro z;have:=hp p q;rw[z] at this;exact absurd (Nat.lt_of_lt_of_le (fpD b hb) this) (Nat.lt_irrefl _)
 have Dfs:D ∉ Y.fs:=by
  rw[Yfs];intro z;rcases List.mem_cons.mp (I2.jh D z) with q | q
  . exact absurd hLD (by rw[q];exact Nat.lt_irrefl _)
  . exact I2.EU (by rw[hDe];exact Nat.le_refl _) q
 have loop:codeAny (model X.prog X.w) X.A (.compLoop (.ListComp elt [⟨tg,iter,ifs,0⟩] scope pos) 0 (.ref it) (.ref D) (compEnvC scope cl C X.env)) (RR (.ref D) C) { s2 with heap:=h₁,toks:=s2.toks+([]:List (Str × Value)).length }:=by
  refine kE (λn s'=> ∃ i ys H' ak k,Inv Y [(D,{ cls:= .type "list",data:= .seq ak k })] (σ ++List.replicate vars.length none) H' s'/\tn i s'.heap/\(∀ b∈fp,H' b=none)/\W i n ys H'/\Vals ys ak.toList/\ys.length<=sizeLine) ?_ m0
   ⟨0,[],H2,_,0,IY0.fU (λp hp=>?_),st1,λb hb=>(f2 b hb).1,w0,.nil,Nat.zero_le _⟩
  . rintro n s3 ⟨i,ys,H3,ak,k,I3,ir,fr3,w3,hv,hlen⟩;rcases turn i n ys H3 w3 with⟨stop,q⟩ | ⟨go,hlt,step⟩
    . have d:=T.done Y Yprog Yw YK Ycalm i _ s3 _ H3 (notedBy (model X.prog X.w) X.A (compEnvC scope cl C X.env) λe s'=>RR (.ref D) C (.error e) s') I3 (fpY fr3 (by intro p hp;rw[List.mem_singleton.mp hp];exact Nat.le_refl _)) ir stop;rw[YA] at d;refine wpAny_mono d (λr s4 hr=>?_) λ_ _ z=>z;obtain⟨rfl,I4⟩:=hr;obtain⟨eD,nD,_,_,_⟩:=I4.pin (D,_) (List.mem_append_right _ List.mem_cons_self);dsimp only at eD nD;obtain⟨m,hnC,_⟩:=I4.loc;rw[Yloc] at hnC;have hb4:=I4.base;rw[Yfs,Yex,YH0,Ys0] at hb4;have hok4:=I4.bc;rw[Yprog,Yw] at hok4;have hCf:=I4.free;rw[Yloc] at hCf;have neD: ∀ b o,s2.heap.get? b=some o->b≠D:=λb o e=>by rw[<- hDe];exact Nat.ne_of_lt (Heap.lt_size e)
      have IX:Inv X pins σ (upd H3 D (.lst ys)) s4:=by
       refine I2.EB (ch:=fp) (I4.os.trans (by rw[Ys0])) ⟨hb4.keep,hb4.slot,λb o e n hx'=>?_,hb4.there,λb xs e=>?_,λb o u e=>?_,λb ps e=>?_⟩ (λb u e=>?_) I4.bare (λb hb'=>?_)
       . rw[ay (neD b o e)];exact hb4.free b o e n hx'
       . rw[ay (aB (hb4.g7 b xs e) nD)];exact hb4.g7 b xs e
       . rw[ay (aB (hb4.gD b o u e) nD)];exact hb4.gD b o u e
       . obtain⟨more,e'⟩:=hb4.i8 b ps e;exact⟨more,by rw[ay (aB e' nD)];exact e'⟩
       . by_cases hbD:b=D
         . subst hbD;rw[bh] at e;cases e;exact⟨hlen,ak.toList,k,hv,by simpa using eD⟩
         . rw[ay hbD] at e;exact(hok4 b u e).pE (λc v _ z=>z) (λc z=>by rw[ay (aB z nD)];exact z) λc xs z=>by rw[ay (aB z nD)];exact z
       . have f:=f2 b hb';exact⟨f.2.2.2.1,f.2.1,f.2.2.2.2.1,f.2.2.2.2.2⟩
      refine hRR D C s4 H3 ys m IX hnC nD (by rw[ay (Ne.symm hDC)];exact hCf) (Nat.ne_of_gt (Nat.lt_of_lt_of_le hLD hCle)) (Nat.le_trans hD0 hCle) (λx c e=>Nat.ne_of_lt (Nat.lt_of_lt_of_le (cllt x c e) hCle)) (λp hp=>Nat.ne_of_lt (Nat.lt_of_lt_of_le (pnlt p hp) hCle)) (q D nD)
    . have d:=T.item Y Yprog Yw YK Ycalm i _ s3 _ H3 (notedBy (model X.prog X.w) X.A (compEnvC scope cl C X.env) λe s'=>RR (.ref D) C (.error e) s') I3 (fpY fr3 (by intro p hp;rw[List.mem_singleton.mp hp];exact Nat.le_refl _)) ir go;rw[YA] at d;refine wpAny_mono d (λr s4 hr=>?_) λ_ _ z=>z;obtain⟨u,rfl,h4⟩:=hr;refine wpAny_mono h4 (λ_ s5 h5=>?_) λ_ _ z=>z;obtain⟨x,H5,I5,r5,y5,st5,fr5⟩:=h5;have I5':=I5.pinned (fpY fr5 (by intro p hp;rw[List.mem_singleton.mp hp];exact Nat.le_refl _)) (T.obj _ _ st5);have a1:=hg _ s5 _ H5 x u _ I5' r5 (hgk _ _ _ _ (step x H5 y5));rw[Yprog,Yw,YA,Yenv] at a1;refine wpAny_mono a1 (λ_ s6 h6=>?_) λ_ _ z=>noE z;obtain⟨σ6,H6,I6,q6,k6⟩:=h6;have a2:=hf _ s6 σ6 H6 _ I6 q6;rw[Yprog,Yw,YA,Yenv] at a2;have back: ∀{pl:List (Addr × Obj)}{H':Hp}{s':Shared},Inv Y pl σ6 H' s'->Inv Y pl (σ ++List.replicate vars.length none) H' s':=λ{pl H' s'} I'=>by
       refine I'.weak ?_ λj v e=>?_
       . rw[I'.len,<- I3.len]
       . by_cases hj:j < σ.length
         . rw[k6 j (by rw[<- I2.len];exact hj)];exact e
         . rw[List.getElem?_append_right (Nat.not_lt.mp hj),List.getElem?_replicate] at e;split at e<;>cases e
      refine wpAny_mono a2 (λok s7 h7=>?_) λ_ _ z=>noE z;obtain⟨H7,I7,q7⟩:=h7;cases ok with
      | false =>
       rw[if_neg Bool.false_ne_true] at q7
       unfold qy
       rw[if_neg (show ¬ false=true from Bool.false_ne_true)]
       obtain⟨m',hm',w7⟩:=q7
       refine⟨m',hm',i+1,ys,H7,ak,k,(back I7).fU (λp hp=>I7.pin p (List.mem_append_right _ (List.mem_append_left _ hp))),T.keep _ _ _ st5 λb hb' o e=>(I7.pin (b,o) (List.mem_append_right _ (List.mem_append_right _ (cP hb' e)))).1,λb hb'=>?_,w7,hv,hlen⟩
       obtain⟨o,e,_⟩:=T.obj _ _ st5 b hb'
       exact(I7.pin (b,o) (List.mem_append_right _ (List.mem_append_right _ (cP hb' e)))).2.1
      | true =>
       rw[if_pos rfl] at q7
       unfold qy
       rw[if_pos (show true=true from rfl)]
       have a3:=he _ s7 σ6 H7 _ I7 q7
       rw[Yprog,Yw,YA,Yenv] at a3
       refine wpAny_mono a3 (λy s8 h8=>?_) λ_ _ z=>noE z
       obtain⟨v,H8,I8,r8,m',hm',w8⟩:=h8
       obtain⟨eD,nD,neL,nfD,dD⟩:=I8.pin (D,_) (List.mem_append_right _ (List.mem_append_left _ List.mem_cons_self))
       dsimp only at eD nD neL nfD dD
       refine append_at (hsz:=by have:=hv.length;simp at this;omega) eD λh9 hs9 e9=>?_
       have st8:tn (i+1) s8.heap:=T.keep _ _ _ st5 λb hb' o e=>(I8.pin (b,o) (List.mem_append_right _ (List.mem_append_right _ (cP hb' e)))).1
       have fr8: ∀ b∈fp,H8 b=none:=λb hb'=>by
        obtain⟨o,e,_⟩:=T.obj _ _ st5 b hb';exact(I8.pin (b,o) (List.mem_append_right _ (List.mem_append_right _ (cP hb' e)))).2.1
       have I8':Inv Y [] (σ ++List.replicate vars.length none) H8 s8:=(back I8).fU λp hp=>nomatch hp
       have I9:=I8'.turned (it:=D) (h':=h9) (t':=s8.toks) (λb o hb' e=>hs9.extBut b o hb' e) nD neL (.inr (by rw[Ys0,hDe];exact Nat.le_refl _)) (λx c e=>Nat.ne_of_lt (Ycell x c e)) (λp hp=>by
        rw[List.append_nil,Ypn] at hp;exact Nat.ne_of_lt (pnlt p hp))
       refine⟨m',hm',i+1,ys++[v],H8,ak.push y,k+1,I9.fU (λp hp=>?_),T.keep _ _ _ st8 λb hb' o e=>hs9.extBut b o (Nat.ne_of_lt (fpD b hb')) e,fr8,w8,?_,?_⟩
       . obtain rfl:=List.mem_singleton.mp hp;exact⟨e9,nD,neL,nfD,λv=>by simp⟩
       . rw[Array.toList_push];exact Vals.append hv (.cons r8 .nil)
       . rw[List.length_append,List.length_singleton];exact hlt
  . obtain rfl:=List.mem_singleton.mp hp;refine⟨hacc,I2.bc.fresh (by rw[hDe];exact Nat.le_refl _),?_,Dfs,λv=>by simp⟩;rw[Yloc];exact hDC
 exact codeAny_compStart_list loop (T.self _ 0 _ _ _ st1 loop)
end
section
variable{X:Cx}{scope:Scope}{vars:List Str}{elt tg iter:Expr}{ifs:List Expr}{pos spos py:Pos}{wi:TI}{g:TG}{tt:TT}{te:TE}{i:Nat}{y:Str}
theorem uw(vars:List Str)(hc:X.calm=true)(hx: ∀ v s,¬ X.xe v s)(hkind:scope.kind= .function)(hlc:fu scope.names X.env.scope.names X.N vars=true)(hi:PI X tg iter wi)
  (hb: ∀ cl C s₀ H₀ ex pn,PG (dS X vars scope cl C s₀ H₀ ex pn) tg g/\PF (dS X vars scope cl C s₀ H₀ ex pn) ifs tt/\PE (dS X vars scope cl C s₀ H₀ ex pn) elt te) (hgk:GK X.N.length g)
  (hs: ∀ x,foldedSetIterable iter X.env x=pure x:=by intro _;rfl):PE X (.ListComp elt [⟨tg,iter,ifs,0⟩] scope pos) (Ha vars.length wi g tt te):=by
 intro pins s σ H Q I h;obtain⟨cl,hcl,hc1,hc2⟩:=j6 (env:=X.env) (scope:=scope) λp hp hf=>I.ok.has p.1 ((fj (X:=X) hlc p hp).2.1 hf);rw[eval_ListComp];refine wpAny_comprehension_free (use:=none) rfl hs hcl hkind (λp hp=>(fj (X:=X) hlc p hp).2.2) ?_;refine wpAny_mono (hi pins s σ H _ I h) (λv s1 h1=>wpAny_mono h1 (λitv s2 h2=>?_) λ_ _ z=>z) λ_ _ z=>z;obtain⟨it,fp,tn,J,H2,rfl,I2,T,st2,f2,W,⟨m0,w0⟩,turn⟩:=h2;refine kK (Q:=Q) (RR:=λacc C=>compPost (model X.prog X.w) X.A X.xe none (EP X pins σ Q) acc C) hc hx hkind hlc hb hgk hc1 hc2 I2 T st2 f2 w0 turn ?_;intro D C s4 H4 ys m I4 hn nD nC neL hsz hcell hpin q;refine⟨m,hn,λh' hs'=>⟨.ref D,_,I4.turned (it:=C) (t':=s4.toks) (λb o hb e=>hs'.extBut b o hb e) nC neL (.inr hsz) hcell hpin,rfl,q⟩⟩
noncomputable def u0(k i:Nat)(wi:TI)(g:TG)(tt:TT)(te:TE):TS:=λD σ H=>Ha k wi g tt te σ H λv H1=>D.nx (σ.set i (some v)) H1
theorem uV(vars:List Str)(i:Nat)(hc:X.calm=true)(hx: ∀ v s,¬ X.xe v s)(hkind:scope.kind= .function)(hlc:fu scope.names X.env.scope.names X.N vars=true)(hN:X.N.Nodup)(hiy:X.N[i]?=some y)(hy:Loc X.env.scope y)
  (hi:PI X tg iter wi)
  (hb: ∀ cl C s₀ H₀ ex pn,PG (dS X vars scope cl C s₀ H₀ ex pn) tg g/\PF (dS X vars scope cl C s₀ H₀ ex pn) ifs tt/\PE (dS X vars scope cl C s₀ H₀ ex pn) elt te) (hgk:GK X.N.length g)
  (hsw:swapsWith (.ListComp elt [⟨tg,iter,ifs,0⟩] scope pos) (some (.Name y py)) spos.line X.env=pure true:=by rfl)
  (hs: ∀ x,foldedSetIterable iter X.env x=pure x:=by intro _;rfl)
  (hf:X.fn y=true\/X.env.scope.names.lookup y=some .local:=by first | exact .inl rfl | exact .inr rfl | assumption) :
  PS X (.Assign [.Name y py] (.ListComp elt [⟨tg,iter,ifs,0⟩] scope pos) spos) (u0 vars.length i wi g tt te):=by
 intro pins s σ H Dn I h;obtain⟨cl,hcl,hc1,hc2⟩:=j6 (env:=X.env) (scope:=scope) λp hp hf=>I.ok.has p.1 ((fj (X:=X) hlc p hp).2.1 hf);rw[exec_Assign_Name_used _ _ _ _ hsw];refine wpAny_bind (wpAny_standAt (wpAny_bind ?_));show wpAny _ X.A (do let _ <- comprehension (.ListComp elt [⟨tg,iter,ifs,0⟩] scope pos) scope X.env _ (newList []) false (eval iter X.env) (some (assign (.Name y py) X.env))) _ _ s;refine wpAny_bind (wpAny_mono (wpAny_comprehension_free (use:=some (assign (.Name y py) X.env)) (Q:=λ_ s'=>SP X pins Dn .next s') rfl hs hcl hkind (λp hp=>(fj (X:=X) hlc p hp).2.2) ?_) (λ_ s' hq=>wpAny_pure (wpAny_pure hq)) λ_ _ e=>e);refine wpAny_mono (hi pins s σ H _ I h) (λv s1 h1=>wpAny_mono h1 (λitv s2 h2=>?_) λ_ _ z=>z) λ_ _ z=>z;obtain⟨it,fp,tn,J,H2,rfl,I2,T,st2,f2,W,⟨m0,w0⟩,turn⟩:=h2;refine kK (Q:=λv H1=>Dn.nx (σ.set i (some v)) H1) (RR:=λacc C=>compPost (model X.prog X.w) X.A X.xe (some (assign (.Name y py) X.env)) (λ_ s'=>SP X pins Dn .next s') acc C) hc hx hkind hlc hb hgk hc1 hc2 I2 T st2 f2 w0 turn ?_;intro D C s4 H4 ys m I4 hn nD nC neL hsz hcell hpin q;show wpAny _ X.A (assign (.Name y py) X.env (.ref D)) _ _ s4;refine wpAny_assign_Name (lM I4 hN hiy hy (v:= .ref D) rfl (λs5 I5 ⟨a,hsb,ha⟩=>?_) hf);have hCa:C≠a:=by
  rcases ha with z | z
  . rw[z];exact neL
  . exact Ne.symm (hcell _ _ z)
 refine⟨m,hn.sameBut hsb hCa,λh' hs'=>?_⟩;exact⟨_,_,I5.turned (it:=C) (t':=s5.toks) (λb o hb e=>hs'.extBut b o hb e) nC neL (.inr hsz) hcell hpin,q⟩
end
theorem Dt{K:PySem.W.Frag}{a:Addr}{xs:List V}{k:Nat}{g:TG}{tt:TT}{te:TE}{σ :St}{H:Hp}{Q:VK}(Pv:Nat->List V->Hp->Prop)(h0:Pv 0 [] H)(hl: ∀ i ys H,i<=xs.length->Pv i ys H->fk K H a xs/\ys.length<=i)(hz:xs.length<=sizeLine)
  (hs: ∀ i x ys H,xs[i]?=some x->Pv i ys H->g x (σ ++List.replicate k none) H fun σ2 H2=>tt σ2 H2 λb H3=>if b=true then te σ2 H3 λy H4=>Pv (i+1) (ys++[y]) H4 else Pv (i+1) ys H3)
  (hd: ∀ ys H,Pv xs.length ys H-> ∀ p,H p=none->Q (.ref p) (upd H p (.lst ys)))
  (gm:nh g) (tm: ∀ σ H Q Q',(∀ b H1,Q b H1->Q' b H1)->tt σ H Q->tt σ H Q') (em: ∀ σ H Q Q',(∀ b H1,Q b H1->Q' b H1)->te σ H Q->te σ H Q') :
  ∃ W:Nat->Nat->List V->Hp->Prop,(∃ m,W 0 m [] H)/\ ∀ i m ys H,W i m ys H ->
 ((uE K a).stop i H/\ ∀ p,H p=none->Q (.ref p) (upd H p (.lst ys))) \/
 ((uE K a).go i H/\ys.length < sizeLine/\ ∀ x H',(uE K a).AO i H x H'->g x (σ ++List.replicate k none) H' fun σ2 H2=>tt σ2 H2 λb H3 =>
  if b=true then te σ2 H3 λy H4=> ∃ m',m' < m/\W (i+1) m' (ys++[y]) H4 else ∃ m',m' < m/\W (i+1) m' ys H3):=by
 refine⟨λi m ys H=>m=xs.length - i/\i<=xs.length/\Pv i ys H,⟨xs.length,by simp,Nat.zero_le _,h0⟩,?_⟩
 rintro i m ys H ⟨rfl,hi,p⟩
 obtain⟨q,hy⟩:=hl i ys H hi p
 by_cases hlt:i < xs.length
 . refine .inr ⟨⟨xs,xs[i],q,by simp[hlt]⟩,by omega,λx H' y=>?_⟩;obtain⟨e,y⟩:=y;subst e;refine gm _ _ _ _ _ (fun σ2 H2 z=>tm _ _ _ _ (λb H3 z=>?_) z) (hs i x ys _ (y xs q) p);cases b with
   | true =>
    rw[if_pos rfl] at z ⊢
    exact em _ _ _ _ (λv H4 w=>⟨xs.length - (i+1),by omega,rfl,hlt,w⟩) z
   | false =>
    rw[if_neg Bool.false_ne_true] at z ⊢
    exact⟨xs.length - (i+1),by omega,rfl,hlt,z⟩
 . have e:i=xs.length:=by omega
   subst e;exact .inl ⟨⟨xs,q,Nat.le_refl _⟩,hd ys H p⟩
theorem n5{X:Cx}:aM X (.builtin "isinstance") (λxs H Q=> ∃ x T t b,xs=[x,.ty T]/\gq X.K H x t/\PySem.W.kitOne X.K t (.type T)=some b/\Q (.bl b) H):=by
 intro pins s σ H xs us Q I r h;obtain⟨x,T,t,b,rfl,ty,k,q⟩:=h;obtain⟨u,c,rfl,ru,rc⟩:=vals2 r;cases(show c=Value.type T from rc);exact sd I ru ty k λtk=>⟨.bl b,H,I.tok tk,rfl,q⟩
theorem aP.get{P:Program}{w:World}{H:Hp}{h:Heap}{a:Addr}{o:HO}(x:aP P w H h a o): ∃ ob,h.get? a=some ob:=by
 induction o with
 | lst xs=>obtain⟨_,ak,n,_,e⟩:=x;exact⟨_,e⟩
 | tup xs=>obtain⟨_,ak,_,ob,e,_⟩:=x;exact⟨_,e⟩
 | dK kvs=>obtain⟨_,_,vs,_,ob,es,ep,e,_⟩:=x;exact⟨_,e⟩
 | dT kvs=>obtain⟨_,_,xs,_,ob,es,ep,e,_⟩:=x;exact⟨_,e⟩
 | set S n=>obtain⟨ob,es,ep,t,e,_⟩:=x;exact⟨_,e⟩
 | ins C dx fs=>obtain⟨_,_,_,e,_⟩:=x;exact⟨_,e⟩
 | own y=>exact x
 | xd fs=>obtain⟨mA,⟨od,es,ep,e,_⟩,_⟩:=x;exact⟨_,e⟩
 | xl lo hi=>obtain⟨t,u,v,e⟩:=x;exact⟨_,e⟩
 | gC ob u ih=>obtain⟨e,_⟩:=x;exact⟨_,e⟩
 | tbl ps=>exact⟨_,x⟩
 | met f y=>exact⟨_,x⟩
 | ext φ =>obtain⟨_,e,_⟩:=x;exact e
theorem Inv.iZ{X:Cx}{pins:List (Addr × Obj)}{σ :St}{H:Hp}{s:Shared}{h':Heap}{a:Addr}{o:HO}{t':Nat}(I:Inv X pins σ H s)(k: ∀ b u,s.heap.get? b=some u->h'.get? b=some u)(hp:s.heap.get? a=none)(new:aP X.prog X.w (upd H a o) h' a o) :
  H a=none/\Inv X pins σ (upd H a o) { s with heap:=h',toks:=t' }:=by
 have hn:H a=none:=by
  cases q:H a with
  | none=>rfl
  | some u =>
   obtain⟨ob,e⟩:=(I.bc a u q).get
   rw[hp] at e;cases e
 have ne: ∀ b u,s.heap.get? b=some u->b≠a:=λb u e z=>by rw[z,hp] at e;cases e
 refine⟨hn,I.un ⟨λb u q _ _ _=>k b u q,λb u q _ _ _=>⟨u.slots,k b u q⟩,λb u q n _=>?_,λb u q _=>⟨u,k b u q⟩,λb xs q=>?_,λb u xs q=>?_,λb ps q=>?_⟩ λb u e=>?_⟩
 . rw[ay (ne b u q)];exact n
 . rw[ay (aB q hn)];exact q
 . rw[ay (aB q hn)];exact q
 . exact⟨#[],by rw[ay (aB q hn),q];simp⟩
 . by_cases hb:b=a
   . subst hb;rw[bh] at e;cases e;exact new
   . rw[ay hb] at e;exact(I.bc b u e).pE (λc v _ q=>k c v q) (λc q=>by rw[ay (aB q hn)];exact q) λc xs q=>by rw[ay (aB q hn)];exact q
theorem iN{h h':Heap}(k: ∀ b o,h.get? b=some o->h'.get? b=some o):h.get? h'.objs.size=none:=by
 cases q:h.get? h'.objs.size with
 | none=>rfl
 | some o=>exact absurd (Heap.lt_size (k _ _ q)) (Nat.lt_irrefl _)
section
variable{prog:Program}{w:World}{A:Around}{E:Value->Shared->Prop}{s:Shared}
theorem gQ{a:Addr}{vs:List Value}{ss:List Str}{n:Nat}{Q:Value->Shared->Prop}(ho:s.heap.get? a=some (seqObj "list" vs.toArray n))(hS:StrsAre vs ss)(h64:vs.length < 64)
  (h: ∀(out:Array Value)(ss':List Str),StrsAre out.toList ss'->ss'.Perm ss->sortedS ss'=true->Q .none { s with heap:=sortedHeap s.heap a vs out }) :
  wpAny (model prog w) A (call (.builtin "list.sort") [.ref a]) Q E s:=by
 refine wpAny_call_entry PyProof.Rows.slot_list_sort ⟨_,ho,rfl⟩ PyProof.Rows.entry_list_sort (list_sort_treeK strKind_oneLt ho hS.keysOf (λv₁ v₂ rest e=>keyKind_strs (by rw[<- e];exact hS)) h64 λst' hp hs=>⟨_,rfl,?_⟩) (PyProof.Rows.args_list_sort _);have z:=sorted_out_str hS hp hs;exact h _ z.choose z.choose_spec.1 z.choose_spec.2.1 z.choose_spec.2.2
theorem qp{T:String}{r d:Addr}{n:Nat}{P:Nat->Value->Prop}{OK:Heap->Prop}{Q:Value->Shared->Prop}(K:PySem.W.KdlSrc prog w T r d n P OK)(hh:A.handled=none)(bc:OK s.heap)(hn:n<=sizeLine)
  (h: ∀(D:Addr)(h':Heap)(tk:Nat)(vs:List Value),(∀ b o,s.heap.get? b=some o->h'.get? b=some o)->h'.get? D=some (seqObj "list" vs.toArray 0)->s.heap.get? D=none->vs.length=n->(∀(j:Nat)(v:Value),vs[j]?=some v->P j v) ->
   wpAny (model prog w) A.in1 (call (.builtin "list.sort") [.ref D]) (λ_ z=>Q (.ref D) z) E { s with heap:=h',toks:=tk }):wpAny (model prog w) A (call (.builtin "sorted") [.ref r]) Q E s:=by
 refine Calls.call_function_entry kind_sorted plain_sorted entry_sorted (args_sorted1 (.ref r)) ?_;unfold Builtin.«sorted»;refine wpAny_bind (m:=checkCount "sorted" 1 1 [Value.ref r].length) (wpAny_pure (wpAny_bind (PySem.W.kdu_collect (A:=A.in1) K hh bc hn λh' tk acc hk hacc=>?_)));have many:acc.toList.length=n:=Array.length_toList.trans hacc.1;refine wpAny_bind (wpAny_newList (wpAny_bind (wpAny_holding (wpAny_mono (h h'.objs.size (h'.push { cls:= .type "list",data:= .seq acc.toList.toArray }) tk acc.toList (λb o e=>Heap.get?_push_of_some _ (hk b o e)) (Heap.get?_push_size _ rfl) (iN hk) many
  λj v e=>hacc.2 j v (Array.getElem?_toList ▸ e)) (λ_ z q=>wpAny_pure (Exists.intro _ (And.intro rfl q))) λ_ _ e=>e))) (many ▸ hn))
end
theorem kP{ss:List Str}: ∀{us:List Value},Vals (ss.map V.str) us->StrsAre us ss:=by
 induction ss with
 | nil=>intro us h;cases h;exact .nil
 | cons x r ih =>
  intro us h
  cases h with
  | cons hx ht =>
   obtain⟨t,rfl⟩:=hx
   exact .cons x t (ih ht)
theorem fV: ∀{us:List Value}{ss:List Str},StrsAre us ss->Vals (ss.map V.str) us
 | _,_,.nil=> .nil
 | _,_,.cons x t h=> .cons ⟨t,rfl⟩ (fV h)
theorem rL{P:Nat->Value->Prop}: ∀{ss:List Str}{vs:List Value},vs.length=ss.length->(∀(j:Nat)(v:Value)(x:Str),vs[j]?=some v->ss[j]?=some x-> ∃ t,v=Value.str x t)->StrsAre vs ss
 | [],[],_,_=> .nil
 | x::r,v::vs,hl,h=>by
  obtain⟨t,rfl⟩:=h 0 v x rfl rfl;exact .cons x t (rL (P:=P) (by simpa using hl) λj v y e1 e2=>h (j+1) v y (by simpa using e1) (by simpa using e2))
section
variable{X:Cx}
theorem iA:aM X (.builtin "sorted") (λxs H Q=> ∃ p ss,xs=[.ref p]/\eU X.K H p (ss.map V.str)/\ss.length < 64/\ ∀ l ss',H l=none->ss'.Perm ss->sortedS ss'=true->Q (.ref l) (upd H l (.lst (ss'.map V.str)))):=by
 intro pins s σ H xs us Q I r h;obtain⟨p,ss,rfl,hS,h64,q⟩:=h;obtain⟨u,rfl,ru⟩:=vals1 r;cases(show u=Value.ref p from ru);obtain⟨ak,hv,hl,hz⟩:=I.list hS;have sa:=kP hv;refine sorted_strs hl.isList sa (by rw[sa.length];exact h64) λout ss' a1 a2 a3=>?_;obtain⟨e,he⟩:=sortedAll_at s.heap ak out;have hlen:(ss'.map V.str).length<=sizeLine:=by rw[List.length_map,a2.length_eq];exact Nat.le_of_lt (Nat.lt_of_lt_of_le h64 (by decide))
 obtain⟨hn,I'⟩:=I.iZ (a:=s.heap.objs.size+1) (o:= .lst (ss'.map V.str)) (t':=s.toks) (λb o e=>sortedAll_old e) (Heap.get?_none_of_le (Nat.le_succ _)) ⟨hlen,out.toList,e,fV a1,by simpa [seqObj] using he⟩;exact⟨.ref _,_,I',rfl,q _ ss' hn a2 a3⟩
theorem iR(hc:X.calm=true):aM X (.builtin "sorted") (λxs H Q=> ∃ d kvs ss,xs=[.ref d]/\H d=some (.dK kvs)/\kvs.map (·.1)=ss.map Sum.inr/\ss.length < 64/\ ∀ l ss',H l=none->ss'.Perm ss->sortedS ss'=true->Q (.ref l) (upd H l (.lst (ss'.map V.str)))):=by
 intro pins s σ H xs us Q I r h;obtain⟨d,kvs,ss,rfl,hd,hk,h64,q⟩:=h;obtain⟨u,rfl,ru⟩:=vals1 r;cases(show u=Value.ref d from ru);obtain⟨z,lo,vs,rel,dd⟩:=nX I.bc hd;obtain⟨ep,da⟩:=dd.dictAt;have hlen:vs.length=ss.length:=by
  have e1:=rel.length;have e2:(kvs.map (·.1)).length=(ss.map (Sum.inr (α :=Int))).length:=by rw[hk]
  rw[List.length_map,List.length_map] at e2;omega
 refine qp (PySem.W.kdl_dict (knd:=aE X.prog X.w) (kvs:=vs) (ep:=ep) lo) (I.ok.hd hc) da (by rw[hlen];exact Nat.le_of_lt (Nat.lt_of_lt_of_le h64 (by decide))) λD h' tk ws keep hD hDn hl hP=>?_;have sa:StrsAre ws ss:=by
  refine rL (P:=λ_ _=>True) (by rw[hl,hlen]) λj v x e1 e2=>?_;obtain⟨k,y,e3,hk'⟩:=hP j v e1;have e4:(kvs.map (·.1))[j]?=some k:=by
   have e5:=rel.keys;rw[e5,List.getElem?_map,e3];rfl
  rw[hk,List.getElem?_map,e2] at e4;have e6:(Sum.inr x:Key)=k:=Option.some.inj e4;subst e6;rcases bg (show kz (Sum.inr x) v=true from hk') with⟨i,t,z,_⟩ | ⟨x',t,z,e⟩
  . cases z
  . cases z;exact⟨t,e⟩
 refine gQ (n:=0) hD sa (by rw[hl,hlen];exact h64) λout ss' a1 a2 a3=>?_;obtain⟨e,he⟩:=sortedHeap_at (out:=out) hD;have hle:(ss'.map V.str).length<=sizeLine:=by rw[List.length_map,a2.length_eq];exact Nat.le_of_lt (Nat.lt_of_lt_of_le h64 (by decide))
 have keep': ∀ b o,s.heap.get? b=some o->(sortedHeap h' D ws out).get? b=some o:=λb o e=>by
  rw[sortedHeap_old (λz=>by rw[z,hDn] at e;cases e) (Heap.lt_size (keep b o e))];exact keep b o e
 obtain⟨hn,I'⟩:=I.iZ (a:=D) (o:= .lst (ss'.map V.str)) (t':=tk) keep' hDn ⟨hle,out.toList,e,fV a1,by simpa [seqObj] using he⟩;exact⟨.ref _,_,I',rfl,q _ ss' hn a2 a3⟩
end
section
variable{prog:Program}{w:World}{A:Around}{E:Value->Shared->Prop}{s:Shared}
theorem k7:typeLookup (.type "tuple") "keys" =pure none:=am_miss_of_fast (by decide +kernel)
set_option maxHeartbeats 4500000 in
set_option maxRecDepth 9000 in
theorem k8{a:Addr}{o:Obj}{xs:Array Value}{k:Nat}{Q:Option Value->Shared->Prop}
  (hx:s.heap.get? a=some o) (hc:o.cls= .type "tuple") (hdat:o.data= .seq xs k) (hd:o.dict=none) (hA:A.handled=none)
  (h: ∀ h' tk,(∀ b o,s.heap.get? b=some o->h'.get? b=some o)->Q none { s with heap:=h',toks:=tk }):wpAny (model prog w) A (getAttr? (.ref a) "keys") Q E s:=by
 obtain⟨c,dct,dat,sl⟩:=o;simp only at hc hdat hd;subst hc hdat hd;obtain⟨h0,gs,dr,t0,o0⟩:=s;have hT: ∀ k,(Shared.mk h0 gs dr k o0).TypeIs (.ref a) "tuple" :=λ_=>Exists.intro _ (And.intro hx rfl);have f1:=sub_AttributeError;have f3:=F.slot_tuple_getattribute.lookup;have f4:=F.slot_tuple_getattribute.bind (.ref a);have f5:=am_tuple_getattr_none;unfold getAttr?;unfold getAttrBy?;unfold getAttrBy
 repeat (any_goals (first | assumption | exact hT _ | ((with_reducible show wpAny _ _ (call (Value.builtin "tuple.__getattribute__") _ _) _ _ _);refine call_meets F.slot_tuple_getattribute (hT _) am_entry_tuple_getattribute (F.args_tuple_getattribute_2 _ _) (meets_getattribute_miss_tuple a xs k sl "keys" _ k7 (by decide +kernel)) ⟨hx,hA,λh' tk' e hx'=>?_⟩) | wp_step))
 obtain⟨_,_,he⟩:=hx'.there
 with_reducible_and_instances unfold getattributeRaised
 repeat (any_goals (first | exact he | assumption | wp_step))
 exact h _ _ λb o e=>hx'.keeps b o e
end
section
variable{prog:Program}{w:World}{A:Around}{E:Value->Shared->Prop}{s:Shared}
theorem dW:entryFor table "dict.update.loop" =some Builtin.«dict.update.loop» :=entryFor_of_tree (by kernel_rfl)
theorem bL:plainId "dict.update.loop" =true:=by decide +kernel
theorem Iw{c:Prop}[Decidable c]{m m':Sem α}{M:Model}{Q: α ->Shared->Prop}(hc:c)(h:wpAny M A m Q E s):wpAny M A (if c then m else m') Q E s:=by rw[if_pos hc];exact h
noncomputable def i7(prog:Program)(w:World)(h:Heap)(v:Value)(kv:Key × Value):Prop:= ∃ b o kx n,v= .ref b/\h.get? b=some o/\o.cls= .type "tuple" /\o.data= .seq #[kx,kv.2] n/\(aE prog w).is kv.1 kx=true
theorem i7.keeps{h h':Heap}{v:Value}{kv:Key × Value}(x:i7 prog w h v kv)(k: ∀ b o,h.get? b=some o->o.cls= .type "tuple" ->h'.get? b=some o):i7 prog w h' v kv :=
 let ⟨b,o,kx,n,e,g,c,d,r⟩:=x;⟨b,o,kx,n,e,k b o g c,c,d,r⟩
theorem pe{R:Result->Shared->Prop}{it tp d:Addr}{items:Array Value}{kvs:List (Key × Value)}{res:Value}(hh:A.handled=none)(hne:tp≠it)(hdi:d≠it)(hdt:d≠tp)(hl:kvs.length=items.size)(hz:items.size < sizeLine) :
  ∀(k i:Nat)(ii:Int)(s:Shared)(acc:List (Key × Value)),items.size - i=k->i<=items.size->acc.length<=i->s.heap.IsTupleIter it tp i->s.heap.IsTuple tp items->s.heap.DictOf (aE prog w) d acc->(∃ od,s.heap.get? d=some od/\od.cls= .type "dict")->(∃ oi,s.heap.get? it=some oi/\oi.cls= .type "tuple_iterator") ->
   (∀(j:Nat)(v:Value)(kv:Key × Value),items[j]?=some v->kvs[j]?=some kv->i7 prog w s.heap v kv) ->
   (∀ s' ,s'.heap.DictOf (aE prog w) d (merged acc (kvs.drop i))->(∃ h' tk,s'={ s with heap:=h',toks:=tk })->(∀ b o,b≠d->b≠it->s.heap.get? b=some o->s'.heap.get? b=some o)->R (.ok (.ret res)) s') ->
   codeAny (model prog w) A (.builtin "dict.update.loop" ⟨[.ref d,.ref it,.int ii 0,res],[]⟩) R s:=by
 have W:=Walks.tuple (prog:=prog) (w:=w) (A:=A.in1) hh it tp hne items;intro k
 induction k with
 | zero =>
  intro i ii s acc hk hi hac hit htp hd hdc hic hP hR
  obtain rfl:i=items.size:=Nat.le_antisymm hi (by omega)
  refine codeAny_builtin dW ?_
  rw[Around.under_plainId bL _]
  show wpAny _ A.in1 (pyNext (.ref it) >>= _) _ _ s
  refine wpAny_bind (W.done s _ _ ⟨hit,htp⟩ λh' tk keep=>?_)
  refine wpAny_bind (m:=Builtin.Dict.addKeywords d []) (wpAny_pure ?_)
  refine wpAny_pure (hR _ ?_ ⟨h',tk,rfl⟩ λb o _ hb e=>keep b o (by simpa using hb) e)
  rw[List.drop_eq_nil_of_le (by omega)]
  exact hd.at λo e=>keep d o (by simpa using hdi) e
 | succ k ih =>
  intro i ii s acc hk hi hac hit htp hd hdc hic hP hR
  have hlt:i < items.size:=Nat.lt_of_le_of_ne hi (by omega)
  refine codeAny_builtin dW ?_
  rw[Around.under_plainId bL _]
  show wpAny _ A.in1 (pyNext (.ref it) >>= _) _ _ s
  refine wpAny_bind (W.item i s _ _ hlt ⟨hit,htp⟩ λv h' tk hv hst keep=>?_)
  have hkv:i < kvs.length:=by omega
  obtain⟨b,o,kx,n,rfl,hb,hc,hdat,his⟩:=hP i v kvs[i] hv (by simp[hkv])
  have hbi:b≠it:=λz=>by
   obtain⟨oi,e1,e2⟩:=hic;rw[z,e1] at hb;cases hb;rw[e2] at hc;exact absurd hc (by decide)
  have hb':h'.get? b=some o:=keep b o (by simpa using hbi) hb
  have hT:(({ s with heap:=h',toks:=tk }:Shared)).TypeIs (.ref b) "tuple" :=⟨o,hb',hc⟩
  have hd':h'.DictOf (aE prog w) d acc:=hd.at λo e=>keep d o (by simpa using hdi) e
  dsimp only
  refine wpAny_bind (wpAny_holding (wpAny_bind (wpAny_tryCatch ?_)))
  unfold Builtin.Dict.pairItems
  refine wpAny_bind (wpAny_typeOf hT (Iw (by decide) (wpAny_bind (wpAny_seqItems hb' hdat (wpAny_pure ?_)))))
  show wpAny _ _ (holding [kx,kvs[i].2] (dictSet d kx kvs[i].2)) _ _ _
  refine wpAny_holding (wpAny_dictSet_pairs (hsz:=by omega) his hd' λh'' dd hs=>?_)
  obtain⟨od,hod,hodc⟩:=hdc
  have hbd:b≠d:=λz=>by rw[z,hod] at hb;cases hb;rw[hodc] at hc;exact absurd hc (by decide)
  have keep2: ∀ b o,b≠d->b≠it->s.heap.get? b=some o->h''.get? b=some o:=λb o h1 h2 e=>(hs.2 b h1).trans (keep b o (by simpa using h2) e)
  refine wpAny_pure ⟨plainId_quiet bL _,?_⟩
  refine ih (i+1) (ii+1) _ (stored acc kvs[i].1 kvs[i].2) (by omega) hlt (Nat.le_trans (stored_length_le _ _ _) (by omega)) (hst.1.at λo e=>(hs.2 it (Ne.symm hdi)).trans e) (htp.at λo e=>keep2 tp o (Ne.symm hdt) hne e) dd ?_ ?_ ?_ ?_
  . obtain⟨q,es,ep,e1,e2,_⟩:=dd;exact⟨q,e1,e2.1⟩
  . obtain⟨oi,e1,e2,_⟩:=hst.1;exact⟨oi,(hs.2 it (Ne.symm hdi)).trans e1,e2⟩
  . intro j v kv e1 e2;refine(hP j v kv e1 e2).keeps λb' o' e3 e4=>keep2 b' o' (λz=>?_) (λz=>?_) e3
    . rw[z,hod] at e3;cases e3;rw[hodc] at e4;exact absurd e4 (by decide)
    . obtain⟨oi,f1,f2⟩:=hic;rw[z,f1] at e3;cases e3;rw[f2] at e4;exact absurd e4 (by decide)
  . rintro s' dd' ⟨h3,tk3,rfl⟩ keep3;refine hR _ ?_ ⟨h3,tk3,rfl⟩ λb o h1 h2 e=>keep3 b o h1 h2 (keep2 b o h1 h2 e);have e:kvs.drop i=kvs[i]::kvs.drop (i+1):=List.drop_eq_getElem_cons hkv;rw[e];exact dd'
theorem lz{p:Addr}{o:Obj}{items:Array Value}{n:Nat}{kvs:List (Key × Value)}{Q:Value->Shared->Prop}(hh:A.handled=none)(hb:sysModules < s.heap.objs.size)(hp:s.heap.get? p=some o)(hc:o.cls= .type "tuple")(hdt:o.data= .seq items n)(hdn:o.dict=none)
  (hl:kvs.length=items.size) (hz:items.size < sizeLine) (hP: ∀(j:Nat)(v:Value)(kv:Key × Value),items[j]?=some v->kvs[j]?=some kv->i7 prog w s.heap v kv)
  (h: ∀ h' tk,h'.DictOf (aE prog w) s.heap.objs.size (merged [] kvs)->(∀ b o,s.heap.get? b=some o->h'.get? b=some o)->Q (.ref s.heap.objs.size) { s with heap:=h',toks:=tk }) :
  wpAny (model prog w) A (call (.type "dict") [.ref p]) Q E s:=by
 refine callType_codes (Q₁ :=λz u=>z= .ref s.heap.objs.size/\u={ s with heap:=s.heap.push { cls:= .type "dict",data:= .dict #[] } }) F.kt_called_dict (F.kt_typeCall_dict_1 _) F.entry_dict_init (kt_code_dict_new _ ⟨rfl,rfl⟩) ?_;rintro obj s₁ ⟨rfl,rfl⟩;have up: ∀ b o,s.heap.get? b=some o->(s.heap.push { cls:= .type "dict",data:= .dict #[] }).get? b=some o:=λb o e=>Heap.get?_push_of_some _ e;have hnew:(s.heap.push { cls:= .type "dict",data:= .dict #[] }).DictOf (aE prog w) s.heap.objs.size []:=Heap.DictOf.new s.heap;have hp1:=up _ _ hp;refine⟨hnew.typeIs,F.args_dict_init_2 (.ref s.heap.objs.size) (.ref p),?_⟩
 with_unfolding_all refine wpAny_bind (m:=Builtin.Dict.selfAndRest _ _) (wpAny_bind (wpAny_notOrdered_dict hnew.typeIs (wpAny_pure ?_)))
 show wpAny _ _ (Builtin.Dict.updateFrom "dict.__init__" s.heap.objs.size (.ref p) [] .none) _ _ _;unfold Builtin.Dict.updateFrom;refine wpAny_bind (wpAny_typeOf (T:= "tuple") ⟨o,hp1,hc⟩ ?_);rw[if_pos (by decide)];refine wpAny_bind (k8 hp1 hc hdt hdn hh λh1 tk1 k1=>?_);simp only[Option.isNone_none,if_true];refine wpAny_bind (wpAny_rule ?_);have htp1:h1.IsTuple p items:=⟨o,k1 _ _ hp1,hc,n,hdt⟩
 refine wpAny_bind (wpAny_pyIter_tuple htp1 ?_);have up2: ∀ b o,h1.get? b=some o->(h1.push { cls:= .type "tuple_iterator",data:= .fields #[.ref p,.int 0 0] }).get? b=some o:=λb o e=>Heap.get?_push_of_some _ e;have hd1:h1.get? s.heap.objs.size=some { cls:= .type "dict",data:= .dict #[] }:=k1 _ _ (Heap.get?_push_size _ rfl);have hpl:p < h1.objs.size:=Heap.lt_size (k1 _ _ hp1);have hdl:s.heap.objs.size < h1.objs.size:=Heap.lt_size hd1;have hps:p < s.heap.objs.size:=Heap.lt_size hp;refine wpAny_pure ⟨plainId_quiet bL _,?_⟩;refine pe (A:=A.in1) (it:=h1.objs.size) (tp:=p) (kvs:=kvs) hh (Nat.ne_of_lt hpl) (Nat.ne_of_lt hdl) (Nat.ne_of_gt hps) hl hz items.size 0 0 _ [] rfl (Nat.zero_le _) (Nat.le_refl _) ⟨_,Heap.get?_push_size _ rfl,rfl,rfl⟩ (htp1.push _) ?_ ⟨_,up2 _ _ hd1,rfl⟩ ⟨_,Heap.get?_push_size _ rfl,rfl⟩ ?_ ?_
 . exact(hnew.at λo e=>up2 _ o (k1 _ o e))
 . exact λj v kv e1 e2=>(hP j v kv e1 e2).keeps λb o e _=>up2 b o (k1 b o (up b o e))
 . rintro s' dd ⟨h3,tk3,rfl⟩ keep3;refine⟨rfl,h h3 tk3 (by simpa using dd) λb o e=>keep3 b o (Nat.ne_of_lt (Heap.lt_size e)) (Nat.ne_of_lt (Heap.lt_size (k1 _ _ (up _ _ e)))) (up2 _ _ (k1 _ _ (up _ _ e)))⟩
end
section
variable{X:Cx}
noncomputable def lY(H:Hp)(y:V)(kv:Key × V):Prop:= ∃ b,y= .ref b/\H b=some (.tup [kV kv.1,kv.2])
theorem lZ{P:Program}{w:World}{H:Hp}{h:Heap}(ok:gv P w H h): ∀{ys:List V}{kvs:List (Key × V)}{ak:List Value},Paired (lY H) ys kvs->Vals ys ak-> ∃ vs:List (Key × Value),KV kvs vs/\vs.length=ak.length /\
  ∀(j:Nat)(v:Value)(kv:Key × Value),ak[j]?=some v->vs[j]?=some kv->i7 P w h v kv
 | _,_,_,.nil,.nil=>⟨[],.nil,rfl,λj v kv e=>by simp at e⟩
 | _,_,_,.cons (b:=kv0) hp hr,.cons hv hrv=>by
  obtain⟨vs,h1,h2,h3⟩:=lZ ok hr hrv;obtain⟨b,rfl,hb⟩:=hp;obtain⟨_,its0,r0,o,e1,e2,n,e3,_⟩:=(show aP P w H h b (.tup [kV kv0.1,kv0.2]) from ok b _ hb)
  obtain⟨u1,u2,rfl,r1,r2⟩:=vals2 r0;cases(show _=Value.ref b from hv);refine⟨(kv0.1,u2)::vs,.cons ⟨rfl,r2⟩ h1,by simp[h2],λj v kv f1 f2=>?_⟩;cases j with
  | zero =>
   simp only[List.getElem?_cons_zero,Option.some.injEq] at f1 f2
   subst f1 f2
   exact⟨b,o,u1,n,rfl,e1,e2,e3,jx r1⟩
  | succ j=>exact h3 j v kv (by simpa using f1) (by simpa using f2)
theorem KV.oY{kvs:List (Key × V)}{vs:List (Key × Value)}(r:KV kvs vs):KV (bX [] kvs) (merged [] vs):=KV.merge r .nil
theorem jB(hc:X.calm=true):aM X (.type "dict") (λxs H Q=> ∃ p ys kvs,xs=[.ref p]/\H p=some (.tup ys)/\Paired (lY H) ys kvs/\ys.length < sizeLine/\ ∀ d,H d=none->Q (.ref d) (upd H d (.dK (bX [] kvs)))):=by
 intro pins s σ H xs us Q I r h;obtain⟨p,ys,kvs,rfl,hp,hP,hz,q⟩:=h;obtain⟨u,rfl,ru⟩:=vals1 r;cases(show u=Value.ref p from ru);obtain⟨_,ak,r0,o,e1,e2,n,e3,e4⟩:=(show aP X.prog X.w H s.heap p (.tup ys) from I.bc p _ hp)
 obtain⟨vs,h1,h2,h3⟩:=lZ I.bc hP r0;have hlen:=r0.length;have hk:=Paired.length hP;refine lz (kvs:=vs) (I.ok.hd hc) I.big e1 e2 e3 e4 (by simpa using h2) (by simp;omega) (λj v kv f1 f2=>h3 j v kv (by simpa using f1) f2) λh' tk dd keep=>?_;have hle:(bX [] kvs).length<=sizeLine:=by have:=cV kvs [];simp at this;omega
 obtain⟨hn,I'⟩:=I.iZ (a:=s.heap.objs.size) (o:= .dK (bX [] kvs)) (t':=tk) keep (Heap.get?_none_of_le (Nat.le_refl _)) (nA hle (beq_eq_false_iff_ne.mpr (Ne.symm (Nat.ne_of_lt I.big))) (KV.oY h1) dd);exact⟨.ref _,_,I',rfl,q _ hn⟩
end
noncomputable def fH(P:Program)(w:World)(K:PySem.W.Frag)(mg:Str->Option Value)(base:Heap)(x:Str)(k:Nat)(ps:List Str)(sp:Sp):Prop :=
 ∃(f:Addr)(fd:FuncData),fE P w K mg base nI k f fd ps sp/\mg x=some (.ref f)/\PySem.W.keepIn K (.ref f)=true/\Binds K fd ps []/\ ∀ us:List Value,us.length=ps.length->bindArgs fd ⟨us,[]⟩=pure (ps.zip us)
theorem ue.args{K:PySem.W.Frag}{x qual:Str}{st:Stmt}{f:Addr}{fd:FuncData}{ps:List Str}(F:ue K x qual st f fd)
  (h: ∀(kV doc pm:Value)(an:Option Addr)(cdv ct:Value)(us:List Value),us.length=ps.length->bindArgs (PySem.W.fnOf x qual (bS st) (aX st) (af st) .none kV doc pm an cdv ct) ⟨us,[]⟩=pure (ps.zip us)): ∀ us:List Value,us.length=ps.length->bindArgs fd ⟨us,[]⟩=pure (ps.zip us):=by
 obtain⟨oc,od,kV,doc,pm,an,cdv,ct,osl,rfl,lk,hcd⟩:=F.ex;exact h kV doc pm an cdv ct
noncomputable def At(K:PySem.W.Frag)(mg:Str->Option Value)(x:Str)(st:Stmt):Prop:= ∃(f:Addr)(fd:FuncData),ue K x x st f fd/\mg x=some (.ref f)
section
variable{P:Program}{w:World}{K:PySem.W.Frag}{mg:Str->Option Value}{base:Heap}
theorem fH.mono{x:Str}{j k:Nat}{ps:List Str}{sp:Sp}(d:fH P w K mg base x j ps sp)(h:j<=k):fH P w K mg base x k ps sp:=let ⟨f,fd,F,r⟩:=d;⟨f,fd,F.mono h,r⟩
theorem At.ok{x:Str}{st:Stmt}{N ps:List Str}{k:Nat}{sp:Sp}(a:At K mg x st)(S:aw N ps (af st))
  (hb: ∀(kV doc pm:Value)(an:Option Addr)(cdv ct:Value)(us:List Value),us.length=ps.length->bindArgs (PySem.W.fnOf x x (bS st) (aX st) (af st) .none kV doc pm an cdv ct) ⟨us,[]⟩=pure (ps.zip us))
  (len: ∀ vs H Q E,sp vs H Q E->vs.length=ps.length)
  (hbody: ∀(f:Addr)(cdv:Value)(A:Around)(outer:List Env)(s:Shared)(H:Hp)(vs:List V)(Q:VK)(E:XK),cz k (A.deeper (envOfC x (af st) s.heap.objs.size f cdv))->sp vs H Q E ->
   ∃ t,p7 (gE nI P w K mg base N x (af st) f cdv A outer s H E).ll (aX st) t/\t { nx:=λ_ H'=>Q .non H',rt:=Q } (start N vs) H):fH P w K mg base x (k+1) ps sp:=by
 obtain⟨f,fd,F,hm⟩:=a;exact⟨f,fd,F.ok S len λcdv A outer s H vs Q E=>hbody f cdv A outer s H vs Q E,hm,F.kp,F.binds hb,F.args hb⟩
theorem At.tL{x:Str}{st:Stmt}{ps:List Str}{sp:Sp}(a:At K mg x st)(hb: ∀(kV doc pm:Value)(an:Option Addr)(cdv ct:Value)(us:List Value),us.length=ps.length->bindArgs (PySem.W.fnOf x x (bS st) (aX st) (af st) .none kV doc pm an cdv ct) ⟨us,[]⟩=pure (ps.zip us))
  (no: ∀ vs H Q E,¬ sp vs H Q E):fH P w K mg base x 0 ps sp:=by
 obtain⟨f,fd,F,hm⟩:=a;exact⟨f,fd,⟨λvs H Q E h=>absurd h (no vs H Q E),λA outer s H args us vs Q E _ _ _ _ h=>absurd h (no vs H Q E)⟩,hm,F.kp,F.binds hb,F.args hb⟩
end
section
variable{X:Cx}{x:Str}{k j:Nat}{ps:List Str}{sp:Sp}{e:Expr}{es:List Expr}{t:TA}{p pos:Pos}
theorem HU(D:fH X.prog X.w X.K X.mg X.base x j ps sp)(hr:cz k X.A)(hg:Gl X x)(hj:j<=k)(ha:PA X (e::es) t)(hdb:(x == ("__debug__" :Str))=false:=by decide)
  (he:starEach (e::es) X.env=(false,eval e X.env)::starEach es X.env:=by rfl) (hpl:(backTo pos (starEach es X.env)).any (·.1)=false:=by rfl):PE X (.Call (.Name x p) (e::es) [] pos) (rM sp [] E0 t):=by
 obtain⟨f,fd,F,hm,kp,bd,_⟩:=D;exact Aj F (hr.mono hj) hg hm kp bd .nil FZ ha hdb he hpl
end
theorem bM{K:PySem.W.Frag}{mg:Str->Option Value}{h:Heap}{x:Str}{st:Stmt}{f:Addr}{oc:Value}{od an:Option Addr}{osl:Array (Option Value)}{kV doc pm cdv ct:Value}(X:K.In h)(G:h.Ns mainGlobals mg)
  (a:PySem.W.nsIn K mainGlobals x=some (some (.ref f))) (l:K.lookup f=some ⟨oc,od,.func (PySem.W.fnOf x x (bS st) (aX st) (af st) .none kV doc pm an cdv ct),osl⟩) (c:PySem.W.codeIn K cdv x=true) (k:PySem.W.keepIn K (.ref f)=true):At K mg x st :=
 ⟨f,_,DL l c k,PySem.W.mg_of X G a⟩
structure Bl(mg:Str->Option Value):Prop where
 len:mg "len" =none
 range:mg "range" =none
 isinstance:mg "isinstance" =none
 int:mg "int" =none
 bool:mg "bool" =none
 tuple:mg "tuple" =none
 dict:mg "dict" =none
 sorted:mg "sorted" =none
 min:mg "min" =none
 max:mg "max" =none
 abs:mg "abs" =none
noncomputable def Kp(a:Addr)(H H':Hp):Prop:= ∀ b o,b≠a->H b=some o->H' b=some o
theorem Kp.refl(a:Addr)(H:Hp):Kp a H H:=λ_ _ _ h=>h
theorem Kp.trans{a:Addr}{H H1 H2:Hp}(x:Kp a H H1)(y:Kp a H1 H2):Kp a H H2:=λb o n h=>y b o n (x b o n h)
theorem gu.kp{a:Addr}{H H':Hp}(x:gu H H'):Kp a H H':=λb o _ h=>x b o h
theorem Kp.st{a:Addr}{H:Hp}{o:HO}:Kp a H (upd H a o):=λb u n q=>by rw[ay n];exact q
theorem Kp.lst{a b:Addr}{H H':Hp}{K:PySem.W.Frag}{xs:List V}{kvs:List (Key × V)}(x:Kp a H H')(ha:H a=some (.dK kvs))(h:eU K H b xs):eU K H' b xs:=by
 rcases h with(h | ⟨o,h⟩) | h
 . exact .inl (.inl (x _ _ (lU h ha (by intro z;cases z)) h))
 . exact .inl (.inr ⟨o,x _ _ (lU h ha (by intro z;cases z)) h⟩)
 . exact .inr h
theorem Kp.tup{a b:Addr}{H H':Hp}{xs:List V}{kvs:List (Key × V)}(x:Kp a H H')(ha:H a=some (.dK kvs))(h:H b=some (.tup xs)):H' b=some (.tup xs):=x _ _ (lU h ha (by intro z;cases z)) h
class nQ (t:TE):Prop where
 m: ∀ σ H Q Q',(∀ x H1,Q x H1->Q' x H1)->t σ H Q->t σ H Q'
class oR (t:TT):Prop where
 m: ∀ σ H Q Q',(∀ x H1,Q x H1->Q' x H1)->t σ H Q->t σ H Q'
class Iu (t:TA):Prop where
 m: ∀ σ H Q Q',(∀ x H1,Q x H1->Q' x H1)->t σ H Q->t σ H Q'
class IE (t:TO):Prop where
 m: ∀ σ H Q Q',(∀ x H1,Q x H1->Q' x H1)->t σ H Q->t σ H Q'
class IF (t:TI):Prop where
 m: ∀ σ H Q Q',(∀ x H1,Q x H1->Q' x H1)->t σ H Q->t σ H Q'
class II (r:R2):Prop where
 m: ∀ x y H Q Q',(∀ x H1,Q x H1->Q' x H1)->r x y H Q->r x y H Q'
class ID (r:V->Hp->VK->Prop):Prop where
 m: ∀ x H Q Q',(∀ x H1,Q x H1->Q' x H1)->r x H Q->r x H Q'
class IL (r:List V->Hp->VK->Prop):Prop where
 m: ∀ x H Q Q',(∀ x H1,Q x H1->Q' x H1)->r x H Q->r x H Q'
class IV (r:V->List V->Hp->VK->Prop):Prop where
 m: ∀ x xs H Q Q',(∀ x H1,Q x H1->Q' x H1)->r x xs H Q->r x xs H Q'
class IY (r:V->Option Int->Option Int->Hp->VK->Prop):Prop where
 m: ∀ x l u H Q Q',(∀ x H1,Q x H1->Q' x H1)->r x l u H Q->r x l u H Q'
class HM (sp:Sp):Prop where
 m: ∀ vs H Q Q' E,(∀ x H1,Q x H1->Q' x H1)->sp vs H Q E->sp vs H Q' E
section
variable{X:Cx}
noncomputable def E8(K:PySem.W.Frag):List V->Hp->VK->Prop:=λxs H Q=> ∃ p ys,xs=[.ref p]/\(eU K H p ys\/fk K H p ys)/\Q (.int ys.length) H
noncomputable def GN:List V->Hp->VK->Prop:=λxs H Q=> ∃ z,xs=[.str z]/\z.length<=sizeLine/\Q (.int z.length) H
theorem yA:aM X (.builtin "len") (λxs H Q=>E8 X.K xs H Q\/GN xs H Q):=my.or ni
noncomputable def EF(K:PySem.W.Frag):List V->Hp->VK->Prop:=λxs H Q=> ∃ x T t b,xs=[x,.ty T]/\gq K H x t/\PySem.W.kitOne K t (.type T)=some b/\Q (.bl b) H
theorem zb:aM X (.builtin "isinstance") (EF X.K):=n5
noncomputable def ug(K:PySem.W.Frag):List V->Hp->VK->Prop:=λxs H Q=> ∃ p ss,xs=[.ref p]/\eU K H p (ss.map V.str)/\ss.length < 64/\ ∀ l ss',H l=none->ss'.Perm ss->sortedS ss'=true->Q (.ref l) (upd H l (.lst (ss'.map V.str)))
noncomputable def uk:List V->Hp->VK->Prop:=λxs H Q=> ∃ d kvs ss,xs=[.ref d]/\H d=some (.dK kvs)/\kvs.map (·.1)=ss.map Sum.inr/\ss.length < 64/\ ∀ l ss',H l=none->ss'.Perm ss->sortedS ss'=true->Q (.ref l) (upd H l (.lst (ss'.map V.str)))
noncomputable def BI:List V->Hp->VK->Prop:=λxs H Q=> ∃ p ys kvs,xs=[.ref p]/\H p=some (.tup ys)/\Paired (lY H) ys kvs/\ys.length < sizeLine/\ ∀ d,H d=none->Q (.ref d) (upd H d (.dK (bX [] kvs)))
theorem vq(hc:X.calm=true):aM X (.type "dict") BI:=jB hc
noncomputable def E9:List V->Hp->VK->Prop:=λxs H Q=>(∃ i,xs=[.int i]/\Q (.int i) H)\/ ∃ k,xs=[.bl k]/\Q (.int (if k then 1 else 0)) H
noncomputable def Bu(K:PySem.W.Frag):List V->Hp->VK->Prop:=λxs H Q=> ∃ p ys,xs=[.ref p]/\((eU K H p ys/\ ∀ l,H l=none->Q (.ref l) (upd H l (.tup ys)))\/(fk K H p ys/\Q (.ref p) H))
theorem xN:aM X (.type "int") E9:=tw
theorem Ai:aM X (.type "tuple") (Bu X.K):=k3
end
structure BD(D D':Ends):Prop where
 nx: ∀ σ H,D.nx σ H->D'.nx σ H
 rt: ∀ v H,D.rt v H->D'.rt v H
 bk: ∀ σ H,D.bk σ H->D'.bk σ H
 ct: ∀ σ H,D.ct σ H->D'.ct σ H
class IK (t:TS):Prop where
 m: ∀ D D' σ H,BD D D'->t D σ H->t D' σ H
class oW (g:TG):Prop where
 m: ∀ x σ H Q Q',(∀ σ2 H2,Q σ2 H2->Q' σ2 H2)->g x σ H Q->g x σ H Q'
class HR (g:nJ):Prop where
 m: ∀ x σ H Q Q',(∀ σ2 H2,Q σ2 H2->Q' σ2 H2)->g x σ H Q->g x σ H Q'
theorem Fz{K:PySem.W.Frag}{a:Addr}{xs:List V}{k:Nat}{g:TG}{tt:TT}{te:TE}[oW g][oR tt][nQ te]{σ :St}{H:Hp}{Q:VK}(Pv:Nat->List V->Hp->Prop)(h0:Pv 0 [] H)(hl: ∀ i ys H,i<=xs.length->Pv i ys H->fk K H a xs/\ys.length<=i)(hz:xs.length<=sizeLine)
  (hs: ∀ i x ys H,xs[i]?=some x->Pv i ys H->g x (σ ++List.replicate k none) H fun σ2 H2=>tt σ2 H2 λb H3=>if b=true then te σ2 H3 λy H4=>Pv (i+1) (ys++[y]) H4 else Pv (i+1) ys H3)
  (hd: ∀ ys H,Pv xs.length ys H-> ∀ p,H p=none->Q (.ref p) (upd H p (.lst ys))) :
  ∃ W:Nat->Nat->List V->Hp->Prop,(∃ m,W 0 m [] H)∧ ∀ i m ys H,W i m ys H->((uE K a).stop i H∧ ∀ p,H p=none->Q (.ref p) (upd H p (.lst ys))) ∨
   ((uE K a).go i H∧ys.length < sizeLine∧ ∀ x H',(uE K a).AO i H x H'->g x (σ ++List.replicate k none) H' fun σ2 H2=>tt σ2 H2 λb H3=>if b=true then te σ2 H3 λy H4=> ∃ m',m' < m∧W (i+1) m' (ys++[y]) H4 else ∃ m',m' < m∧W (i+1) m' ys H3):=Dt (K:=K) (a:=a) (k:=k) (g:=g) (tt:=tt) (te:=te) (σ := σ) (Q:=Q) Pv h0 hl hz hs hd (λx σ H Q Q' f h=>oW.m (g:=g) x σ H Q Q' f h) (oR.m (t:=tt)) (nQ.m (t:=te))
noncomputable def stK(a:Addr)(k:Int)(l:Option Int):List (Key × V):=match l with
 | none=>[(.inr "script",.ref a),(.inr "k",.int k)]
 | some l=>[(.inr "script",.ref a),(.inr "k",.int k),(.inr "left",.int l)]
noncomputable def rP(K:PySem.W.Frag)(H:Hp)(a:Addr)(xs:List V):Prop:=(∃ o,H a=some (.gC o (.lst xs))) \/
 ∃(o:Obj)(ak:Array Value)(n:Nat),K.lookup a=some o/\o.cls= .type "list" /\o.dict=none/\o.data= .seq ak n/\ak.size<=sizeLine/\Vals xs ak.toList
theorem rP.sq{K:PySem.W.Frag}{H:Hp}{a:Addr}{xs:List V}(h:rP K H a xs):eU K H a xs:=by
 rcases h with⟨o,h⟩ | h
 . exact .inl (.inr ⟨o,h⟩)
 . exact .inr h
theorem rP.upd{K:PySem.W.Frag}{H:Hp}{a c:Addr}{xs:List V}{u o':HO}(h:rP K H a xs)(hc:H c=some u)(hu: ∀ o w,u≠ .gC o w):rP K (upd H c o') a xs:=by
 rcases h with⟨o,h⟩ | h
 . exact .inl ⟨o,by rw[ay (lU h hc λz=>hu _ _ z.symm)];exact h⟩
 . exact .inr h
theorem Kp.gC{st a:Addr}{H H':Hp}{K:PySem.W.Frag}{xs:List V}{kvs:List (Key × V)}(x:Kp st H H')(ha:H st=some (.dK kvs))(h:rP K H a xs):rP K H' a xs:=by
 rcases h with⟨o,h⟩ | h
 . exact .inl ⟨o,x _ _ (lU h ha (by intro z;cases z)) h⟩
 . exact .inr h
theorem gu.gC{a:Addr}{H H':Hp}{K:PySem.W.Frag}{xs:List V}(x:gu H H')(h:rP K H a xs):rP K H' a xs:=by
 rcases h with⟨o,h⟩ | h
 . exact .inl ⟨o,x _ _ h⟩
 . exact .inr h
noncomputable def gW(K:PySem.W.Frag)(H:Hp)(st:Addr)(k:Int)(l:Option Int):Prop:= ∃(a:Addr)(ns:List Int),H st=some (.dK (stK a k l))/\rP K H a (ns.map V.int)/\ns.length<=63/\0<=k
theorem gW.keep{K:PySem.W.Frag}{H H':Hp}{st:Addr}{k:Int}{l:Option Int}(x:gW K H st k l)(y:Kp st H H')(e:H' st=H st):gW K H' st k l :=
 let ⟨a,ns,h1,h2,h3,h4⟩:=x;⟨a,ns,e.trans h1,y.gC h1 h2,h3,h4⟩
theorem gW.same{K:PySem.W.Frag}{H H':Hp}{st:Addr}{k:Int}{l:Option Int}(x:gW K H st k l)(y:gu H H'):gW K H' st k l :=
 let ⟨a,ns,h1,h2,h3,h4⟩:=x;gW.keep ⟨a,ns,h1,h2,h3,h4⟩ y.kp ((y _ _ h1).trans h1.symm)
theorem gW.upd{K:PySem.W.Frag}{H:Hp}{st c:Addr}{k:Int}{l:Option Int}{u o:HO}(x:gW K H st k l)(hc:H c=some u)(hu: ∀ o w,u≠ .gC o w)(hn:c≠st):gW K (upd H c o) st k l :=
 let ⟨a,ns,h1,h2,h3,h4⟩:=x;⟨a,ns,by rw[ay (Ne.symm hn)];exact h1,h2.upd hc hu,h3,h4⟩
theorem gW.at{K:PySem.W.Frag}{H:Hp}{st:Addr}{k:Int}{l:Option Int}(x:gW K H st k l): ∃ kvs,H st=some (.dK kvs):=let ⟨a,ns,h1,_⟩:=x;⟨_,h1⟩
theorem gW.pos{K:PySem.W.Frag}{H:Hp}{st:Addr}{k:Int}{l:Option Int}(x:gW K H st k l):0<=k:=let ⟨a,ns,h1,_,_,h⟩:=x;h
noncomputable def noStar:Expr->Bool
 | .Starred _ _=>false
 | _=>true
theorem cO{e:Expr}{es:List Expr}{env:Env}(h:noStar e=true):starEach (e::es) env=(false,eval e env)::starEach es env:=by
 cases e<;>first | rfl | cases h
theorem gY{pos:Pos}{env:Env}: ∀{es:List Expr},es.all noStar=true->(backTo pos (starEach es env)).any (·.1)=false
 | [],_=>rfl
 | e::es,h=>by
  have h:=Bool.and_eq_true_iff.mp (List.all_cons ▸ h);rw[cO h.1];have:=gY (pos:=pos) (env:=env) h.2;unfold backTo at this ⊢;simp only[List.map_cons,List.any_cons,Bool.false_or];exact this
section
variable{X:Cx}{e:Expr}{es:List Expr}{te:TE}{t:TA}
theorem pk(ha:PE X e te)(hr:PA X es t)(hs:noStar e=true:=by rfl):PA X (e::es) (wx te t):=yP ha hr (cO hs)
variable{x:Str}{k j:Nat}{ps:List Str}{sp:Sp}{p pos:Pos}{id T:String}{r:List V->Hp->VK->Prop}
theorem kd(D:fH X.prog X.w X.K X.mg X.base x j ps sp)(hr:cz k X.A)(hg:Gl X x)(hj:j<=k)(ha:PA X (e::es) t)(hdb:(x == ("__debug__" :Str))=false:=by decide)(he:noStar e=true:=by rfl)(hpl:es.all noStar=true:=by rfl) :
  PE X (.Call (.Name x p) (e::es) [] pos) (rM sp [] E0 t):=HU D hr hg hj ha hdb (cO he) (gY hpl)
theorem kB(hc:aM X (.builtin id) r)(hg:Gl X x)(hm:X.mg x=none)(hv:bootBuiltins x=some (.builtin id))(ha:PA X (e::es) t)(hn:x≠ "__name__" :=by decide)(hdb:(x == ("__debug__" :Str))=false:=by decide)(he:noStar e=true:=by rfl)(hpl:es.all noStar=true:=by rfl) :
  PE X (.Call (.Name x p) (e::es) [] pos) (Dl r t):=vN hc hg hm hv ha hn hdb (cO he) (gY hpl)
theorem kT(hc:aM X (.type T) r)(hg:Gl X x)(hm:X.mg x=none)(hv:bootBuiltins x=some (.type T))(ha:PA X (e::es) t)(hn:x≠ "__name__" :=by decide)(hdb:(x == ("__debug__" :Str))=false:=by decide)(he:noStar e=true:=by rfl)(hpl:es.all noStar=true:=by rfl) :
  PE X (.Call (.Name x p) (e::es) [] pos) (Dl r t):=rV hc hg hm hv ha hn hdb (cO he) (gY hpl)
end
structure QE(X:Cx)(e:Expr)(t:TE):Prop where h:PE X e t
structure QT(X:Cx)(e:Expr)(t:TT):Prop where h:PT X e t
structure QW(X:Cx)(e:Expr)(t:TT):Prop where h:PW X e t
structure QA(X:Cx)(es:List Expr)(t:TA):Prop where h:PA X es t
structure QO(X:Cx)(e:Option Expr)(t:TO):Prop where h:PO X e t
structure QS(X:Cx)(s:Stmt)(t:TS):Prop where h:PS X s t
structure ux(X:Cx)(s:List Stmt)(t:TS):Prop where h:p7 X s t
structure QG(X:Cx)(e:Expr)(t:TG):Prop where h:PG X e t
structure EA(X:Cx)(e:List Expr)(t:nJ):Prop where h:Fw X e t
structure QI(X:Cx)(tg e:Expr)(t:TI):Prop where h:PI X tg e t
structure QF(X:Cx)(es:List Expr)(t:TT):Prop where h:PF X es t
structure QP(X:Cx)(pos:Pos)(ks:List (Option Expr))(vs:List Expr)(t:List (TE × TE)):Prop where h:FR X pos ks vs t
section
variable{X:Cx}{a b c e o i:Expr}{es:List Expr}{ta tb tc te td ty tx tv to ti:TE}{t t':TT}{tr:TA}{pos p p2 pos' apos cpos:Pos}{x y:Str}
theorem qv(i:Nat){x:Str}{pos:Pos}(hN:X.N[i]?=some x:=by rfl)(hv:Ey X.env.scope x:=by first | exact Or.inl rfl | exact Or.inr (Or.inl rfl) | exact Or.inr (Or.inr rfl))(hd:(x == ("__debug__" :Str))=false:=by decide)
  (hcd:(x == ("__classdict__" :Str))=false:=by decide):QE X (.Name x pos) (G0 i):=⟨CO hN hv hd hcd⟩
theorem Dh{n:Int}{j:Nat}:QE X (.Constant (.int n) j pos) (tC (.int n)):=⟨BW⟩
theorem EW{n:Bool}{j:Nat}:QE X (.Constant (.bool n) j pos) (tC (.bl n)):=⟨Ez⟩
theorem BM{j:Nat}:QE X (.Constant .none j pos) (tC .non):=⟨Ed⟩
theorem Co{n:Str}{j:Nat}:QE X (.Constant (.str n) j pos) (tC (.str n)):=⟨D9⟩
theorem yj{v:V}{u:Value}(hg:Gl X x)(hm:X.mg x=some u)(r:RelV v u)(hd:(x == ("__debug__" :Str))=false:=by decide):QE X (.Name x pos) (tC v):=⟨xt hg hm r hd⟩
theorem yI{v:V}{u:Value}(hg:Gl X x)(hm:X.mg x=none)(hv:bootBuiltins x=some u)(r:RelV v u)(hn:x≠ "__name__" :=by decide)(hd:(x == ("__debug__" :Str))=false:=by decide):QE X (.Name x pos) (tC v):=⟨xH hg hm hv r hn hd⟩
theorem Gu{op:Operator}{r:R2}(ho:cI X (binaryOp op) r)(ha:QE X a ta)(hb:QE X b tb):QE X (.BinOp a op b pos) (yQ r ta tb):=⟨GS ho ha.h hb.h⟩
theorem B3(ha:QE X a ta):QE X (.UnaryOp .Not a pos) (AW ta):=⟨D0 ha.h⟩
theorem Ct{op:BoolOp}(h:QE X a ta):QE X (.BoolOp op [a] pos) ta:=⟨Bj h.h⟩
theorem EH{rest:List Expr}(ha:QE X a ta)(hb:QE X (.BoolOp .Or (b::rest) pos) tb):QE X (.BoolOp .Or (a::b::rest) pos) (FX ta tb):=⟨Gi ha.h hb.h⟩
theorem xf(hc:QT X c t)(ha:QE X a ta)(hb:QE X b tb):QE X (.IfExp c a b pos) (IQ t ta tb):=⟨xb hc.h ha.h hb.h⟩
theorem Em{x1}(h:QA X es tr):QE X (.Tuple es x1 pos) (Gd tr):=⟨BS h.h⟩
theorem B9(h:QA X es tr):QE X (.List es pos) (EO tr):=⟨C5 h.h⟩
theorem uC:QE X (.Dict [] [] pos) wW:=⟨wV⟩
theorem ye:QP X pos [] [] []:=⟨zM⟩
theorem wG{k v:Expr}{ks:List (Option Expr)}{vs:List Expr}{tk:TE}{trs:List (TE × TE)}(hk:QE X k tk)(hv:QE X v tv)(hr:QP X pos ks vs trs):QP X pos (some k::ks) (v::vs) ((tk,tv)::trs):=⟨vI hk.h hv.h hr.h⟩
theorem yE{ks:List (Option Expr)}{vs:List Expr}{trs:List (TE × TE)}(h:QP X pos ks vs trs)(hall:ks.all (·.isSome)=true)(hl:ks.length=vs.length)(h0:ks≠[])(h15:ks.length<=15):QE X (.Dict ks vs pos) (Ay trs):=⟨zJ h.h hall hl h0 h15⟩
theorem zG:QO X none q9:=⟨ya⟩
theorem yY(h:QE X e te):QO X (some e) (AQ te):=⟨zX h.h⟩
theorem vn{r:V->Option Int->Option Int->Hp->VK->Prop}{lo hi:Option Expr}{tl th:TO}(hr:xj X r)(he:QE X e te)(hl:QO X lo tl)(hu:QO X hi th):QE X (.Subscript e (.Slice lo hi none p2) pos) (IG r te tl th):=⟨wj hr he.h hl.h hu.h⟩
theorem GR{r:R2}(hr:sk X r)(ha:QE X a ta)(hb:QE X b tb)(hs:m5 b):QE X (.Subscript a b pos) (yQ r ta tb):=⟨Fx hr ha.h hb.h hs⟩
theorem wD{f:Expr}(hu:X.A.units+1 < cLine)(ho:QE X o td)(he:QE X e ty)(hf:QE X f tx)(m:M2 X o "get" apos e f cpos):QE X (.Call (.Attribute o "get" apos) [e,f] [] cpos) (vw td ty tx):=⟨uo hu ho.h he.h hf.h m⟩
theorem DO:QA X [] Fp:=⟨CP⟩
theorem qk(ha:QE X e te)(hr:QA X es tr)(hs:noStar e=true:=by rfl):QA X (e::es) (wx te tr):=⟨pk ha.h hr.h hs⟩
variable{k j:Nat}{ps:List Str}{sp:Sp}{id T:String}{r:List V->Hp->VK->Prop}
theorem qd(D:fH X.prog X.w X.K X.mg X.base x j ps sp)(hr:cz k X.A)(hg:Gl X x)(hj:j<=k)(ha:QA X (e::es) tr)(hdb:(x == ("__debug__" :Str))=false:=by decide)(he:noStar e=true:=by rfl)(hpl:es.all noStar=true:=by rfl) :
  QE X (.Call (.Name x p) (e::es) [] pos) (rM sp [] E0 tr):=⟨kd D hr hg hj ha.h hdb he hpl⟩
theorem qB(hc:aM X (.builtin id) r)(hg:Gl X x)(hm:X.mg x=none)(hv:bootBuiltins x=some (.builtin id))(ha:QA X (e::es) tr)(hn:x≠ "__name__" :=by decide)(hdb:(x == ("__debug__" :Str))=false:=by decide)(he:noStar e=true:=by rfl)(hpl:es.all noStar=true:=by rfl) :
  QE X (.Call (.Name x p) (e::es) [] pos) (Dl r tr):=⟨kB hc hg hm hv ha.h hn hdb he hpl⟩
theorem qT(hc:aM X (.type T) r)(hg:Gl X x)(hm:X.mg x=none)(hv:bootBuiltins x=some (.type T))(ha:QA X (e::es) tr)(hn:x≠ "__name__" :=by decide)(hdb:(x == ("__debug__" :Str))=false:=by decide)(he:noStar e=true:=by rfl)(hpl:es.all noStar=true:=by rfl) :
  QE X (.Call (.Name x p) (e::es) [] pos) (Dl r tr):=⟨kT hc hg hm hv ha.h hn hdb he hpl⟩
theorem Gn{name:Str}{rm:V->List V->Hp->VK->Prop}(pa:PlainAttrs T)(slot:Slot T name id)(hty:typeOf (.builtin id)=pure (.type "method_descriptor"))(hm:FH X id rm)(ho:QE X o to)(ha:QA X [e] tr)
  (hbase:attributeBase o name X.env (eval o X.env)=eval o X.env:=by rfl) (hline:(apos.endLine == cpos.line)=true:=by rfl) (hs:noStar e=true:=by rfl) :
  QE X (.Call (.Attribute o name apos) [e] [] cpos) (IM X.K T rm to tr):=⟨FC pa slot hty hm ho.h ha.h hbase (by rw[cO hs];rfl) hline (cO hs) rfl⟩
theorem yO{op:CmpOp}{r:R2}(ho:cI X (compareOp op) r)(ha:QE X a ta)(hb:QE X b tb)(hm:behindInMarks op b=false):QE X (.Compare a [op] [b] pos) (yQ r ta tb):=⟨y0 ho ha.h hb.h hm⟩
theorem y7{op:CmpOp}{r:R2}(ho:cI X (compareOp op) r)(ha:QE X a ta)(hb:QE X b tb)(hm:behindInMarks op b=false):QT X (.Compare a [op] [b] pos) (vy (yQ r ta tb)):=⟨zK ho ha.h hb.h hm⟩
theorem Ar(ha:QT X a t):QW X (.BoolOp .And [a] pos) t:=⟨pw_and1 ha.h⟩
theorem Di(ha:QT X a t):QW X (.BoolOp .Or [a] pos) t:=⟨pw_or1 ha.h⟩
theorem DR{rest:List Expr}(ha:QT X a t)(hb:QW X (.BoolOp .And (b::rest) pos) t'):QW X (.BoolOp .And (a::b::rest) pos) (Gp t t'):=⟨pw_and ha.h hb.h⟩
theorem EZ{rest:List Expr}(ha:QT X a t)(hb:QW X (.BoolOp .Or (b::rest) pos) t'):QW X (.BoolOp .Or (a::b::rest) pos) (Ir t t'):=⟨pw_or ha.h hb.h⟩
theorem QW.pt(h:QW X e t):QT X e t:=⟨h.h.pt⟩
theorem BF(ha:QT X a t):QT X (.UnaryOp .Not a pos) (FD t):=⟨Ci ha.h⟩
theorem CZ(h:QE X e te)(he: ∀ whole,isTrue e X.env whole=(do let v <- whole;standAt e.pos;holding [v] (truthy v)):=by intro _;rfl):QT X e (tB te):=⟨Ef h.h he⟩
theorem qF{i:Nat}(hN:X.N.Nodup)(hi:X.N[i]?=some x)(hx:Loc X.env.scope x)(hf:X.fn x=true\/X.env.scope.names.lookup x=some .local:=by first | exact .inl rfl | exact .inr rfl | assumption):QG X (.Name x pos) (dH i):=⟨Ae hN hi hx hf⟩
theorem zS:EA X [] sO:=⟨yx⟩
theorem uP{t:TG}{u:nJ}(h1:QG X e t)(h2:EA X es u)(hs:(assignEach (e::es) X.env).map (·.2)=assign e X.env::(assignEach es X.env).map (·.2):=by rfl):EA X (e::es) (ji t u):=⟨vA h1.h h2.h hs⟩
theorem Dr{k:Nat}{t:nJ}{n:Nat}(hc:X.calm=true)(h:EA X es t)(hn:(assignEach es X.env).length=n:=by rfl)(hst:(assignEach es X.env).findIdx? (·.1)=none:=by rfl):QG X (.Tuple es k pos) (rY X.K n t):=⟨Cj hc h.h hn hst⟩
variable{tg iter l:Expr}{wi:TI}{g:TG}{ta':TA}
theorem CA:QF X [] AX:=⟨CQ⟩
theorem Ep(h:QT X c t):QF X [c] t:=⟨Bw h.h⟩
variable{scope:Scope}{ifs:List Expr}{body rest:List Stmt}{spos py:Pos}{tb' ts us:TS}{st:Stmt}
theorem vE(vars:List Str)(hc:X.calm=true)(hx: ∀ v s,¬ X.xe v s)(hkind:scope.kind= .function)(hlc:fu scope.names X.env.scope.names X.N vars=true)(hi:QI X tg iter wi)
  (hb: ∀ cl C s₀ H₀ ex pn,QG (dS X vars scope cl C s₀ H₀ ex pn) tg g/\QF (dS X vars scope cl C s₀ H₀ ex pn) ifs t/\QE (dS X vars scope cl C s₀ H₀ ex pn) e te) (hgk:GK X.N.length g)
  (hs: ∀ x,foldedSetIterable iter X.env x=pure x:=by intro _;rfl):QE X (.ListComp e [⟨tg,iter,ifs,0⟩] scope pos) (Ha vars.length wi g t te) :=
 ⟨uw vars hc hx hkind hlc hi.h (λcl C s₀ H₀ ex pn=>let ⟨h1,h2,h3⟩:=hb cl C s₀ H₀ ex pn;⟨h1.h,h2.h,h3.h⟩) hgk hs⟩
theorem wM(vars:List Str)(i:Nat)(hc:X.calm=true)(hx: ∀ v s,¬ X.xe v s)(hkind:scope.kind= .function)(hlc:fu scope.names X.env.scope.names X.N vars=true)(hN:X.N.Nodup)(hiy:X.N[i]?=some y)(hy:Loc X.env.scope y)(hi:QI X tg iter wi)
  (hb: ∀ cl C s₀ H₀ ex pn,QG (dS X vars scope cl C s₀ H₀ ex pn) tg g/\QF (dS X vars scope cl C s₀ H₀ ex pn) ifs t/\QE (dS X vars scope cl C s₀ H₀ ex pn) e te) (hgk:GK X.N.length g)
  (hsw:swapsWith (.ListComp e [⟨tg,iter,ifs,0⟩] scope pos) (some (.Name y py)) spos.line X.env=pure true:=by rfl) (hs: ∀ x,foldedSetIterable iter X.env x=pure x:=by intro _;rfl)
  (hf:X.fn y=true\/X.env.scope.names.lookup y=some .local:=by first | exact .inl rfl | exact .inr rfl | assumption) :
  QS X (.Assign [.Name y py] (.ListComp e [⟨tg,iter,ifs,0⟩] scope pos) spos) (u0 vars.length i wi g t te) :=
 ⟨uV vars i hc hx hkind hlc hN hiy hy hi.h (λcl C s₀ H₀ ex pn=>let ⟨h1,h2,h3⟩:=hb cl C s₀ H₀ ex pn;⟨h1.h,h2.h,h3.h⟩) hgk hsw hs hf⟩
theorem Du{i:Nat}(hN:X.N.Nodup)(hi:X.N[i]?=some x)(hx:Loc X.env.scope x)(he:QE X e te)(hs:swapsWith e (some (.Name x pos')) pos.line X.env=pure false:=by rfl)(hf:X.fn x=true\/X.env.scope.names.lookup x=some .local:=by first | exact .inl rfl | exact .inr rfl | assumption) :
  QS X (.Assign [.Name x pos'] e pos) (yh te (dH i)):=⟨DH hN hi hx he.h hs hf⟩
theorem CT(he:QE X e te)(hg:QG X tg g)(hs:swapsWithSole [tg] e pos.line X.env=pure false:=by rfl)(hw:swappedStores [tg] e X.env=pure none:=by rfl)(h1:(assignEach [tg] X.env).map (·.2)=[assign tg X.env]:=by rfl):QS X (.Assign [tg] e pos) (yh te g):=⟨BA he.h hg.h hs hw h1⟩
theorem EE{A B:List Stmt}(hc:QT X c t)(ha:ux X A ts)(hb:ux X B us):QS X (.If c A B pos) (Gz t ts us):=⟨GZ hc.h ha.h hb.h⟩
theorem Bx(hp:PassesOwn (model X.prog X.w) X.A X.env X.xe)(hc:X.calm=true)(hi:QI X tg iter wi)(hg:QG X tg g)(hb:ux X body tb')(hs: ∀ x,foldedSetIterable iter X.env x=pure x:=by intro _;rfl):QS X (.For tg iter body [] pos) (F9 wi g tb'):=⟨D8 hp hc hi.h hg.h hb.h hs⟩
theorem vK(hp:PassesOwn (model X.prog X.w) X.A X.env X.xe)(hc:QT X c t)(hb:ux X body tb'):QS X (.While c body [] pos) (wc t tb'):=⟨wN hp hc.h hb.h⟩
theorem xF(he:QE X e te)(hs:swapsWith e none pos.line X.env=pure false:=by rfl):QS X (.Expr e pos) (AI te):=⟨Ao he.h hs⟩
theorem C3(he:QE X e te):QS X (.Return (some e) pos) (FV te):=⟨Cs he.h⟩
theorem xO:ux X [] vi:=⟨xP⟩
theorem vJ(h1:QS X st ts)(h2:ux X rest us):ux X (st::rest) (B0 ts us):=⟨uF h1.h h2.h⟩
theorem xn(h1:QS X st ts):ux X [st] ts:=⟨zP h1.h⟩
end
theorem At.HJ{P:Program}{w:World}{K:PySem.W.Frag}{mg:Str->Option Value}{base:Heap}{x:Str}{st:Stmt}{N ps:List Str}{k:Nat}{sp:Sp}(a:At K mg x st)(S:aw N ps (af st))
  (hb: ∀(kV doc pm:Value)(an:Option Addr)(cdv ct:Value)(us:List Value),us.length=ps.length->bindArgs (PySem.W.fnOf x x (bS st) (aX st) (af st) .none kV doc pm an cdv ct) ⟨us,[]⟩=pure (ps.zip us))
  (len: ∀ vs H Q E,sp vs H Q E->vs.length=ps.length)
  (hbody: ∀(f:Addr)(cdv:Value)(A:Around)(outer:List Env)(s:Shared)(H:Hp)(vs:List V)(Q:VK)(E:XK),cz k (A.deeper (envOfC x (af st) s.heap.objs.size f cdv))->sp vs H Q E ->
   ∃ t,ux (gE nI P w K mg base N x (af st) f cdv A outer s H E).ll (aX st) t/\t { nx:=λ_ H'=>Q .non H',rt:=Q } (start N vs) H):fH P w K mg base x (k+1) ps sp :=
 a.ok S hb len λf cdv A outer s H vs Q E hr h=>let ⟨t,q,z⟩:=hbody f cdv A outer s H vs Q E hr h;⟨t,q.h,z⟩
theorem oG{xs:List V}{r:Int}(h:0<=r):jC xs (some r) none=xs.drop r.toNat:=by
 have e:r=((r.toNat:Nat):Int):=by omega
 unfold jC;rw[e,HT.jJ,HT.gO];simp only[Int.toNat_natCast];rcases Nat.le_total r.toNat xs.length with z | z
 . rw[Nat.min_eq_left z];exact List.take_of_length_le (by rw[List.length_drop];omega)
 . rw[Nat.min_eq_right z,List.drop_eq_nil_of_le (Nat.le_refl _),List.drop_eq_nil_of_le z];simp
theorem kL{xs:List V}{r:Int}(h:0<=r):jC xs none (some r)=xs.take r.toNat:=by
 have e:r=((r.toNat:Nat):Int):=by omega
 unfold jC;rw[e,HT.jJ,HT.gO];simp only[Int.toNat_natCast,List.drop_zero,Nat.sub_zero];rcases Nat.le_total r.toNat xs.length with z | z
 . rw[Nat.min_eq_left z]
 . rw[Nat.min_eq_right z,List.take_of_length_le (Nat.le_refl _),List.take_of_length_le z]
theorem IZ{c A B:Prop}[Decidable c](hc: ¬ c)(h:B):if c then A else B:=by rw[if_neg hc];exact h
noncomputable def Iz(k:Nat)(g:TG)(tt:TT)(te:TE)(σ :St)(Q:VK)(J:It)(H1:Hp):Prop:= ∃ W:Nat->Nat->List V->Hp->Prop,(∃ m,W 0 m [] H1)/\ ∀ i m ys H,W i m ys H ->
 (J.stop i H/\ ∀ p,H p=none->Q (.ref p) (upd H p (.lst ys))) \/
 (J.go i H/\ys.length < sizeLine/\ ∀ x H',J.AO i H x H'->g x (σ ++List.replicate k none) H' fun σ2 H2=>tt σ2 H2 λb H3 =>
  if b=true then te σ2 H3 λy H4=> ∃ m',m' < m/\W (i+1) m' (ys++[y]) H4 else ∃ m',m' < m/\W (i+1) m' ys H3)
theorem GL{K:PySem.W.Frag}{a:Addr}{xs:List V}{k:Nat}{g:TG}{tt:TT}{te:TE}[oW g][oR tt][nQ te]{σ :St}{H:Hp}{Q:VK}(Pv:Nat->List V->Hp->Prop)(h0:Pv 0 [] H)(hl: ∀ i ys H,i<=xs.length->Pv i ys H->fk K H a xs/\ys.length<=i)(hz:xs.length<=sizeLine)
  (hs: ∀ i x ys H,xs[i]?=some x->Pv i ys H->g x (σ ++List.replicate k none) H fun σ2 H2=>tt σ2 H2 λb H3=>if b=true then te σ2 H3 λy H4=>Pv (i+1) (ys++[y]) H4 else Pv (i+1) ys H3)
  (hd: ∀ ys H,Pv xs.length ys H-> ∀ p,H p=none->Q (.ref p) (upd H p (.lst ys))):Iz k g tt te σ Q (uE K a) H:=Fz Pv h0 hl hz hs hd
class Ic (trs:List (TE × TE)):Prop where
 m: ∀ σ H Q Q',(∀ ps H1,Q ps H1->Q' ps H1)->iX trs σ H Q->iX trs σ H Q'
theorem ue.HJ{P:Program}{w:World}{K:PySem.W.Frag}{mg:Str->Option Value}{base:Heap}{x:Str}{st:Stmt}{f:Addr}{fd:FuncData}{N ps:List Str}{k:Nat}{sp:Sp}(F:ue K x x st f fd)(S:aw N ps (af st))(len: ∀ vs H Q E,sp vs H Q E->vs.length=ps.length)
  (hbody: ∀(f:Addr)(cdv:Value)(A:Around)(outer:List Env)(s:Shared)(H:Hp)(vs:List V)(Q:VK)(E:XK),cz k (A.deeper (envOfC x (af st) s.heap.objs.size f cdv))->sp vs H Q E ->
   ∃ t,ux (gE nI P w K mg base N x (af st) f cdv A outer s H E).ll (aX st) t/\t { nx:=λ_ H'=>Q .non H',rt:=Q } (start N vs) H):fE P w K mg base nI (k+1) f fd ps sp :=
 F.ok S len λcdv A outer s H vs Q E hr h=>let ⟨t,q,z⟩:=hbody f cdv A outer s H vs Q E hr h;⟨t,q.h,z⟩
theorem C7{K:PySem.W.Frag}{H:Hp}{a:Addr}{xs:List V}(o:vh H)(h:eU K H a xs):rP K H a xs:=by
 rcases h with(h | ⟨u,h⟩) | h
 . rcases o a with z | ⟨u,ys,z⟩<;>(rw[h] at z;cases z)
 . exact .inl ⟨u,h⟩
 . exact .inr h
noncomputable def KD(P:Program)(w:World)(K:PySem.W.Frag)(a:Addr)(kvs:List (Key × V)):Prop:=(a == sysModules)=false /\
 ∃(o:Obj)(es:Array DictEntry)(ep:Nat)(vs:List (Key × Value)),K.lookup a=some o/\o.ExactDict/\o.data= .dict es ep/\PySem.KeysOf (aE P w) es/\Pairs (aE P w) es.toList vs/\(vs.map (·.1)).Nodup/\KV kvs vs
noncomputable def Hm (x:Str):It:=⟨λi _=>i < x.cps.size,λi H v H'=>H'=H∧ ∃ c,x.cps[i]?=some c∧v= .str ⟨#[c]⟩,λi _=>i=x.cps.size⟩
theorem nR {P:Program} {w:World} {K:PySem.W.Frag} {tg:Expr} {ty:String} (x:Str) (t:Tok) (it:Addr) (hty:["enumerate", "zip", "dict_itemiterator", "dict_reverseitemiterator", "odict_iterator", "itertools.zip_longest", "itertools.pairwise"].contains ty=false)
  (W: ∀ A:Around,A.handled=none->Walks P w A it [it] [it] x.cps.size (SignAt x) (λi h=>h.IsStrIter it ty x t i)) (S: ∀ (A:Around) (i:Nat) (s:Shared) (Q:Value->Shared->Prop) (E:Value->Shared->Prop),s.heap.IsStrIter it ty x t i->Q (.ref it) s->wpAny (model P w) A (pyIter (.ref it)) Q E s) :
  Turn P w K tg (Hm x) [it] it (λi h=>h.IsStrIter it ty x t i) where
 mem:=by simp
 obj:=λi h st b hb=>by
  have e:b=it:=by simpa using hb
  subst e;obtain⟨o,e,c,d⟩:=st;exact⟨o,e,λv z=>by rw[d] at z;cases z⟩
 keep:=λi h h' st k=>let ⟨o,e,r⟩:=st;⟨o,k it (by simp) o e,r⟩
 item:=by
  intro X hP hw hK hc i pins s σ H E I hf st hg;subst hP hw hK;obtain⟨f0,f1,f2,f3,f4,f5⟩:=hf it (by simp);refine(W X.A (I.ok.hd hc)).item i s _ _ hg st λv h' tk hv st' hk=>?_;obtain⟨c,u,hx,rfl⟩:=hv;have I1:Inv X pins σ H { s with heap:=h',toks:=tk }:=I.turned (t':=tk) (λb o hb e=>hk b o (by simpa using hb) e) f0 f1 f3 f4 f5;obtain⟨o,e,cc,d⟩:=id st';exact⟨_,rfl,qG (s:={ s with heap:=h',toks:=tk }) e cc d hty ⟨.str ⟨#[c]⟩,H,I1,⟨_,rfl⟩,⟨rfl,c,hx,rfl⟩,st',λb hb=>(hf b hb).1⟩⟩
 done:=by
  intro X hP hw hK hc i pins s σ H E I hf st hg;subst hP hw hK;obtain⟨f0,f1,f2,f3,f4,f5⟩:=hf it (by simp);have hi:i=x.cps.size:=hg;subst hi;exact(W X.A (I.ok.hd hc)).done s _ _ st λh' tk hk=>⟨rfl,I.turned (t':=tk) (λb o hb e=>hk b o (by simpa using hb) e) f0 f1 f3 f4 f5⟩
 self:=λA i s Q E st h=>S A i s Q E st h
theorem eZ{x:Str}{k:Nat}{g:TG}{tt:TT}{te:TE}[oW g][oR tt][nQ te]{σ :St}{H:Hp}{Q:VK}(Pv:Nat->List V->Hp->Prop)(h0:Pv 0 [] H)(hl: ∀ i ys H,i<=x.cps.size->Pv i ys H->ys.length<=i)(hz:x.cps.size<=sizeLine)
  (hs: ∀ i c ys H,x.cps[i]?=some c->Pv i ys H->g (.str ⟨#[c]⟩) (σ ++List.replicate k none) H fun σ2 H2=>tt σ2 H2 λb H3=>if b=true then te σ2 H3 λy H4=>Pv (i+1) (ys++[y]) H4 else Pv (i+1) ys H3)
  (hd: ∀ ys H,Pv x.cps.size ys H-> ∀ p,H p=none->Q (.ref p) (upd H p (.lst ys))):Iz k g tt te σ Q (Hm x) H:=by
 refine⟨λi m ys H=>m=x.cps.size - i/\i<=x.cps.size/\Pv i ys H,⟨x.cps.size,by simp,Nat.zero_le _,h0⟩,?_⟩;rintro i m ys H ⟨rfl,hi,p⟩;have hy:=hl i ys H hi p;by_cases hlt:i < x.cps.size
 . refine .inr ⟨hlt,by omega,λv H' y=>?_⟩;obtain⟨e,c,hc,rfl⟩:=y;subst e;refine oW.m (g:=g) _ _ _ _ _ (fun σ2 H2 z=>oR.m (t:=tt) _ _ _ _ (λb H3 z=>?_) z) (hs i c ys _ hc p);cases b with
   | true =>
    rw[if_pos rfl] at z ⊢
    exact nQ.m (t:=te) _ _ _ _ (λv H4 w=>⟨x.cps.size - (i+1),by omega,rfl,hlt,w⟩) z
   | false =>
    rw[if_neg Bool.false_ne_true] at z ⊢
    exact⟨x.cps.size - (i+1),by omega,rfl,hlt,z⟩
 . have e:i=x.cps.size:=by omega
   subst e;exact .inl ⟨rfl,hd ys H p⟩
theorem lj(l:Addr)(o:Obj)(b:Str)(u:Tok) :
  Meets (Builtin.«dict.__eq__» ⟨[.ref l,.str b u],[]⟩) (λ_ R s=>s.heap.get? l=some o/\R (.ok (.ret .notImplemented)) s) :=
 .of_wp λprog w A R s h=>by
  obtain⟨hp,g,d,tk,os⟩:=s;obtain⟨hl,h⟩:=h;have f1:=PySem.F.sub_str_dict;wp_walk;exact⟨_,rfl,h⟩
theorem mh(b:Str)(u:Tok)(l:Addr)(c:Value)(es:Array DictEntry)(ep:Nat)(dd:Option Addr)(sl:Array (Option Value)) :
  Meets (Builtin.«str.__eq__» ⟨[.str b u,.ref l],[]⟩) (λ_ R s=>s.heap.get? l=some { cls:=c,dict:=dd,data:= .dict es ep,slots:=sl }/\R (.ok (.ret .notImplemented)) s) :=
 .of_wp λprog w A R s h=>by obtain⟨hp,g,d,tk,os⟩:=s;obtain⟨hl,h⟩:=h;wp_walk using AutoSeq1.wpAny_loadPart' hl,wpAny_load hl;exact⟨_,rfl,h⟩
theorem nM{A:Around}{s:Shared}{l:Addr}{o:Obj}{es:Array DictEntry}{ep:Nat}(b:Str)(u:Tok)(hl:s.heap.get? l=some o)(hx:o.ExactDict)(hd:o.data= .dict es ep)(hu:A.units < cLine):SeqAt.RcAt A s (.ref l) (.str b u) false:=λprog w E Q h=>by
 obtain⟨cls,dd,data,sl⟩:=o;have hc:cls= .type "dict" :=hx.1;simp only at hd;subst hc hd;exact SeqAt.rc_eq_decline_or (k:=false) ⟨_,hl,rfl⟩ (typeIs_str s b u) (by decide) PySem.F.sub_str_dict PySem.F.slot_dict_eq PySem.F.slot_str_eq_refl
  (λ_ hq=>call_meets PySem.F.slot_dict_eq ⟨_,hl,rfl⟩ PySem.F.entry_dict_eq (PySem.F.args_dict_eq_2 _ _) (lj l _ b u) ⟨hl,hq⟩)
  (λ_ hq=>call_meets PySem.F.slot_str_eq_refl (typeIs_str s b u) PySem.F.entry_str_eq (PySem.F.args_str_eq_2 _ _) (mh b u l (.type "dict") es ep dd sl) ⟨hl,hq⟩)
  (λ_ z=>wpAny_of_eq (show isSame (.ref l) (.str b u)=pure false from rfl) z) (.inr hu) h
noncomputable def FO(K:PySem.W.Frag):R2:=λx y H Q=> ∃ p z,x= .ref p/\y= .str z/\((∃ xs,eU K H p xs)\/(∃ xs,fk K H p xs)\/ ∃ kvs,H p=some (.dK kvs))/\Q (.bl false) H
noncomputable def Fh(K:PySem.W.Frag):V->Option Int->Option Int->Hp->VK->Prop:=λx lo hi H Q=> ∃ a xs,x= .ref a/\fk K H a xs/\(HT.bU xs.length 0 lo=0/\HT.bU xs.length xs.length hi=xs.length)/\Q (.ref a) H
noncomputable def Ba(K:PySem.W.Frag):R2:=λx y H Q=> ∃ a b ys,x= .ref a/\y= .ref b/\fk K H a []/\fk K H b ys/\Q (.ref b) H
noncomputable def Ax:R2:=λx y H Q=> ∃ a b,x= .str a/\y= .str b/\a.length+b.length<=sizeLine/\Q (.str (a++b)) H
theorem iP:fillsNumberSlot (.type "tuple") "mul" =pure false :=
 PySem.fillsNumberSlot_seq (id:= "tuple.__mul__") (r:=some (.builtin "tuple.__rmul__")) PySem.F.slot_tuple_mul.lookup (by decide +kernel) PySem.F.slot_tuple_rmul.lookup (by decide +kernel)
theorem nE:seqRepeat? (.type "tuple")=pure (some (.builtin "tuple.__mul__")):=by
 unfold seqRepeat?;rw[PySem.seqSlot_of (T:= "tuple") (name:= "__mul__") (id:= "tuple.__mul__") PySem.F.slot_tuple_mul.lookup (by decide +kernel),PySem.seqSlot_of (T:= "tuple") (name:= "__rmul__") (id:= "tuple.__rmul__") PySem.F.slot_tuple_rmul.lookup (by decide +kernel)];rfl
theorem kN(a:Int)(t:Tok)(l:Addr)(items:Array Value)(n:Nat)(dd:Option Addr)(sl:Array (Option Value)) :
  Meets (Builtin.«int.__rmul__» ⟨[.int a t,.ref l],[]⟩) (λ_ R s=>s.heap.get? l=some { cls:= .type "tuple",dict:=dd,data:= .seq items n,slots:=sl }/\R (.ok (.ret Value.notImplemented)) s) :=
 .of_wp λprog w A R s h=>by obtain⟨hp,g,d,tk,os⟩:=s;obtain⟨hl,h⟩:=h;wp_walk using AutoSeq1.wpAny_loadPart' hl,wpAny_load hl;exact⟨_,rfl,h⟩
theorem lC{prog:Program}{w:World}{A:Around}{E:Value->Shared->Prop}{s:Shared}{t sl:Addr}{items:Array Value}{vl vu:Value}{lo hi:Option Int}{Q:Value->Shared->Prop}(ht:IsTup s.heap t items)(hs:s.heap.IsSliceOf sl vl vu .none)(pl:IsPart vl lo)(pu:IsPart vu hi)
  (hw:HT.bU items.size 0 lo=0/\HT.bU items.size items.size hi=items.size) (h:Q (.ref t) s):wpAny (model prog w) A (getItem (.ref t) (.ref sl)) Q E s:=by
 obtain⟨os,hos,hcs,hds⟩:=id hs;have hTs:s.TypeIs (.ref sl) "slice" :=⟨os,hos,hcs⟩
 unfold getItem
 try with_reducible refine wpAny_holding ?_
 first | refine wpAny_bind (wpAny_pure ?_) | skip
 refine wpAny_bind (wpAny_sequenceKey ht.typeIs (by decide) ?_);refine wpAny_bind (wpAny_callSpecial?_slot (name:=Str.ofString "__getitem__") ht.typeIs PyProof.Rows.slot_tuple_getitem
  (wpAny_call_entry PyProof.Rows.slot_tuple_getitem ht.typeIs entry_tuple_getitem ?_ (args_tuple_getitem _ _)))
 show wpAny _ _ (Builtin.Tuple.tupleItemsOf (.ref t) >>= _) _ _ s;refine wpAny_bind (tupleItemsOf_ ht ?_);refine wpAny_bind (wpAny_typeOf hTs ?_);rw[if_pos (by decide)];refine wpAny_bind (HT.eP hs pl pu ?_);show wpAny _ _ (if (((HT.bU items.size 0 lo:Nat):Int) == 0&&(1:Int) == 1&&(HT.bU items.size items.size hi - HT.bU items.size 0 lo) == items.size)=true then _ else _) _ _ s;rw[if_pos (by rw[hw.1,hw.2];simp)];refine wpAny_bind (m:=Builtin.Tuple.tupleIsExact _) (wpAny_bind (wpAny_typeOf ht.typeIs (wpAny_pure ?_)));rw[if_pos (by decide)];exact wpAny_bind (wpAny_rule (wpAny_pure ⟨_,rfl,wpAny_pure h⟩))
section
variable{X:Cx}
theorem xx(hu:X.A.units < cLine):cI X (compareOp .Eq) (FO X.K):=by
 intro pins s σ H x y v u Q I rx ry h;obtain⟨p,z,rfl,rfl,hp,hQ⟩:=h;cases(show v=Value.ref p from rx);obtain⟨t,rfl⟩:=ry;have fin:EP X pins σ Q (.bool false) s:=⟨.bl false,H,I,rfl,hQ⟩
 rcases hp with⟨xs,hp⟩ | ⟨xs,hp⟩ | ⟨kvs,hp⟩
 . obtain⟨ak,hv,pl,hz⟩:=I.list hp;exact SeqAt.RcAt.list_str z t pl.isList hu _ _ _ _ fin
 . obtain⟨ak,hv,pl,hz⟩:=I.tuple hp;exact SeqAt.RcAt.tuple_str z t pl hu _ _ _ _ fin
 . obtain⟨_,_,vs,_,o,es,ep,e,hx,hd,_⟩:=nX I.bc hp;exact nM z t e hx hd hu _ _ _ _ fin
theorem xy:xj X (Fh X.K):=by
 intro pins s σ H x v vl vu lo hi sl Q I rx hs pl pu h;obtain⟨a,xs,rfl,hx,hw,q⟩:=h;cases rx;obtain⟨ak,r,ht,hz⟩:=I.tuple hx;have hlen:ak.toArray.size=xs.length:=by rw[List.size_toArray];exact r.length.symm
 refine⟨"tuple",_,PyProof.Rows.slot_tuple_getitem.lookup,ht.typeIs,?_⟩;exact lC ht hs pl pu (by rw[hlen];exact hw) ⟨.ref a,H,I,rfl,q⟩
theorem yK:cI X (binaryOp .Add) (Ba X.K):=by
 intro pins s σ H x y v u Q I rx ry h;obtain⟨a,b,ys,rfl,rfl,ha,hb,q⟩:=h;cases(show v=Value.ref a from rx);cases(show u=Value.ref b from ry);obtain⟨ak,r1,p1,_⟩:=I.tuple ha;obtain⟨its2,r2,p2,_⟩:=I.tuple hb;have e1:ak=[]:=by cases r1;rfl
 subst e1;obtain⟨⟨cls,dd,data,sl⟩,ho,hc,n,hd⟩:=id p1;obtain⟨⟨cls2,dd2,data2,sl2⟩,ho2,hc2,n2,hd2⟩:=id p2;simp only at hc hd hc2 hd2;subst hc hd hc2 hd2;exact concat_meets ⟨_,ho,rfl⟩ ⟨_,ho2,rfl⟩ noFill_tuple_add seq_tuple_add PySem.F.slot_tuple_add PySem.F.entry_tuple_add (PySem.F.args_tuple_add_2 _ _)
  (tuple_addW0 a b _ _ n n2 dd dd2 sl sl2 rfl) ⟨ho,ho2,⟨.ref b,H,I,rfl,q⟩⟩
theorem zQ:cI X (binaryOp .Add) Ax:=by
 intro pins s σ H x y v u Q I rx ry h;obtain⟨a,b,rfl,rfl,hz,q⟩:=h;obtain⟨t,rfl⟩:=rx;obtain⟨t',rfl⟩:=ry;exact PyProof.Rows.add_str (λt' tk=>⟨.str (a++b),H,I.tok _,⟨_,rfl⟩,q⟩) hz
theorem DC:cI X (binaryOp .Add) (λx y H Q=>(xJ λi j=> .int (i+j)) x y H Q\/(Fb x y H Q\/(Aw X.K x y H Q\/(Ba X.K x y H Q\/Ax x y H Q)))):=B5.or (DA.or (yC.or (yK.or zQ)))
theorem Jj:xj X (λx lo hi H Q=>Fj X.K x lo hi H Q\/(F7 X.K x lo hi H Q\/Fh X.K x lo hi H Q)):=yw.or (Cb.or xy)
end
noncomputable def qL{α :Type}(c:Nat->Nat->Bool):KasT α -> α
 | .ret a=>a
 | .ask i j k=>qL c (k (c i j))
noncomputable def wu{α :Type}(n:Nat)(c:Nat->Nat->Bool):KasT α ->Bool
 | .ret _=>true
 | .ask i j k=>decide (i < n)&&decide (j < n)&& !decide (i=j)&&wu n c (k (c i j))
theorem ou{α :Type}{cmp:Nat->Nat->(Bool->Shared->Prop)->Shared->Prop}{n:Nat}{c:Nat->Nat->Bool}{s:Shared}(hc: ∀ i j C,i < n->j < n->i≠j->C (c i j) s->cmp i j C s){Q: α ->Shared->Prop} :
  ∀ t:KasT α,wu n c t=true->Q (qL c t) s->t.kasWp cmp Q s
 | .ret a,_,q=>q
 | .ask i j k,h,q=>by
  simp only[wu,Bool.and_eq_true,decide_eq_true_eq,Bool.not_eq_true',decide_eq_false_iff_not] at h;exact hc i j _ h.1.1.1 h.1.1.2 h.1.2 (ou hc (k (c i j)) h.2 q)
noncomputable def eE{α :Type}(n:Nat)(c:Nat->Nat->Bool)(t:KasT α)(Q: α ->Prop):Prop:=wu n c t=true/\Q (qL c t)
theorem eE.ret{α :Type}{n:Nat}{c:Nat->Nat->Bool}{a: α}{Q: α ->Prop}(h:Q a):eE n c (.ret a) Q:=⟨rfl,h⟩
theorem eE.ask{α :Type}{n:Nat}{c:Nat->Nat->Bool}{i j:Nat}{k:Bool->KasT α}{Q: α ->Prop}(hi:i < n)(hj:j < n)(hij:i≠j)(h:eE n c (k (c i j)) Q):eE n c (.ask i j k) Q :=
 ⟨by simp only[wu,hi,hj,hij,h.1,decide_true,decide_false,Bool.not_false,Bool.and_self],h.2⟩
theorem eE.bind{α β :Type}{n:Nat}{c:Nat->Nat->Bool}{f: α ->KasT β}{Q: β ->Prop}: ∀{t:KasT α},eE n c t (λa=>eE n c (f a) Q)->eE n c (t.bind f) Q
 | .ret a,h=>h.2
 | .ask i j k,h=>by
  have e:=h.1;simp only[wu,Bool.and_eq_true,decide_eq_true_eq,Bool.not_eq_true',decide_eq_false_iff_not] at e;exact eE.ask e.1.1.1 e.1.1.2 e.1.2 (eE.bind (t:=k (c i j)) ⟨e.2,h.2⟩)
theorem eE.mono{α :Type}{n:Nat}{c:Nat->Nat->Bool}{t:KasT α}{Q Q': α ->Prop}(h:eE n c t Q)(f: ∀ a,Q a->Q' a):eE n c t Q':=⟨h.1,f _ h.2⟩
structure dR(n:Nat)(p:Array Nat):Prop where
 perm:p.toList.Perm (List.range n)
theorem dR.size{n:Nat}{p:Array Nat}(h:dR n p):p.size=n:=by simpa using h.perm.length_eq
theorem dR.lt{n:Nat}{p:Array Nat}(h:dR n p){i:Nat}(hi:i < n):p.getD i 0 < n:=by
 have hi':i < p.size:=h.size ▸ hi;have:p.getD i 0∈p.toList:=by
  rw[Array.getD_eq_getD_getElem?,Array.getElem?_eq_getElem hi'];exact Array.getElem_mem_toList hi'
 exact List.mem_range.mp (h.perm.mem_iff.mp this)
theorem dR.ne{n:Nat}{p:Array Nat}(h:dR n p){i j:Nat}(hi:i < n)(hj:j < n)(hij:i≠j):p.getD i 0≠p.getD j 0:=λe=>by
 have hi':i < p.size:=h.size ▸ hi;have hj':j < p.size:=h.size ▸ hj;have nd:p.toList.Nodup:=h.perm.nodup_iff.mpr List.nodup_range;rw[Array.getD_eq_getD_getElem?,Array.getD_eq_getD_getElem?,Array.getElem?_eq_getElem hi',Array.getElem?_eq_getElem hj'] at e;exact hij ((List.getElem?_inj (by simpa using hi') nd).mp (by rw[Array.getElem?_toList,Array.getElem?_toList,Array.getElem?_eq_getElem hi',Array.getElem?_eq_getElem hj'];exact congrArg some e))
theorem dR.of{n:Nat}{p q:Array Nat}(h:dR n p)(pm:q.Perm p):dR n q:=⟨(Array.perm_iff_toList_perm.mp pm).trans h.perm⟩
theorem pV(n:Nat):dR n (List.toArray (List.range n)):=⟨List.Perm.refl _⟩
section
variable{n:Nat}{r:Nat->Nat}
noncomputable def rk(r:Nat->Nat)(p:Array Nat)(i:Nat):Nat:=r (p.getD i 0)
noncomputable def ly(r:Nat->Nat)(p:Array Nat)(k:Nat):Prop:= ∀ i j,i < j->j < k->rk r p i < rk r p j
noncomputable def ka(r:Nat->Nat)(p:Array Nat)(k:Nat):Prop:= ∀ i j,i < j->j < k->rk r p j < rk r p i
noncomputable def cN(r:Nat->Nat)(i j:Nat):Bool:=decide (r i < r j)
noncomputable def nr(n:Nat)(r:Nat->Nat):Prop:= ∀ i j,i < n->j < n->r i=r j->i=j
theorem vX{p:Array Nat}(hr:nr n r)(h:dR n p){i j:Nat}(hi:i < n)(hj:j < n)(hij:i≠j):rk r p i≠rk r p j:=λe=>h.ne hi hj hij (hr _ _ (h.lt hi) (h.lt hj) e)
theorem zD{p:Array Nat}{k:Nat}(h:ly r p k)(hk:1<=k)(x:rk r p (k - 1) < rk r p k):ly r p (k+1):=λi j hij hj=>by
 rcases Nat.lt_or_ge j k with c | c
 . exact h i j hij c
 . have:j=k:=by omega
   subst this;rcases Nat.lt_or_ge i (j - 1) with d | d
   . exact Nat.lt_trans (h i (j - 1) d (by omega)) x
   . have:i=j - 1:=by omega
     subst this;exact x
theorem lS{p:Array Nat}{k:Nat}(h:ka r p k)(hk:1<=k)(x:rk r p k < rk r p (k - 1)):ka r p (k+1):=λi j hij hj=>by
 rcases Nat.lt_or_ge j k with c | c
 . exact h i j hij c
 . have:j=k:=by omega
   subst this;rcases Nat.lt_or_ge i (j - 1) with d | d
   . exact Nat.lt_trans x (h i (j - 1) d (by omega))
   . have:i=j - 1:=by omega
     subst this;exact x
theorem qo{p:Array Nat}(hr:nr n r)(h:dR n p): ∀(f m:Nat),1<=m->m+f<=n->ly r p m ->
  eE n (cN r) (kas_asc p f m) λm'=>m<=m'/\m'<=m+f/\ly r p m'/\(m' < m+f->rk r p m' < rk r p (m' - 1))
 | 0,m,h1,hm,u=>eE.ret ⟨Nat.le_refl _,Nat.le_refl _,u,λx=>absurd x (Nat.lt_irrefl _)⟩
 | f+1,m,h1,hm,u=>by
  refine eE.ask (h.lt (by omega)) (h.lt (by omega)) (h.ne (by omega) (by omega) (by omega)) ?_;have ne:=vX hr h (i:=m) (j:=m - 1) (by omega) (by omega) (by omega);by_cases c:rk r p m < rk r p (m - 1)
  . have e:cN r (p.getD m 0) (p.getD (m - 1) 0)=true:=decide_eq_true c;rw[e,if_pos rfl];exact eE.ret ⟨Nat.le_refl _,by omega,u,λ_=>c⟩
  . have e:cN r (p.getD m 0) (p.getD (m - 1) 0)=false:=decide_eq_false c;rw[e,if_neg (by simp)];refine(qo hr h f (m+1) (by omega) (by omega) (zD u h1 (by omega))).mono λm' x=>⟨by omega,by omega,x.2.2.1,λy=>x.2.2.2 (by omega)⟩
theorem qH{p:Array Nat}(hr:nr n r)(h:dR n p): ∀(f m:Nat),1<=m->m+f<=n->ka r p m ->
  eE n (cN r) (kas_desc f p m 0) λt=>t.1=p/\t.2.2=0/\m<=t.2.1/\t.2.1<=m+f/\ka r p t.2.1
 | 0,m,h1,hm,u=>eE.ret ⟨rfl,rfl,Nat.le_refl _,Nat.le_refl _,u⟩
 | f+1,m,h1,hm,u=>by
  refine eE.ask (h.lt (by omega)) (h.lt (by omega)) (h.ne (by omega) (by omega) (by omega)) ?_;have ne:=vX hr h (i:=m) (j:=m - 1) (by omega) (by omega) (by omega);by_cases c:rk r p m < rk r p (m - 1)
  . have e:cN r (p.getD m 0) (p.getD (m - 1) 0)=true:=decide_eq_true c;rw[e,if_pos rfl,if_neg (by omega)];refine(qH hr h f (m+1) (by omega) (by omega) (lS u h1 c)).mono λt x=>⟨x.1,x.2.1,by omega,by omega,x.2.2.2.2⟩
  . have e:cN r (p.getD m 0) (p.getD (m - 1) 0)=false:=decide_eq_false c;rw[e,if_neg (by simp)];refine eE.ask (h.lt (by omega)) (h.lt (by omega)) (h.ne (by omega) (by omega) (by omega)) ?_;have e2:cN r (p.getD (m - 1) 0) (p.getD m 0)=true:=decide_eq_true (show rk r p (m - 1) < rk r p m by omega);rw[e2,if_pos rfl];exact eE.ret ⟨rfl,rfl,Nat.le_refl _,Nat.le_add_right _ _,u⟩
theorem w9{p:Array Nat}{m:Nat}(hm:m<=p.size)(k:Nat):rk r (kas_rev p 0 m) k=if k < m then rk r p (m - 1 - k) else rk r p k:=by
 unfold rk kas_rev;rw[Array.getD_eq_getD_getElem?,getElem?_mirror_all hm];by_cases c:k < m
 . rw[if_pos ⟨Nat.zero_le _,c⟩,if_pos c,Array.getD_eq_getD_getElem?,Nat.zero_add]
 . rw[if_neg (λx=>c x.2),if_neg c,Array.getD_eq_getD_getElem?]
theorem wH{p:Array Nat}(hr:nr n r)(h:dR n p){m:Nat}(h1:1<=m)(hm:m<=n)(u:ka r p m):eE n (cN r) (kas_tail3 m n p) λt=>dR n t.2/\1<=t.1/\t.1<=n/\ly r t.2 t.1:=by
 have h':dR n (kas_rev p 0 m):=h.of (mirror_perm _ _ _ _);refine eE.bind ((qo hr h' (n - m) m h1 (by omega) λi j hij hj=>?_).mono λm' x=>eE.ret ⟨h',by omega,by omega,x.2.2.1⟩);rw[w9 (by rw[h.size];exact hm),w9 (by rw[h.size];exact hm),if_pos (by omega),if_pos hj];exact u _ _ (by omega) (by omega)
theorem wd{p:Array Nat}(hr:nr n r)(h:dR n p)(h1:1<=n):eE n (cN r) (kas_count n p) λt=>dR n t.2/\1<=t.1/\t.1<=n/\ly r t.2 t.1:=by
 refine eE.bind ((qo hr h (n - 1) 1 (Nat.le_refl _) (by omega) λi j hij hj=>by omega).mono λm x=>?_);obtain⟨x1,x2,x3,x4⟩:=x;by_cases c:m=n
 . rw[if_pos (by simpa using c)];exact eE.ret ⟨h,x1,by omega,x3⟩
 . rw[if_neg (by simpa using c)];by_cases c2:m > 1
   . rw[if_pos c2];refine eE.ask (h.lt (by omega)) (h.lt (by omega)) (h.ne (by omega) (by omega) (by omega)) ?_;have e2:cN r (p.getD 0 0) (p.getD (m - 1) 0)=true:=decide_eq_true (x3 0 (m - 1) (by omega) (by omega));rw[e2,if_pos rfl];exact eE.ret ⟨h,x1,by omega,x3⟩
   . rw[if_neg c2];have:m=1:=by omega
     subst this;refine eE.bind ((qH hr h (n - (1+1)) (1+1) (by omega) (by omega) (lS (λi j hij hj=>by omega) (Nat.le_refl _) (x4 (by omega)))).mono λt y=>?_);obtain⟨y1,y2,y3,y4,y5⟩:=y;rw[if_neg (by omega),y1];exact wH hr h (by omega) (by omega) y5
theorem ko{p:Array Nat}(hr:nr n r)(h:dR n p){k:Nat}(hk:k < n)(u:ly r p k): ∀(f l m:Nat),l<=m->m<=k->m - l<=f->(∀ i,i < l->rk r p i < rk r p k)->(∀ i,m<=i->i < k->rk r p k < rk r p i) ->
  eE n (cN r) (kas_place p k f l m) λt=>t<=k/\(∀ i,i < t->rk r p i < rk r p k)/\(∀ i,t<=i->i < k->rk r p k < rk r p i)
 | 0,l,m,h1,h2,h3,a,b=>eE.ret ⟨by omega,a,λi hi hik=>b i (by omega) hik⟩
 | f+1,l,m,h1,h2,h3,a,b=>by
  unfold kas_place;by_cases c:l ≥ m
  . rw[if_pos c];exact eE.ret ⟨by omega,a,λi hi hik=>b i (by omega) hik⟩
  . rw[if_neg c];refine eE.ask (h.lt (by omega)) (h.lt (by omega)) (h.ne (by omega) (by omega) (by omega)) ?_;have ne:=vX hr h (i:=k) (j:=(l+m) / 2) (by omega) (by omega) (by omega);by_cases d:rk r p k < rk r p ((l+m) / 2)
    . have e:cN r (p.getD k 0) (p.getD ((l+m) / 2) 0)=true:=decide_eq_true d;rw[e,if_pos rfl];refine ko hr h hk u f l ((l+m) / 2) (by omega) (by omega) (by omega) a λi hi hik=>?_;rcases Nat.lt_or_ge ((l+m) / 2) i with z | z
      . exact Nat.lt_trans d (u _ _ z hik)
      . have:i=(l+m) / 2:=by omega
        rw[this];exact d
    . have e:cN r (p.getD k 0) (p.getD ((l+m) / 2) 0)=false:=decide_eq_false d;rw[e,if_neg (by simp)];refine ko hr h hk u f ((l+m) / 2+1) m (by omega) (by omega) (by omega) (λi hi=>?_) b;have d':rk r p ((l+m) / 2) < rk r p k:=by omega
      rcases Nat.lt_or_ge i ((l+m) / 2) with z | z
      . exact Nat.lt_trans (u _ _ z (by omega)) d'
      . have:i=(l+m) / 2:=by omega
        rw[this];exact d'
theorem lK{p:Array Nat}{k d:Nat}(hk:k < p.size)(hd:d<=k)(i:Nat):rk r (bubble p k d) i=if i=k - d then rk r p k else if k - d < i/\i<=k then rk r p (i - 1) else rk r p i:=by
 have g: ∀(q:Array Nat)(j:Nat),rk r q j=r (q[j]?.getD 0):=λq j=>by unfold rk;rw[Array.getD_eq_getD_getElem?]
 rw[g,g,g,g,getElem?_bubble hk d hd]
 repeat' split
 all_goals rfl
theorem vL(hr:nr n r): ∀(f:Nat)(p:Array Nat)(k:Nat),dR n p->k+f=n->ly r p k->eE n (cN r) (kas_bin f p k) λq=>dR n q/\ly r q n
 | 0,p,k,h,e,u=>eE.ret ⟨h,(show k=n from e) ▸ u⟩
 | f+1,p,k,h,e,u=>by
  refine eE.bind ((ko hr h (by omega) u k 0 k (by omega) (by omega) (by omega) (λi hi=>by omega) (λi h1 h2=>by omega)).mono λl x=>?_);obtain⟨x1,x2,x3⟩:=x;refine vL hr f _ (k+1) (h.of (bubble_perm _ _ _)) (by omega) λi j hij hj=>?_;have hs:k < p.size:=by rw[h.size];omega
  rw[lK hs (by omega),lK hs (by omega)]
  repeat' split
  all_goals first | (exfalso;omega) | exact u _ _ (by omega) (by omega) | exact x2 _ (by omega) | exact x3 _ (by omega) (by omega)
theorem xK(hr:nr n r)(h1:1<=n):eE n (cN r) (kas_sort n) λq=>dR n q/\ly r q n:=by
 refine eE.bind ((wd hr (pV n) h1).mono λt x=>?_);obtain⟨x1,x2,x3,x4⟩:=x;by_cases c:t.1 < n
 . rw[if_pos c];have:max t.1 1=t.1:=by omega
   rw[this];exact vL hr _ _ _ x1 (by omega) x4
 . rw[if_neg c];have:t.1=n:=by omega
   exact eE.ret ⟨x1,this ▸ x4⟩
end
theorem nT{α :Type}{n:Nat}{c c':Nat->Nat->Bool}(h: ∀ i j,i < n->j < n->c i j=c' i j): ∀ t:KasT α,wu n c' t=true->wu n c t=true/\qL c t=qL c' t
 | .ret a,_=>⟨rfl,rfl⟩
 | .ask i j k,e=>by
  simp only[wu,Bool.and_eq_true,decide_eq_true_eq,Bool.not_eq_true',decide_eq_false_iff_not] at e;have hc:=h i j e.1.1.1 e.1.1.2;have:=nT h (k (c' i j)) e.2;simp only[wu,qL,Bool.and_eq_true,decide_eq_true_eq,Bool.not_eq_true',decide_eq_false_iff_not];rw[hc];exact⟨⟨e.1,this.1⟩,this.2⟩
noncomputable def gj(a b:Str):Prop:=a.cps.toList < b.cps.toList
instance (a b:Str):Decidable (gj a b):=inferInstanceAs (Decidable (a.cps.toList < b.cps.toList))
theorem gG(a:Str): ¬ gj a a:=List.lt_irrefl _
theorem fS{a b c:Str}(h1:gj a b)(h2:gj b c):gj a c:=List.lt_trans h1 h2
theorem iK{a b:Str}(h:gj a b): ¬ gj b a:=λz=>gG a (fS h z)
theorem xM{a b:Str}(h:a.cps.toList=b.cps.toList):a=b:=by
 cases a;cases b;simp only at h;rw[Array.toList_inj.mp h]
theorem ja{a b:Str}(h:a≠b):gj a b\/gj b a:=by
 by_cases h1:gj a b
 . exact .inl h1
 . by_cases h2:gj b a
   . exact .inr h2
   . exact absurd (xM (List.le_antisymm (List.not_lt.mp h2) (List.not_lt.mp h1))) h
noncomputable def hW(xs:List Str)(x:Str):Nat:=(xs.filter λy=>decide (gj y x)).length
theorem lT{xs:List Str}{x y:Str}(hx:x∈xs)(h:gj x y):hW xs x < hW xs y:=by
 unfold hW;have sub: ∀ l:List Str,(l.filter λz=>decide (gj z x)).length<=(l.filter λz=>decide (gj z y)).length:=λl=>by
  induction l with
  | nil=>exact Nat.le_refl _
  | cons z r ih =>
   by_cases h1:gj z x
   . rw[List.filter_cons_of_pos (by simpa using h1),List.filter_cons_of_pos (by simpa using fS h1 h)];simpa using ih
   . rw[List.filter_cons_of_neg (by simpa using h1)];by_cases h2:gj z y
     . rw[List.filter_cons_of_pos (by simpa using h2)];exact Nat.le_succ_of_le ih
     . rw[List.filter_cons_of_neg (by simpa using h2)];exact ih
 induction xs with
 | nil=>cases hx
 | cons z r ih =>
  rcases List.mem_cons.mp hx with rfl | hr
  . rw[List.filter_cons_of_neg (by simpa using gG x),List.filter_cons_of_pos (by simpa using h)];exact Nat.lt_succ_of_le (sub r)
  . by_cases h1:gj z x
    . rw[List.filter_cons_of_pos (by simpa using h1),List.filter_cons_of_pos (by simpa using fS h1 h)];simpa using ih hr
    . rw[List.filter_cons_of_neg (by simpa using h1)];by_cases h2:gj z y
      . rw[List.filter_cons_of_pos (by simpa using h2)];exact Nat.lt_succ_of_lt (ih hr)
      . rw[List.filter_cons_of_neg (by simpa using h2)];exact ih hr
theorem vB{xs:List Str}{x y:Str}(hx:x∈xs)(hy:y∈xs):hW xs x < hW xs y↔gj x y:=by
 refine⟨λh=>?_,lT hx⟩;by_cases e:x=y
 . subst e;exact absurd h (Nat.lt_irrefl _)
 . rcases ja e with z | z
   . exact z
   . exact absurd (lT hy z) (Nat.lt_asymm h)
noncomputable def cS(xs:List Str)(i j:Nat):Bool:=decide (gj (xs.getD i "") (xs.getD j ""))
theorem getD_mem{xs:List Str}{i:Nat}(h:i < xs.length):xs.getD i "" ∈xs:=by
 rw[List.getD_eq_getElem?_getD,List.getElem?_eq_getElem h];exact List.getElem_mem h
theorem oE{xs:List Str}(h1:1<=xs.length)(nd:xs.Nodup) :
  wu xs.length (cS xs) (kas_sort xs.length)=true/\(qL (cS xs) (kas_sort xs.length)).toList.Perm (List.range xs.length)/\((qL (cS xs) (kas_sort xs.length)).toList.map λi=>xs.getD i "").Pairwise gj:=by
 have rkI: ∀ i j,i < xs.length->j < xs.length->(hW xs (xs.getD i "") < hW xs (xs.getD j "")↔gj (xs.getD i "") (xs.getD j "")):=λi j hi hj=>vB (getD_mem hi) (getD_mem hj);have hr:nr xs.length λi=>hW xs (xs.getD i ""):=λi j hi hj e=>by
  have a:=rkI i j hi hj;have b:=rkI j i hj hi;have e':xs.getD i "" =xs.getD j "" :=Decidable.byContradiction λne=>by
   rcases ja ne with z | z
   . have:=a.mpr z;simp only at e;omega
   . have:=b.mpr z;simp only at e;omega
  rw[List.getD_eq_getElem?_getD,List.getD_eq_getElem?_getD,List.getElem?_eq_getElem hi,List.getElem?_eq_getElem hj] at e';exact(List.getElem?_inj hi nd).mp (by rw[List.getElem?_eq_getElem hi,List.getElem?_eq_getElem hj];exact congrArg some e')
 have ok:=xK hr h1;have al: ∀ i j,i < xs.length->j < xs.length->cS xs i j=cN (λi=>hW xs (xs.getD i "")) i j:=λi j hi hj=>by
  unfold cS cN;rw[decide_eq_decide];exact(rkI i j hi hj).symm
 have ea:=nT al (kas_sort xs.length) ok.1;rw[ea.2];have sh:=ok.2.1;refine⟨ea.1,sh.perm,?_⟩;rw[List.pairwise_map,List.pairwise_iff_getElem];intro i j hi hj hij;have hj':j < xs.length:=by rw[<- sh.size];simpa using hj
 have:=ok.2.2 i j hij hj';unfold rk at this;have:=(rkI _ _ (sh.lt (by omega)) (sh.lt hj')).mp this;rw[Array.getD_eq_getD_getElem?,Array.getD_eq_getD_getElem?,Array.getElem?_eq_getElem (by simpa using hi),Array.getElem?_eq_getElem (by simpa using hj)] at this;simpa using this
section
variable{prog:Program}{w:World}{A:Around}{E:Value->Shared->Prop}{s:Shared}
noncomputable def ck(h:Heap)(a:Addr)(vs:List Value):Heap:=((h.update a (Obj.mapSeq λ_=>(#[]:Array Value))).push (seqObj "tuple" vs.toArray 0)).push (seqObj "list" #[] 0)
theorem kc{h:Heap}{a b:Addr}{vs:List Value}(hb:b < h.objs.size):(ck h a vs).get? b=(h.update a (Obj.mapSeq λ_=>(#[]:Array Value))).get? b :=
 (Heap.get?_push_ne _ _ _ (Nat.ne_of_lt (Nat.lt_of_lt_of_eq (Nat.lt_succ_of_lt hb) ((size_push' _ _).trans (congrArg (· +1) (Heap.size_update _ _ _))).symm))).trans
  (Heap.get?_push_ne _ _ _ (Nat.ne_of_lt (Nat.lt_of_lt_of_eq hb (Heap.size_update _ _ _).symm)))
theorem nW{h:Heap}{a b:Addr}{vs:List Value}{o:Obj}(hb:b≠a)(e:h.get? b=some o):(ck h a vs).get? b=some o :=
 (kc (Heap.lt_size e)).trans ((Heap.get?_update_ne _ _ _ _ hb).trans e)
theorem iw{vs:List Value}(h:vs.length < 64):vs.length<=sizeLine:=Nat.le_trans (Nat.le_of_lt h) (by decide)
theorem lh{a:Addr}{vs:List Value}{n:Nat}{P:PySem.Fin->Shared->Prop}{κ :SortKind}{G:Array Nat->Prop}(ho:s.heap.get? a=some (seqObj "list" vs.toArray n))(h64:vs.length < 64)
  (hk:2<=vs.length-> ∀ Q':SortKind->Shared->Prop,Q' κ { s with heap:=ck s.heap a vs }->wpAny (model prog w) A (keyKind' vs.toArray) Q' E { s with heap:=ck s.heap a vs })
  (ha:2<=vs.length-> ∀ Q':Array Nat->Shared->Prop,(∀ p,G p->Q' p { s with heap:=ck s.heap a vs })->(kas_sort vs.length).kasWp (kas_ask prog w A κ vs) Q' { s with heap:=ck s.heap a vs })
  (h0:vs.length < 2->P (.done (.ret .none)) { s with heap:=sortedHeap s.heap a vs vs.toArray })
  (h: ∀ p:Array Nat,p.size=vs.length->G p->P (.done (.ret .none)) { s with heap:=sortedHeap s.heap a vs (p.toList.map λi=>vs.getD i Value.none).toArray }):wpAny (model prog w) A (Builtin.«list.sort» ⟨[.ref a],[]⟩) P E s:=by
 obtain⟨ep,g1⟩: ∃ k,(s.heap.update a (Obj.mapSeq λ_=>(#[]:Array Value))).get? a=some (seqObj "list" #[] k):=⟨_,get?_update_seq ho λ_=> #[]⟩
 have g2:(ck s.heap a vs).get? a=some (seqObj "list" #[] ep):=(kc (Heap.lt_size ho)).trans g1;have z:=List.size_toArray (as:=vs);rw[list_sort_plain];refine wpAny_bind (listItems_at ho rfl (wpAny_bind (listUpdate_at ho rfl (wpAny_bind (seqEpoch_at g1 rfl (wpAny_bind (wpAny_newTuple (wpAny_bind (wpAny_newList (wpAny_holding ?_) (Nat.zero_le _))) (iw h64))))) (z ▸ iw h64) (Nat.zero_le _))));show wpAny (model prog w) A _ P E { s with heap:=ck s.heap a vs };dsimp only;have last: ∀ out:Array Value,out.size<=sizeLine->P (.done (.ret .none)) { s with heap:=sortedHeap s.heap a vs out }->P (.done (.ret .none)) { s with heap:=(ck s.heap a vs).update a (Obj.mapSeq λ_=>out) }:=λ_ _ q=>q;rcases Nat.lt_or_ge vs.toArray.size 2 with c | c
 . rw[if_pos c,if_pos c];have e:(arrOf (SortSt.mk' general' (vs.toArray.zip vs.toArray) #[] 7 none)).map (·.2)=vs.toArray:=by
    apply Array.toList_inj.mp;show((vs.toArray.zip vs.toArray).map (·.2)).toList=_
    rw[Array.toList_map,Array.toList_zip];exact List.map_snd_zip (Nat.le_refl _)
   refine wpAny_bind (m:=pure general') (wpAny_pure ?_);rw[StateT.run_pure];refine wpAny_bind (wpAny_pure (wpAny_bind (seqEpoch_at g2 rfl (wpAny_bind (listUpdate_at g2 rfl ?_ (Nat.zero_le _) (hsz2:=by rw[e,z];exact Nat.le_succ_of_le (iw h64)))))));rw[if_neg (by simp)];refine wpAny_pure ?_;rw[e];exact last _ (by rw[z];exact iw h64) (h0 (z ▸ c))
 . rw[if_neg (Nat.not_lt.mpr c),if_neg (Nat.not_lt.mpr c)];have c':2<=vs.length:=z ▸ c;have run:=kat_run (E:=E) (ks:=vs) (vs:=vs) (Q:=λst u=>u={ s with heap:=ck s.heap a vs }/\ ∃ p:Array Nat,p.size=vs.length/\arrOf st=p.map (kas_item (vs.toArray.zip vs.toArray))/\failedOf st=none/\G p)
    (G:=λp u=>u={ s with heap:=ck s.heap a vs }/\G p) rfl c' h64 (λp st u b1 b2 b3 b4=>⟨b4.1,p,b1,b2,b3,b4.2⟩) (ha c' _ λp g=>⟨rfl,g⟩)
   refine wpAny_bind (hk c' _ (wpAny_bind (wpAny_mono run (λr u x=>?_) λ_ _ x=>x)));obtain⟨⟨⟩,st⟩:=r;obtain⟨rfl,p,hp,har,hf,g⟩:=x;have el:(List.toArray (p.toList.map λi=>vs.getD i Value.none)).size<=sizeLine:=by rw[List.size_toArray,List.length_map,Array.length_toList,hp];exact iw h64
   dsimp only;rw[kat_snds rfl har,hf];refine wpAny_bind (seqEpoch_at g2 rfl (wpAny_bind (listUpdate_at g2 rfl ?_ (Nat.zero_le _) (Nat.le_succ_of_le el))));rw[if_neg (by simp)];exact wpAny_pure (last _ el (h p hp g))
abbrev gM(h:Heap)(vs:List Value):Heap:=((h.push (seqObj "list" #[] 0)).update h.objs.size (Obj.mapSeq (· ++vs.toArray))).push (seqObj "list" vs.toArray 0)
theorem dy(h:Heap)(vs:List Value):((h.push (seqObj "list" #[] 0)).update h.objs.size (Obj.mapSeq (· ++vs.toArray))).objs.size=h.objs.size+1:=(Heap.size_update _ _ _).trans (size_push' _ _)
theorem fI(h:Heap)(vs:List Value):(gM h vs).get? (h.objs.size+1)=some (seqObj "list" vs.toArray 0):=(dy h vs) ▸ Heap.get?_push_size _ rfl
theorem o9{h:Heap}{vs:List Value}{b:Addr}{o:Obj}(e:h.get? b=some o):(gM h vs).get? b=some o:=by
 have l:=Heap.lt_size e;have z:=dy h vs;exact(Heap.get?_push_ne _ _ _ (Nat.ne_of_lt (Nat.lt_of_lt_of_eq (Nat.lt_succ_of_lt l) z.symm))).trans ((Heap.get?_update_ne _ _ _ _ (Nat.ne_of_lt l)).trans ((Heap.get?_push_ne _ _ _ (Nat.ne_of_lt l)).trans e))
theorem qb{l:Addr}{vs:List Value}{Q:Value->Shared->Prop}{κ :SortKind}{G:Array Nat->Prop}(hl:s.heap.IsList l vs.toArray)(h64:vs.length < 64)
  (hk: ∀ h':Heap,(∀ b o,s.heap.get? b=some o->h'.get? b=some o)->2<=vs.length-> ∀ Q':SortKind->Shared->Prop,Q' κ { s with heap:=h' }->wpAny (model prog w) A.in1.in1 (keyKind' vs.toArray) Q' E { s with heap:=h' })
  (ha: ∀ h':Heap,(∀ b o,s.heap.get? b=some o->h'.get? b=some o)->2<=vs.length-> ∀ Q':Array Nat->Shared->Prop,(∀ p,G p->Q' p { s with heap:=h' })->(kas_sort vs.length).kasWp (kas_ask prog w A.in1.in1 κ vs) Q' { s with heap:=h' })
  (h0:vs.length < 2->Q (.ref (s.heap.objs.size+1)) { s with heap:=sortedAll s.heap vs vs.toArray })
  (h: ∀ p:Array Nat,p.size=vs.length->G p->Q (.ref (s.heap.objs.size+1)) { s with heap:=sortedAll s.heap vs (p.toList.map λi=>vs.getD i Value.none).toArray }):wpAny (model prog w) A (call (.builtin "sorted") [.ref l]) Q E s:=by
 have kp: ∀ b o,s.heap.get? b=some o->(ck (gM s.heap vs) (s.heap.objs.size+1) vs).get? b=some o:=λb o e=>nW (Nat.ne_of_lt (Nat.lt_succ_of_lt (Heap.lt_size e))) (o9 e);refine Calls.call_function_entry kind_sorted plain_sorted entry_sorted (args_sorted1 (.ref l)) ?_;unfold Builtin.«sorted»;refine wpAny_bind (m:=checkCount "sorted" 1 1 [Value.ref l].length) (wpAny_pure (wpAny_bind (collect_list hl (wpAny_bind (wpAny_newList ?_ (iw h64))) (iw h64))));show wpAny _ _ _ _ _ { s with heap:=gM s.heap vs };rw [dy];refine wpAny_bind (wpAny_holding (wpAny_call_entry slot_list_sort ⟨_,fI s.heap vs,rfl⟩ entry_list_sort (lh (G:=G) (κ := κ) (fI s.heap vs) h64 (hk _ kp) (ha _ kp) (λc=>⟨_,rfl,?_⟩) λp hp g=>⟨_,rfl,?_⟩) (args_list_sort (.ref (s.heap.objs.size+1)))))
 . exact wpAny_pure ⟨_,rfl,h0 c⟩
 . exact wpAny_pure ⟨_,rfl,h p hp g⟩
end
noncomputable def gy(H:Hp)(y:V)(q:Str × Int):Prop:= ∃ b,y= .ref b/\H b=some (.tup [.str q.1,.int q.2])
theorem gy.v{H:Hp}{y:V}{q:Str × Int}(h:gy H y q):lY H y (.inr q.1,.int q.2):=h
theorem gy.same{H H':Hp}{y:V}{q:Str × Int}(h:gy H y q)(s:gu H H'):gy H' y q:=let ⟨b,e,h⟩:=h;⟨b,e,s _ _ h⟩
noncomputable def yq(h:Heap)(v:Value)(q:Str × Int):Prop:= ∃ b o k t u,v= .ref b/\h.get? b=some o/\o.cls= .type "tuple" /\o.data= .seq #[.str q.1 t,.int q.2 u] k
theorem yq.kept{h h':Heap}{v:Value}{q:Str × Int}(k: ∀ b o,h.get? b=some o->h'.get? b=some o)(x:yq h v q):yq h' v q:=let ⟨b,o,n,t,u,e1,e2,e3,e4⟩:=x;⟨b,o,n,t,u,e1,k _ _ e2,e3,e4⟩
theorem oa{P:Program}{w:World}{H:Hp}{h:Heap}(ok:gv P w H h): ∀{ys:List V}{ps:List (Str × Int)}{ak:List Value},Paired (gy H) ys ps->Vals ys ak->Paired (yq h) ak ps
 | _,_,_,.nil,.nil=> .nil
 | _,_,_,.cons hp hr,.cons hv hrv=>by
  obtain⟨b,rfl,hb⟩:=hp;obtain⟨_,its0,r0,o,e1,e2,n,e3,_⟩:=(show aP P w H h b (.tup [.str _,.int _]) from ok b _ hb)
  obtain⟨u1,u2,rfl,⟨t1,rfl⟩,⟨t2,rfl⟩⟩:=vals2 r0;cases(show _=Value.ref b from hv);exact .cons ⟨b,o,n,t1,t2,rfl,e1,e2,e3⟩ (oa ok hr hrv)
theorem m4{h:Heap}: ∀{vs:List Value}{ps:List (Str × Int)},Paired (yq h) vs ps-> ∀{i:Nat},i < vs.length-> ∃ q,ps[i]?=some q/\yq h (vs.getD i Value.none) q
 | _,_,.nil,i,hi=>absurd hi (Nat.not_lt_zero _)
 | _,_,.cons hp hr,0,_=>⟨_,rfl,hp⟩
 | _,_,.cons hp hr,i+1,hi=>by
  obtain ⟨q,e,a⟩:=m4 hr (i:=i) (by simpa using hi);exact ⟨q,by simpa using e,by simpa using a⟩
theorem oz {h : Heap} : ∀ {vs : List Value} {ps : List (Str × Int)}, Paired (yq h) vs ps -> ∃ fs, KatTups h vs fs /\ fs.length = vs.length /\ ∀ v ∈ fs, ∃ x t, v = Value.str x t
  | _, _, .nil => ⟨[], .nil, rfl, λv m => nomatch m⟩
  | _, _, .cons hp hr => by
    obtain ⟨fs, k, l, st⟩ := oz hr;obtain ⟨b, o, n, t, u, rfl, e1, e2, e3⟩ := hp
    exact ⟨_, .cons e1 e2 e3 rfl k, by simp [l], fun v m => by rcases List.mem_cons.mp m with rfl | m; · exact ⟨_, _, rfl⟩
                                                               . exact st v m⟩
section
variable {prog:Program} {w:World} {A:Around} {E:Value->Shared->Prop} {s:Shared}
theorem si{vs:List Value}{ps:List (Str × Int)}(hp:Paired (yq s.heap) vs ps)(nd:(ps.map (·.1)).Nodup){i j:Nat}{C:Bool->Shared->Prop}(hi:i < vs.length)(hj:j < vs.length)(hij:i≠j)(h:C (cS (ps.map (·.1)) i j) s):kas_ask prog w A (tuples' true) vs i j C s:=by
 obtain⟨q1,f1,b1,o1,n1,t1,u1,e1,g1,c1,d1⟩:=m4 hp hi;obtain⟨q2,f2,b2,o2,n2,t2,u2,e2,g2,c2,d2⟩:=m4 hp hj;have hne:q1.1≠q2.1:=λz=>hij ((List.getElem?_inj (by rw[List.length_map];exact(List.getElem?_eq_some_iff.mp f1).1) nd).mp (by rw[List.getElem?_map,List.getElem?_map,f1,f2];simp[z]));unfold kas_ask;rw[e1,e2];refine kat_lt g1 d1 g2 d2 (SeqAt.EqAt.str_str q1.1 t1 q2.1 t2 _ _ _ _ ?_);refine IZ (by simpa using hne) ?_;refine oneLt_str ?_;have e:cS (ps.map (·.1)) i j=decide (q1.1.cps.toList < q2.1.cps.toList):=by
  unfold cS;rw[List.getD_eq_getElem?_getD,List.getD_eq_getElem?_getD,List.getElem?_map,List.getElem?_map,f1,f2];rfl
 rw[e] at h;exact h
theorem pz{vs:List Value}{ps:List (Str × Int)}(hp:Paired (yq s.heap) vs ps)(h2:2<=vs.length){Q':SortKind->Shared->Prop}(q:Q' (tuples' true) s):wpAny (model prog w) A (keyKind' vs.toArray) Q' E s:=by
 obtain⟨fs,k,l,st⟩:=oz hp;refine kat_kind (T:= .type "str") k (by omega) (λv m=>?_) (by decide) q;obtain⟨x,t,rfl⟩:=st v m;exact Looks.now
end
theorem jO{α β :Type}{R: α -> β ->Prop}: ∀{xs:List α}{zs:List β},Paired R xs zs-> ∀{i:Nat}(d: α)(e: β),i < xs.length->R (xs.getD i d) (zs.getD i e)
 | _,_,.nil,i,_,_,hi=>absurd hi (Nat.not_lt_zero _)
 | _,_,.cons hp hr,0,_,_,_=>hp
 | _,_,.cons hp hr,i+1,d,e,hi=>by simpa using jO hr (i:=i) d e (by simpa using hi)
theorem jz{α β :Type}{R: α -> β ->Prop}{xs:List α}{zs:List β}(hp:Paired R xs zs)(d: α)(e: β): ∀{is:List Nat},(∀ i∈is,i < xs.length)->Paired R (is.map λi=>xs.getD i d) (is.map λi=>zs.getD i e)
 | [],_=> .nil
 | i::r,hi=> .cons (jO hp d e (hi i List.mem_cons_self)) (jz hp d e λj m=>hi j (List.mem_cons_of_mem _ m))
theorem oe: ∀{xs:List V}{us:List Value},Vals xs us-> ∀{i:Nat},i < xs.length->RelV (xs.getD i .non) (us.getD i .none)
 | _,_,.nil,i,hi=>absurd hi (Nat.not_lt_zero _)
 | _,_,.cons hp hr,0,_=>hp
 | _,_,.cons hp hr,i+1,hi=>by simpa using oe hr (i:=i) (by simpa using hi)
theorem lP{xs:List V}{us:List Value}(h:Vals xs us): ∀{is:List Nat},(∀ i∈is,i < xs.length)->Vals (is.map λi=>xs.getD i .non) (is.map λi=>us.getD i .none)
 | [],_=> .nil
 | i::r,hi=> .cons (oe h (hi i List.mem_cons_self)) (lP h λj m=>hi j (List.mem_cons_of_mem _ m))
theorem sD{α :Type}(l:List α)(d: α):(List.range l.length).map (λi=>l.getD i d)=l:=by
 refine List.ext_getElem? λi=>?_;rw[List.getElem?_map];by_cases h:i < l.length
 . rw[List.getElem?_range h,List.getElem?_eq_getElem h];simp[h]
 . rw[List.getElem?_eq_none (by rw[List.length_range];omega),List.getElem?_eq_none (by omega)];rfl
noncomputable def qa(K:PySem.W.Frag):List V->Hp->VK->Prop:=λxs H Q=> ∃(p:Addr)(ys:List V)(ps:List (Str × Int)),xs=[.ref p]/\eU K H p ys/\Paired (gy H) ys ps/\ps.length < 64/\(ps.map (·.1)).Nodup /\
 ∀ l ys' ps',H l=none->ps'.Perm ps->(ps'.map (·.1)).Pairwise gj->Paired (gy H) ys' ps'->Q (.ref l) (upd H l (.lst ys'))
section
variable{X:Cx}
theorem mW:aM X (.builtin "sorted") (qa X.K):=by
 intro pins s σ H xs us Q I r h;obtain⟨p,ys,ps,rfl,hS,hP,h5,nd,q⟩:=h;obtain⟨u,rfl,ru⟩:=vals1 r;cases(show u=Value.ref p from ru);obtain⟨ak,hv,hl,hz⟩:=I.list hS;have hat:=oa I.bc hP hv;have hlen:=hv.length;have hpl:=Paired.length hP;have fs0:=oE (xs:=ps.map (·.1))
 rw[List.length_map] at fs0;have el:ak.length=ps.length:=by omega
 have fin: ∀(out:List Value)(ys':List V)(ps':List (Str × Int)),ys'.length=ps.length->Vals ys' out->ps'.Perm ps->(ps'.map (·.1)).Pairwise gj->Paired (gy H) ys' ps'->EP X pins σ Q (.ref (s.heap.objs.size+1)) { s with heap:=sortedAll s.heap ak out.toArray }:=λout ys' ps' hl' hv' pm pw pp=>by
  obtain⟨e,he⟩:=sortedAll_at s.heap ak out.toArray;obtain⟨hn,I'⟩:=I.iZ (a:=s.heap.objs.size+1) (o:= .lst ys') (t':=s.toks) (λb o e=>sortedAll_old e) (Heap.get?_none_of_le (Nat.le_succ _)) ⟨by rw[hl'];exact Nat.le_trans (Nat.le_of_lt h5) (by decide),out,e,hv',by simpa [seqObj] using he⟩;exact⟨.ref _,_,I',rfl,q _ ys' ps' hn pm pw pp⟩
 refine qb (κ :=tuples' true) (G:=λp=>2<=ak.length/\p=qL (cS (ps.map (·.1))) (kas_sort ps.length)) hl.isList (by omega)
  (λh' k h2 Q' hq=>pz (s:={ s with heap:=h' }) (Paired.tE hat λv q x=>x.kept k) h2 hq)
  (λh' k h2 Q' hq=>ou (n:=ak.length) (c:=cS (ps.map (·.1))) (λi j C hi hj hij hc=>si (s:={ s with heap:=h' }) (Paired.tE hat λv q x=>x.kept k) nd hi hj hij hc) _ (by rw[el];exact(fs0 (by omega) nd).1) (hq _ ⟨h2,by rw[el]⟩))
  (λh2=>?_) λpp hpp g=>?_
 . refine fin ak ys ps (by omega) hv (List.Perm.refl _) ?_ hP;cases ps with
   | nil=>exact .nil
   | cons x r=>cases r with
    | nil=>exact List.pairwise_singleton _ _
    | cons y r'=>simp at el;omega
 . obtain⟨g2,g⟩:=g;have fs:=fs0 (by omega) nd;subst g;have lt: ∀ i∈(qL (cS (ps.map (·.1))) (kas_sort ps.length)).toList,i < ps.length:=λi hi=>List.mem_range.mp (fs.2.1.mem_iff.mp hi)
   refine fin _ ((qL (cS (ps.map (·.1))) (kas_sort ps.length)).toList.map λi=>ys.getD i .non) ((qL (cS (ps.map (·.1))) (kas_sort ps.length)).toList.map λi=>ps.getD i ("",0)) ?_ (lP hv λi hi=>by have:=lt i hi;omega) ?_ ?_ (jz hP _ _ λi hi=>by have:=lt i hi;omega)
   . rw[List.length_map,Array.length_toList,hpp,el]
   . have:=fs.2.1.map (λi=>ps.getD i ("",0));rw[sD] at this;exact this
   . have e:(((qL (cS (ps.map (·.1))) (kas_sort ps.length)).toList.map λi=>ps.getD i ("",0)).map (·.1))=(qL (cS (ps.map (·.1))) (kas_sort ps.length)).toList.map λi=>(ps.map (·.1)).getD i ("" :Str):=by
      rw[List.map_map];refine List.map_congr_left λi hi=>?_;show(ps.getD i ("",0)).1=_;rw[List.getD_eq_getElem?_getD,List.getD_eq_getElem?_getD,List.getElem?_map,List.getElem?_eq_getElem (lt i hi)];rfl
     rw[e];exact fs.2.2
theorem nL(hc:X.calm=true):aM X (.builtin "sorted") (λxs H Q=>ug X.K xs H Q\/(uk xs H Q\/qa X.K xs H Q)):=iA.or ((iR hc).or mW)
end
noncomputable def Az(K:PySem.W.Frag):List V->Hp->VK->Prop:=λxs H Q=> ∃ x p Ts T b,xs=[x,.ref p]/\H p=some (.tup (List.map V.ty Ts))/\gq K H x (.type T)/\PySem.W.kitAny K (.type T) (List.map Value.type Ts)=some b/\Q (.bl b) H
theorem rn: ∀{Ts:List String}{us:List Value},Vals (Ts.map V.ty) us->us=Ts.map Value.type
 | [],_,.nil=>rfl
 | T::r,u::us,.cons h t=>by rw[rn t,show u=Value.type T from h];rfl
section
variable{X:Cx}
theorem mS:aM X (.builtin "isinstance") (Az X.K):=by
 intro pins s σ H xs us Q I r h;obtain⟨x,p,Ts,T,b,rfl,hp,ty,e,q⟩:=h;obtain⟨u,c,rfl,ru,rc⟩:=vals2 r;cases(show c=Value.ref p from rc);obtain⟨_,ak,hv,⟨oc,dd,dat,sl⟩,e1,e2,n,e3,_⟩:=(show aP X.prog X.w H s.heap p (.tup (Ts.map V.ty)) from I.bc p _ hp)
 simp only at e2 e3;subst e2 e3;obtain rfl:=rn hv;have fin: ∀ tk,EP X pins σ Q (.bool b) { s with toks:=tk }:=λtk=>⟨.bl b,H,I.tok tk,rfl,q⟩
 generalize hT:Value.type T=t at ty e;cases ty with
 | non=>cases(show u=Value.none from ru);exact kia_tup kitx_none I.i6 trivial e1 e nofun fin
 | bl y=>cases(show u=Value.bool y from ru);exact kia_tup kitx_bool I.i6 trivial e1 e nofun fin
 | int i=>obtain⟨_,rfl⟩:=(show ∃ t,u=Value.int i t from ru);exact kia_tup kitx_int I.i6 trivial e1 e nofun fin
 | str y=>obtain⟨_,rfl⟩:=(show ∃ t,u=Value.str y t from ru);exact kia_tup kitx_str I.i6 trivial e1 e nofun fin
 | flt y=>obtain⟨_,rfl⟩:=(show ∃ t,u=Value.float y t from ru);exact kia_tup kitx_float I.i6 trivial e1 e nofun fin
 | @lst a xs ea =>
  cases(show u=Value.ref a from ru)
  obtain⟨_,_,_,_,g⟩:=(show aP X.prog X.w H s.heap a (.lst xs) from I.bc a _ ea)
  exact kia_tup kitx_list I.i6 ⟨_,g,rfl⟩ e1 e nofun fin
 | @gC a ob xs ea =>
  cases(show u=Value.ref a from ru)
  obtain⟨_,_,_,_,_,g⟩:=(show aP X.prog X.w H s.heap a (.gC ob (.lst xs)) from I.bc a _ ea)
  exact kia_tup kitx_list I.i6 ⟨_,g,rfl⟩ e1 e nofun fin
 | @tup a xs ea =>
  cases(show u=Value.ref a from ru)
  obtain⟨_,_,_,o,g1,g2,_⟩:=(show aP X.prog X.w H s.heap a (.tup xs) from I.bc a _ ea)
  exact kia_tup kitx_tuple I.i6 ⟨o,g1,g2⟩ e1 e nofun fin
 | @dK a kvs ea =>
  cases(show u=Value.ref a from ru)
  obtain⟨_,_,_,_,o,_,_,g1,g2,_⟩:=(show aP X.prog X.w H s.heap a (.dK kvs) from I.bc a _ ea)
  exact kia_tup kitx_dict I.i6 ⟨o,g1,g2.1⟩ e1 e nofun fin
 | @dT a kvs ea =>
  cases(show u=Value.ref a from ru)
  obtain⟨_,_,_,_,o,_,_,g1,g2,_⟩:=(show aP X.prog X.w H s.heap a (.dT kvs) from I.bc a _ ea)
  exact kia_tup kitx_dict I.i6 ⟨o,g1,g2.1⟩ e1 e nofun fin
 | ins=>cases hT
theorem wX:aM X (.builtin "isinstance") (λxs H Q=>EF X.K xs H Q\/Az X.K xs H Q):=zb.or mS
end
section
variable{prog:Program}{w:World}{A:Around}{E:Value->Shared->Prop}{s:Shared}
theorem Jc{α :Type}{c:Prop}[Decidable c]{m m':Sem α}{M:Model}{Q: α ->Shared->Prop}(hc: ¬ c)(h:wpAny M A m' Q E s):wpAny M A (if c then m else m') Q E s:=by rw[if_neg hc];exact h
structure Jk(h:Heap)(z TI TO i1 i2 l1 l2:Addr)(k:Nat):Prop where
 Jb:IsZip h z TI TO .none
 ak:IsPair h TI (.ref i1) (.ref i2)
 old: ∃ a b,IsPair h TO a b
 one:h.IsTupleIter i1 l1 k
 two:h.IsTupleIter i2 l2 k
end
end L2
end
section
open PySem PySem.W PyProof.Rows
namespace P3
open PySem PySem.Spec PyProof.Rows L2
inductive PV where
 | non | bl (b:Bool) | int (i:Int) | str (x:Str) | tup (xs:List PV) | ktup (xs:List PV) | ref (n:Nat) | ty (n:String)
mutual
def PV.beq:PV->PV->Bool
 | .non,.non=>true
 | .bl a,.bl b=>decide (a=b)
 | .int a,.int b=>decide (a=b)
 | .str a,.str b=>decide (a=b)
 | .tup a,.tup b=>PV.pC a b
 | .ktup a,.ktup b=>PV.pC a b
 | .ref a,.ref b=>decide (a=b)
 | .ty a,.ty b=>decide (a=b)
 | _,_=>false
def PV.pC:List PV->List PV->Bool
 | [],[]=>true
 | a::x,b::y=>PV.beq a b&&PV.pC x y
 | _,_=>false
end
mutual
theorem PV.beq_iff: ∀(a b:PV),PV.beq a b=true↔a=b
 | .non,b=>by cases b<;>simp[PV.beq]
 | .bl _,b=>by cases b<;>simp[PV.beq]
 | .int _,b=>by cases b<;>simp[PV.beq]
 | .str _,b=>by cases b<;>simp[PV.beq]
 | .ref _,b=>by cases b<;>simp[PV.beq]
 | .ty _,b=>by cases b<;>simp[PV.beq]
 | .tup a,b=>by
  cases b with
  | tup b=>rw[PV.beq,PV.kC a b];simp
  | _=>simp[PV.beq]
 | .ktup a,b=>by
  cases b with
  | ktup b=>rw[PV.beq,PV.kC a b];simp
  | _=>simp[PV.beq]
theorem PV.kC: ∀(a b:List PV),PV.pC a b=true↔a=b
 | [],b=>by cases b<;>simp[PV.pC]
 | a::x,b=>by
  cases b with
  | nil=>simp[PV.pC]
  | cons b y=>rw[PV.pC,Bool.and_eq_true,PV.beq_iff a b,PV.kC x y];simp
end
instance:DecidableEq PV:=λa b=>decidable_of_iff _ (PV.beq_iff a b)
mutual
def PV.flat:PV->Bool
 | .ref _=>false
 | .tup xs=>PV.bF xs
 | .ktup xs=>PV.bF xs
 | _=>true
def PV.bF:List PV->Bool
 | []=>true
 | x::r=>x.flat&&PV.bF r
end
mutual
def PV.gB(n:Nat):PV->Bool
 | .ref m=>decide (m < n)
 | .tup xs=>PV.hZ n xs
 | .ktup xs=>PV.hZ n xs
 | _=>true
def PV.hZ(n:Nat):List PV->Bool
 | []=>true
 | x::r=>x.gB n&&PV.hZ n r
end
inductive PO where
 | lst (xs:List PV) | iu (xs:List PV) | dct (kvs:List (Key × PV))
 deriving DecidableEq
noncomputable def PO.ee:PO->Bool
 | .iu _=>false
 | _=>true
noncomputable def PO.gB(n:Nat):PO->Bool
 | .lst xs=>PV.hZ n xs
 | .iu xs=>PV.hZ n xs
 | .dct kvs=>PV.hZ n (kvs.map (·.2))
abbrev PH:=List PO
abbrev aq:=List (Option PV)
noncomputable def KT(K:PySem.W.Frag)(a:Addr)(xs:List V):Prop:= ∃(o:Obj)(ak:Array Value)(n:Nat),K.lookup a=some o/\o.cls= .type "tuple" /\o.data= .seq ak n/\ak.size<=sizeLine/\Vals xs ak.toList
mutual
def rel(K:PySem.W.Frag)(ρ :List Addr)(H:Hp):PV->V->Prop
 | .non,v=>v= .non
 | .bl b,v=>v= .bl b
 | .int i,v=>v= .int i
 | .str x,v=>v= .str x
 | .ty n,v=>v= .ty n
 | .ref n,v=> ∃ a, ρ[n]?=some a∧v= .ref a
 | .tup xs,v=> ∃ a vs,v= .ref a∧H a=some (.tup vs)∧aj K ρ H xs vs
 | .ktup xs,v=> ∃ a vs,v= .ref a∧KT K a vs∧aj K ρ H xs vs
def aj (K:PySem.W.Frag) (ρ :List Addr) (H:Hp):List PV->List V->Prop
 | [],vs=>vs=[]
 | x::r,vs=> ∃ v t,vs=v::t∧rel K ρ H x v∧aj K ρ H r t
end
structure Gr (ρ :List Addr) (H:Hp) (ρ':List Addr) (H':Hp):Prop where
 pre: ∀ (n:Nat) (a:Addr), ρ[n]?=some a-> ρ'[n]?=some a
 tup: ∀ a xs,H a=some (.tup xs)->H' a=some (.tup xs)
 gC: ∀ a o u,H a=some (.gC o u)->H' a=some (.gC o u)
theorem Gr.refl (ρ :List Addr) (H:Hp):Gr ρ H ρ H:=⟨λ_ _ h=>h,λ_ _ h=>h,λ_ _ _ h=>h⟩
theorem Gr.trans{ρ ρ1 ρ2:List Addr}{H H1 H2:Hp}(a:Gr ρ H ρ1 H1)(b:Gr ρ1 H1 ρ2 H2):Gr ρ H ρ2 H2 :=
 ⟨λn x h=>b.pre n x (a.pre n x h),λx xs h=>b.tup x xs (a.tup x xs h),λx o u h=>b.gC x o u (a.gC x o u h)⟩
section
variable{K:PySem.W.Frag}{ρ ρ':List Addr}{H H':Hp}
theorem Gr.Ja(g:Gr ρ H ρ' H'){a:Addr}{xs:List V}(h:fk K H a xs):fk K H' a xs:=by
 rcases h with(h | ⟨o,h⟩) | h
 . exact .inl (.inl (g.tup _ _ h))
 . exact .inl (.inr ⟨o,g.gC _ _ _ h⟩)
 . exact .inr h
theorem Gr.Jd(g:Gr ρ H ρ' H'){a:Addr}{xs:List V}(h:rP K H a xs):rP K H' a xs:=by
 rcases h with⟨o,h⟩ | h
 . exact .inl ⟨o,g.gC _ _ _ h⟩
 . exact .inr h
mutual
theorem rel.gr(g:Gr ρ H ρ' H'): ∀(x:PV)(v:V),rel K ρ H x v->rel K ρ' H' x v
 | .non,v,h=>by simpa only[rel] using h
 | .bl _,v,h=>by simpa only[rel] using h
 | .int _,v,h=>by simpa only[rel] using h
 | .str _,v,h=>by simpa only[rel] using h
 | .ty _,v,h=>by simpa only[rel] using h
 | .ref n,v,h=>by
  rw[rel] at h ⊢;obtain⟨a,e,h⟩:=h;exact⟨a,g.pre _ _ e,h⟩
 | .tup xs,v,h=>by
  rw[rel] at h ⊢;obtain⟨a,vs,e,s,r⟩:=h;exact⟨a,vs,e,g.tup _ _ s,aj.gr g xs vs r⟩
 | .ktup xs,v,h=>by
  rw[rel] at h ⊢;obtain⟨a,vs,e,s,r⟩:=h;exact⟨a,vs,e,s,aj.gr g xs vs r⟩
theorem aj.gr(g:Gr ρ H ρ' H'): ∀(xs:List PV)(vs:List V),aj K ρ H xs vs->aj K ρ' H' xs vs
 | [],vs,h=>by simpa only[aj] using h
 | x::r,vs,h=>by
  rw[aj] at h ⊢;obtain⟨v,t,e,h1,h2⟩:=h;exact⟨v,t,e,rel.gr g x v h1,aj.gr g r t h2⟩
end
noncomputable def PV.seq?:PV->Option (List PV)
 | .tup xs=>some xs
 | .ktup xs=>some xs
 | _=>none
theorem rel.seq{x:PV}{xs:List PV}{v:V}(e:x.seq?=some xs)(h:rel K ρ H x v): ∃ a vs,v= .ref a/\fk K H a vs/\aj K ρ H xs vs:=by
 cases x<;>simp only[PV.seq?,reduceCtorEq,Option.some.injEq] at e
 . subst e;rw[rel] at h;obtain⟨a,vs,e,z,r⟩:=h;exact⟨a,vs,e,.of z,r⟩
 . subst e;rw[rel] at h;obtain⟨a,vs,e,z,r⟩:=h;exact⟨a,vs,e,.inr z,r⟩
theorem aD{vs:List V}:aj K ρ H [] vs↔vs=[]:=by rw[aj]
theorem au{x:PV}{r:List PV}{vs:List V}:aj K ρ H (x::r) vs↔ ∃ v t,vs=v::t/\rel K ρ H x v/\aj K ρ H r t:=by rw[aj]
theorem aj.len: ∀{xs:List PV}{vs:List V},aj K ρ H xs vs->xs.length=vs.length
 | [],vs,h=>by rw[aD] at h;rw[h];rfl
 | x::r,vs,h=>by
  obtain⟨v,t,rfl,_,h2⟩:=au.mp h;simp[aj.len h2]
theorem aj.get: ∀{xs:List PV}{vs:List V}{i:Nat}{x:PV},aj K ρ H xs vs->xs[i]?=some x-> ∃ v,vs[i]?=some v/\rel K ρ H x v
 | [],vs,i,x,h,e=>by simp at e
 | y::r,vs,i,x,h,e=>by
  obtain⟨v,t,rfl,h1,h2⟩:=au.mp h;cases i with
  | zero=>simp at e;subst e;exact⟨v,rfl,h1⟩
  | succ i=>simpa using aj.get h2 (by simpa using e)
theorem aj.app: ∀{xs ys:List PV}{vs ws:List V},aj K ρ H xs vs->aj K ρ H ys ws->aj K ρ H (xs++ys) (vs++ws)
 | [],ys,vs,ws,h,h'=>by rw[aD] at h;subst h;exact h'
 | x::r,ys,vs,ws,h,h'=>by
  obtain⟨v,t,rfl,h1,h2⟩:=au.mp h;exact au.mpr ⟨v,t++ws,rfl,h1,aj.app h2 h'⟩
theorem aj.one{x:PV}{v:V}(h:rel K ρ H x v):aj K ρ H [x] [v]:=au.mpr ⟨v,[],rfl,h,aD.mpr rfl⟩
theorem aj.take: ∀{xs:List PV}{vs:List V}(n:Nat),aj K ρ H xs vs->aj K ρ H (xs.take n) (vs.take n)
 | xs,vs,0,h=>by simp[aD]
 | [],vs,n+1,h=>by rw[aD] at h;subst h;simp[aD]
 | x::r,vs,n+1,h=>by
  obtain⟨v,t,rfl,h1,h2⟩:=au.mp h;exact au.mpr ⟨v,t.take n,rfl,h1,aj.take n h2⟩
theorem aj.drop: ∀{xs:List PV}{vs:List V}(n:Nat),aj K ρ H xs vs->aj K ρ H (xs.drop n) (vs.drop n)
 | xs,vs,0,h=>h
 | [],vs,n+1,h=>by rw[aD] at h;subst h;simp[aD]
 | x::r,vs,n+1,h=>by
  obtain⟨v,t,rfl,h1,h2⟩:=au.mp h;exact aj.drop n h2
theorem aj.set: ∀{xs:List PV}{vs:List V}{x:PV}{v:V}(i:Nat),aj K ρ H xs vs->rel K ρ H x v->aj K ρ H (xs.set i x) (vs.set i v)
 | [],vs,x,v,i,h,hv=>by rw[aD] at h;subst h;simp[aD]
 | y::r,vs,x,v,i,h,hv=>by
  obtain⟨w,t,rfl,h1,h2⟩:=au.mp h;cases i with
  | zero=>exact au.mpr ⟨v,t,rfl,hv,h2⟩
  | succ i=>exact au.mpr ⟨w,t.set i v,rfl,h1,aj.set i h2 hv⟩
theorem aj.ints: ∀(ns:List Int),aj K ρ H (ns.map PV.int) (ns.map V.int)
 | []=>aD.mpr rfl
 | n::r=>au.mpr ⟨.int n,r.map V.int,rfl,by rw[rel],aj.ints r⟩
end
noncomputable def iD(K:PySem.W.Frag)(ρ :List Addr)(H:Hp)(a:Addr):PO->Prop
 | .lst xs=> ∃ vs,H a=some (.lst vs)/\aj K ρ H xs vs
 | .iu xs=> ∃ vs,rP K H a vs/\aj K ρ H xs vs
 | .dct kvs=> ∃ kws,H a=some (.dK kws)/\Paired (λ(p:Key × PV) (q:Key × V)=>p.1=q.1/\rel K ρ H p.2 q.2) kvs kws
structure b6(K:PySem.W.Frag)(ρ :List Addr)(h:PH)(H:Hp):Prop where
 len: ρ.length=h.length
 nd: ∀(i j:Nat)(a:Addr)(oi oj:PO),h[i]?=some oi->h[j]?=some oj->oi.ee=true->oj.ee=true-> ρ[i]?=some a-> ρ[j]?=some a->i=j
 ob: ∀ (i:Nat) (o:PO) (a:Addr),h[i]?=some o-> ρ[i]?=some a->iD K ρ H a o
section
variable {K:PySem.W.Frag} {ρ ρ':List Addr} {H H':Hp} {h:PH}
theorem b6.at (s:b6 K ρ h H) {i:Nat} {o:PO} (e:h[i]?=some o): ∃ a, ρ[i]?=some a∧iD K ρ H a o:=by
 have hi:i < ρ.length:=by rw [s.len];exact (List.getElem?_eq_some_iff.mp e).1
 exact ⟨ρ[i],List.getElem?_eq_getElem hi,s.ob i o _ e (List.getElem?_eq_getElem hi)⟩
theorem Paired.gi {kvs:List (Key × PV)} {kws:List (Key × V)} (g:Gr ρ H ρ' H') (h:Paired (λ(p:Key × PV) (q:Key × V)=>p.1=q.1∧rel K ρ H p.2 q.2) kvs kws) :
  Paired (λ(p:Key × PV) (q:Key × V)=>p.1=q.1/\rel K ρ' H' p.2 q.2) kvs kws:=Paired.tE h λ_ _ z=>⟨z.1,rel.gr g _ _ z.2⟩
theorem fC{a:Addr}{o:PO}(m:o.ee=true)(r:iD K ρ H a o):(∃ vs,H a=some (.lst vs))\/ ∃ kws,H a=some (.dK kws):=by
 cases o with
 | lst xs=>obtain⟨vs,e,_⟩:=r;exact .inl ⟨vs,e⟩
 | iu xs=>exact nomatch m
 | dct kvs=>obtain⟨kws,e,_⟩:=r;exact .inr ⟨kws,e⟩
theorem iT{a:Addr}{o:PO}(g:Gr ρ H ρ' H')(k:o.ee=true->H' a=H a)(r:iD K ρ H a o):iD K ρ' H' a o:=by
 cases o with
 | lst xs=>obtain⟨vs,e,r⟩:=r;exact⟨vs,(k rfl).trans e,aj.gr g _ _ r⟩
 | iu xs=>obtain ⟨vs,e,r⟩:=r;exact ⟨vs,g.Jd e,aj.gr g _ _ r⟩
 | dct kvs=>obtain ⟨kws,e,r⟩:=r;exact ⟨kws,(k rfl).trans e,Paired.gi g r⟩
theorem Gr.new {p : Addr} {o : HO} (hp : H p = none) (l : List Addr) : Gr ρ H (ρ ++ l) (upd H p o) :=
  ⟨λn a e => by rw [List.getElem?_append_left (List.getElem?_eq_some_iff.mp e).1]; exact e,
   λa xs e => by rw [ay (aB e hp)]; exact e, λa o u e => by rw [ay (aB e hp)]; exact e⟩
theorem Gr.wB {p:Addr} {o:HO} (hp:H p=none):Gr ρ H ρ (upd H p o):=by simpa using Gr.new (ρ := ρ) (o:=o) hp []
theorem b6.tup (s:b6 K ρ h H) {p:Addr} {o:HO} (hp:H p=none):b6 K ρ h (upd H p o) :=
 ⟨s.len,s.nd,λi x a e1 e2=>iT (Gr.wB hp) (λm=>by
  have:=fC m (s.ob i x a e1 e2);refine ay ?_;rcases this with⟨_,z⟩ | ⟨_,z⟩<;>exact aB z hp) (s.ob i x a e1 e2)⟩
theorem b6.new(s:b6 K ρ h H){p:Addr}{ho:HO}{o:PO}(hp:H p=none)(r:iD K (ρ ++[p]) (upd H p ho) p o):b6 K (ρ ++[p]) (h++[o]) (upd H p ho):=by
 have g:Gr ρ H (ρ ++[p]) (upd H p ho):=Gr.new hp [p];have old: ∀{i:Nat}{x:PO},(h++[o])[i]?=some x->(i < h.length/\h[i]?=some x)\/(i=h.length/\x=o):=λ{i x} e=>by
  rcases Nat.lt_or_ge i h.length with z | z
  . rw[List.getElem?_append_left z] at e;exact .inl ⟨z,e⟩
  . rw[List.getElem?_append_right z] at e;have:i - h.length=0:=by
     rcases Nat.eq_zero_or_pos (i - h.length) with y | y
     . exact y
     . rw[List.getElem?_eq_none (by simp;omega)] at e;exact nomatch e
    rw[this] at e;exact .inr ⟨by omega,by simpa using e.symm⟩
 have oldρ : ∀{i:Nat}{a:Addr},i < h.length->(ρ ++[p])[i]?=some a-> ρ[i]?=some a:=λ{i a} z e=>by
  rw[List.getElem?_append_left (by rw[s.len];exact z)] at e;exact e
 have newρ : ∀{a:Addr},(ρ ++[p])[h.length]?=some a->a=p:=λ{a} e=>by
  rw[<- s.len,List.getElem?_append_right (Nat.le_refl _)] at e;simpa using e.symm
 refine⟨by simp[s.len],λi j a oi oj ei ej mi mj ri rj=>?_,λi x a e1 e2=>?_⟩
 . rcases old ei with⟨zi,ei⟩ | ⟨zi,ei⟩<;>rcases old ej with⟨zj,ej⟩ | ⟨zj,ej⟩
   . exact s.nd i j a oi oj ei ej mi mj (oldρ zi ri) (oldρ zj rj)
   . subst zj;have:=fC mi (s.ob i oi a ei (oldρ zi ri));rw[newρ rj] at this;rcases this with⟨_,z⟩ | ⟨_,z⟩<;>(rw[hp] at z;exact nomatch z)
   . subst zi;have:=fC mj (s.ob j oj a ej (oldρ zj rj));rw[newρ ri] at this;rcases this with⟨_,z⟩ | ⟨_,z⟩<;>(rw[hp] at z;exact nomatch z)
   . rw[zi,zj]
 . rcases old e1 with⟨z,e⟩ | ⟨z,e⟩
   . refine iT g (λm=>?_) (s.ob i x a e (oldρ z e2));have:=fC m (s.ob i x a e (oldρ z e2));refine ay ?_;rcases this with ⟨_,y⟩ | ⟨_,y⟩<;>exact aB y hp
   . subst z;subst e;rw [newρ e2];exact r
theorem Gr.write {a : Addr} {ho : HO} (m : (∃ vs, H a = some (.lst vs)) ∨ ∃ kws, H a = some (.dK kws)) : Gr ρ H ρ (upd H a ho) :=
  ⟨fun _ _ h => h, fun b xs e => by rw [ay]; · exact e
                                    . rintro rfl; rcases m with ⟨_, z⟩ | ⟨_, z⟩ <;> (rw [e] at z; exact nomatch z),
   fun b o u e => by rw [ay]; · exact e
                     . rintro rfl; rcases m with ⟨_, z⟩ | ⟨_, z⟩ <;> (rw [e] at z; exact nomatch z)⟩
theorem b6.write (s:b6 K ρ h H) {i:Nat} {a:Addr} {ho:HO} {o o':PO} (e:h[i]?=some o) (ea: ρ[i]?=some a) (m:o.ee=true) (m':o'.ee=true) (r:iD K ρ (upd H a ho) a o') :
  b6 K ρ (h.set i o') (upd H a ho):=by
 have ma:=fC m (s.ob i o a e ea);have g:Gr ρ H ρ (upd H a ho):=Gr.write ma;have hi:i < h.length:=(List.getElem?_eq_some_iff.mp e).1;have at_: ∀{j:Nat}{x:PO},(h.set i o')[j]?=some x->(j=i/\x=o')\/(j≠i/\h[j]?=some x):=λ{j x} q=>by
  by_cases z:j=i
  . subst z;rw[List.getElem?_set_self hi] at q;exact .inl ⟨rfl,by simpa using q.symm⟩
  . rw[List.getElem?_set_ne (Ne.symm z)] at q;exact .inr ⟨z,q⟩
 refine⟨by simp[s.len],λj k b oj ok ej ek mj mk rj rk=>?_,λj x b e1 e2=>?_⟩
 . rcases at_ ej with⟨zj,_⟩ | ⟨_,ej2⟩<;>rcases at_ ek with⟨zk,_⟩ | ⟨_,ek2⟩
   . rw[zj,zk]
   . rw[zj] at rj ⊢; exact s.nd _ _ b o ok e ek2 m mk rj rk
   . rw[zk] at rk ⊢; exact s.nd _ _ b oj o ej2 e mj m rj rk
   . exact s.nd j k b oj ok ej2 ek2 mj mk rj rk
 . rcases at_ e1 with⟨rfl,rfl⟩ | ⟨z,e1⟩
   . rw[ea] at e2;cases e2;exact r
   . refine iT g (λmx=>ay λq=>z ?_) (s.ob j x b e1 e2);subst q;exact s.nd j i b x o e1 e mx m e2 ea
end
inductive RV(α :Type) where
 | ok (a: α) (h:PH) | ex (c:String) (vs:List PV) (h:PH) | no
variable{α β :Type}
noncomputable def RV.bind:RV α ->(α ->PH->RV β)->RV β
 | .ok a h,f=>f a h
 | .ex c vs h,_=> .ex c vs h
 | .no,_=> .no
theorem cm{a: α}{h:PH}{f: α ->PH->RV β}:(RV.ok a h).bind f=f a h:=rfl
theorem bind_eq{r:RV α}{f: α ->PH->RV β}{b: β}{h':PH}:r.bind f= .ok b h'↔ ∃ a h,r= .ok a h/\f a h= .ok b h':=by
 cases r with
 | ok a h=>exact⟨λe=>⟨a,h,rfl,e⟩,λ⟨a',h2,e,q⟩=>by cases e;exact q⟩
 | ex c vs h=>exact⟨λe=>(nomatch e),λ⟨_,_,e,_⟩=>(nomatch e)⟩
 | no=>exact⟨λe=>(nomatch e),λ⟨_,_,e,_⟩=>(nomatch e)⟩
theorem uO{c:Prop}[Decidable c]{a b:RV α}{f: α ->PH->RV β}:(if c then a else b).bind f=if c then a.bind f else b.bind f:=by split<;>rfl
noncomputable def Ok(r:RV α)(Q: α ->PH->Prop):Prop:= ∃ a h,r= .ok a h/\Q a h
theorem Ok.mono{r:RV α}{Q Q': α ->PH->Prop}(h:Ok r Q)(f: ∀ a h,Q a h->Q' a h):Ok r Q':=let ⟨a,h,e,q⟩:=h;⟨a,h,e,f _ _ q⟩
abbrev CF:=String->List PV->PH->RV PV
abbrev ME:=CF->aq->PH->RV PV
abbrev MT:=CF->aq->PH->RV Bool
abbrev MA:=CF->aq->PH->RV (List PV)
inductive Fl where
 | nx (e:aq) | rt (v:PV) | bk (e:aq) | ct (e:aq)
abbrev MS:=CF->aq->PH->RV Fl
abbrev MG:=PV->aq->PH->RV aq
structure js where
 gd:Option Nat
 items:List PV
abbrev MI:=CF->aq->PH->RV js
structure Df where
 ps:List Str
 nl:Nat
 body:MS
structure Tb where
 fns:String->Option Df
 con:Str->Option PV
 zg:Str->Option (List (Key × PV))
noncomputable def bC(n:Nat):PH->PH->Bool
 | [],_=>true
 | _::_,[]=>false
 | o::h,o'::h'=>(decide (o=o')||(o'.gB n&&o.ee == o'.ee))&&bC n h h'
noncomputable def settle(h:PH)(v:PV)(h':PH):RV PV:=if (v.flat&&bC h.length h h')=true then .ok v (h'.take h.length) else .ok v h'
theorem gI(n:Nat): ∀(h g:PH),bC n h (h++g)=true
 | [],g=>rfl
 | o::h,g=>by rw[List.cons_append,bC,gI n h g];simp
theorem ku{n:Nat}{o':PO}(hu:o'.gB n=true): ∀(h h':PH)(i:Nat)(o:PO),bC n h h'=true->h[i]?=some o->o.ee=o'.ee->bC n h (h'.set i o')=true
 | [],h',i,o,_,e,_=>by simp at e
 | a::h,[],i,o,q,_,_=>by simp[bC] at q
 | a::h,b::h',0,o,q,e,m=>by
  rw[bC,Bool.and_eq_true] at q;simp at e;subst e;rw[List.set_cons_zero,bC,q.2,hu,m];simp
 | a::h,b::h',i+1,o,q,e,m=>by
  rw[bC,Bool.and_eq_true] at q;rw[List.set_cons_succ,bC,ku hu h h' i o q.2 (by simpa using e) m,q.1];rfl
theorem kb{n:Nat}: ∀{h h':PH},bC n h h'=true->h.length<=h'.length
 | [],h',_=>Nat.zero_le _
 | o::h,[],e=>by simp[bC] at e
 | o::h,o'::h',e=>by
  rw[bC,Bool.and_eq_true] at e;simp only[List.length_cons];exact Nat.succ_le_succ (kb e.2)
theorem l7{n:Nat}: ∀{h h':PH}{i:Nat}{o':PO},bC n h h'=true->(h'.take h.length)[i]?=some o'-> ∃ o,h[i]?=some o/\o.ee=o'.ee/\(o=o'\/o'.gB n=true)
 | [],h',i,o',_,e=>by simp at e
 | a::h,[],i,o',q,_=>by simp[bC] at q
 | a::h,b::h',0,o',q,e=>by
  rw[bC,Bool.and_eq_true,Bool.or_eq_true,Bool.and_eq_true] at q;simp at e;subst e;refine⟨a,rfl,?_,?_⟩
  . rcases q.1 with z | z
    . rw[of_decide_eq_true z]
    . simpa using z.2
  . rcases q.1 with z | z
    . exact .inl (of_decide_eq_true z)
    . exact .inr z.1
 | a::h,b::h',i+1,o',q,e=>by
  rw[bC,Bool.and_eq_true] at q;simpa using l7 q.2 (by simpa using e)
noncomputable def run(pg:Tb):Nat->CF
 | 0,_,_,_=> .no
 | k+1,f,vs,h=>match pg.fns f with
  | none=> .no
  | some d=>if vs.length=d.ps.length then
    (match d.body (run pg k) (vs.map some++List.replicate d.nl none) h with
    | .ok (.rt v) h'=>settle h v h'
    | .ok (.nx _) h'=>settle h .non h'
    | .ok _ _=> .no
    | .ex c us h'=> .ex c us h'
    | .no=> .no)
   else .no
noncomputable def cK(K:PySem.W.Frag)(ρ :List Addr)(H:Hp)(v:PV)(h':PH)(Q:VK):Prop:= ∀ v' ρ' H',Gr ρ H ρ' H'->b6 K ρ' h' H'->rel K ρ' H' v v'->Q v' H'
noncomputable def jA(K:PySem.W.Frag)(ρ :List Addr)(H:Hp)(h':PH)(Q:Hp->Prop):Prop:= ∀ ρ' H',Gr ρ H ρ' H'->b6 K ρ' h' H'->Q H'
noncomputable def qA (K:PySem.W.Frag) (ρ :List Addr) (H:Hp) (vs:List PV) (h':PH) (Q:List V->Hp->Prop):Prop:= ∀ us ρ' H',Gr ρ H ρ' H'->b6 K ρ' h' H'->aj K ρ' H' vs us->Q us H'
structure cJ (K:PySem.W.Frag) (ρ :List Addr) (H:Hp) (e:aq) (σ :L2.St):Prop where
 len:e.length= σ.length
 get: ∀ (i:Nat) (v:PV),e[i]?=some (some v)-> ∃ v', σ[i]?=some (some v')∧rel K ρ H v v'
noncomputable def dX (K:PySem.W.Frag) (ρ :List Addr) (H:Hp) (e':aq) (h':PH) (Q:L2.St->Hp->Prop):Prop:= ∀ σ' ρ' H',Gr ρ H ρ' H'->b6 K ρ' h' H'->cJ K ρ' H' e' σ'->Q σ' H'
noncomputable def qJ (K:PySem.W.Frag) (ρ :List Addr) (H:Hp) (D:Ends) (h':PH):Fl->Prop
 | .nx e=>dX K ρ H e h' D.nx
 | .bk e=>dX K ρ H e h' D.bk
 | .ct e=>dX K ρ H e h' D.ct
 | .rt v=>cK K ρ H v h' D.rt
section
variable{K:PySem.W.Frag}{ρ ρ1:List Addr}{H H1:Hp}{h':PH}
theorem cJ.gr{e:aq}{σ :L2.St}(r:cJ K ρ H e σ)(g:Gr ρ H ρ1 H1):cJ K ρ1 H1 e σ :=⟨r.len,λi v q=>let ⟨v',a,b⟩:=r.get i v q;⟨v',a,rel.gr g _ _ b⟩⟩
theorem cJ.set{e:aq}{σ :L2.St}{v:PV}{v':V}(r:cJ K ρ H e σ)(i:Nat)(h:rel K ρ H v v'):cJ K ρ H (e.set i (some v)) (σ.set i (some v')):=by
 refine⟨by simp[r.len],λj x q=>?_⟩;by_cases z:j=i
 . subst z;have hj:j < e.length:=by
    have:=(List.getElem?_eq_some_iff.mp q).1;simpa using this
   rw[List.getElem?_set_self hj] at q;cases q;exact⟨v',List.getElem?_set_self (by rw[<- r.len];exact hj),h⟩
 . rw[List.getElem?_set_ne (Ne.symm z)] at q ⊢;exact r.get j x q
theorem cJ.more{e:aq}{σ :L2.St}(r:cJ K ρ H e σ)(k:Nat):cJ K ρ H (e++List.replicate k none) (σ ++List.replicate k none):=by
 refine⟨by simp[r.len],λj x q=>?_⟩;rcases Nat.lt_or_ge j e.length with z | z
 . rw[List.getElem?_append_left z] at q;rw[List.getElem?_append_left (by rw[<- r.len];exact z)];exact r.get j x q
 . rw[List.getElem?_append_right z,List.getElem?_replicate] at q;split at q<;>exact nomatch q
theorem cK.gr{v:PV}{Q:VK}(p:cK K ρ H v h' Q)(g:Gr ρ H ρ1 H1):cK K ρ1 H1 v h' Q:=λv' ρ' H' g'=>p v' ρ' H' (g.trans g')
theorem jA.gr{Q:Hp->Prop}(p:jA K ρ H h' Q)(g:Gr ρ H ρ1 H1):jA K ρ1 H1 h' Q:=fun ρ' H' g'=>p ρ' H' (g.trans g')
theorem qA.gr{vs:List PV}{Q:List V->Hp->Prop}(p:qA K ρ H vs h' Q)(g:Gr ρ H ρ1 H1):qA K ρ1 H1 vs h' Q:=λv' ρ' H' g'=>p v' ρ' H' (g.trans g')
theorem dX.gr{e:aq}{Q:L2.St->Hp->Prop}(p:dX K ρ H e h' Q)(g:Gr ρ H ρ1 H1):dX K ρ1 H1 e h' Q:=λv' ρ' H' g'=>p v' ρ' H' (g.trans g')
theorem qJ.gr{D:Ends}{f:Fl}(p:qJ K ρ H D h' f)(g:Gr ρ H ρ1 H1):qJ K ρ1 H1 D h' f:=by
 cases f with
 | nx e=>exact dX.gr p g
 | bk e=>exact dX.gr p g
 | ct e=>exact dX.gr p g
 | rt e=>exact cK.gr p g
end
noncomputable def SE(c:CF)(K:PySem.W.Frag)(t:TE)(m:ME):Prop:= ∀ ρ h H e σ Q v h',b6 K ρ h H->cJ K ρ H e σ ->m c e h= .ok v h'->cK K ρ H v h' Q->t σ H Q
noncomputable def ST(c:CF)(K:PySem.W.Frag)(t:TT)(m:MT):Prop:= ∀ ρ h H e σ Q b h',b6 K ρ h H->cJ K ρ H e σ ->m c e h= .ok b h'->jA K ρ H h' (Q b)->t σ H Q
noncomputable def SA(c:CF)(K:PySem.W.Frag)(t:TA)(m:MA):Prop:= ∀ ρ h H e σ Q vs h',b6 K ρ h H->cJ K ρ H e σ ->m c e h= .ok vs h'->qA K ρ H vs h' Q->t σ H Q
noncomputable def SS(c:CF)(K:PySem.W.Frag)(t:TS)(m:MS):Prop:= ∀ ρ h H e σ D f h',b6 K ρ h H->cJ K ρ H e σ ->m c e h= .ok f h'->qJ K ρ H D h' f->t D σ H
noncomputable def SG(K:PySem.W.Frag)(t:TG)(m:MG):Prop:= ∀ ρ h H e σ Q v v' e' h',b6 K ρ h H->cJ K ρ H e σ ->rel K ρ H v v'->m v e h= .ok e' h'->dX K ρ H e' h' Q->t v' σ H Q
noncomputable def js.gF(it:js)(h:PH):Bool:=match it.gd with
 | none=>true
 | some n=>decide (h[n]?=some (.lst it.items)\/h[n]?=some (.iu it.items))
noncomputable def IA(K:PySem.W.Frag)(ρ0:List Addr)(H0:Hp)(J:It)(it:js):Prop:= ∀ i ρ h H,Gr ρ0 H0 ρ H->b6 K ρ h H->it.gF h=true ->
 (∀ x,it.items[i]?=some x->J.go i H∧ ∀ v H',J.AO i H v H'-> ∃ ρ',Gr ρ H ρ' H'∧b6 K ρ' h H'∧rel K ρ' H' x v)∧(i=it.items.length->J.stop i H)
noncomputable def SI (c:CF) (K:PySem.W.Frag) (t:TI) (m:MI):Prop:= ∀ ρ h H e σ R it h',b6 K ρ h H->cJ K ρ H e σ ->m c e h= .ok it h'->(∀ ρ' H' J,Gr ρ H ρ' H'->b6 K ρ' h' H'->IA K ρ' H' J it->R J H')->t σ H R
noncomputable def qw (K:PySem.W.Frag) (pg:Tb) (k:Nat) (f:String):Sp:=λvs H Q _=> ∃ ρ h args v h',b6 K ρ h H∧aj K ρ H args vs∧run pg k f args h= .ok v h'∧cK K ρ H v h' Q
noncomputable def fA:List Str:=["len", "range", "isinstance", "int", "bool", "tuple", "dict", "sorted", "min", "max", "abs", "all", "any", "sum", "str", "list", "zip", "set", "repr", "enumerate"]
structure cH (X:Cx) (pg:Tb) (k:Nat):Prop where
 room:cz k X.A
 calm:X.calm=true
 ll: ∀ v s,¬ X.xe v s
 defs: ∀ f d,pg.fns f=some d->fH X.prog X.w X.K X.mg X.base (Str.ofString f) k d.ps (qw X.K pg k f)
 blt: ∀ x∈fA,X.mg x=none
 con: ∀ x v,pg.con x=some v-> ∃ u v',X.mg x=some u/\RelV v' u/\ ∀ ρ H,rel X.K ρ H v v'
 zg: ∀ x kvs,pg.zg x=some kvs-> ∃ a kws,X.mg x=some (.ref a)/\KD X.prog X.w X.K a kws/\ ∀ ρ H,Paired (λ(p:Key × PV) (q:Key × V)=>p.1=q.1/\rel X.K ρ H p.2 q.2) kvs kws
theorem cH.dS{X:Cx}{pg:Tb}{k:Nat}(a:cH X pg k)(vars:List Str)(scope:Scope)(cl:List (Str × Addr))(C:Addr)(s₀ :Shared)(H₀ :Hp)(ex:List Addr)(pn:List (Addr × Obj)):cH (dS X vars scope cl C s₀ H₀ ex pn) pg k :=
 ⟨a.room,a.calm,a.ll,a.defs,a.blt,a.con,a.zg⟩
structure JE(X:Cx)(pg:Tb)(k:Nat)(e:Expr)(m:ME):Prop where h:cH X pg k-> ∃ t,QE X e t/\SE (run pg k) X.K t m
structure JT(X:Cx)(pg:Tb)(k:Nat)(e:Expr)(m:MT):Prop where h:cH X pg k-> ∃ t,QT X e t/\ST (run pg k) X.K t m
structure JW(X:Cx)(pg:Tb)(k:Nat)(e:Expr)(m:MT):Prop where h:cH X pg k-> ∃ t,QW X e t/\ST (run pg k) X.K t m
structure JA(X:Cx)(pg:Tb)(k:Nat)(e:List Expr)(m:MA):Prop where h:cH X pg k-> ∃ t,QA X e t/\SA (run pg k) X.K t m
structure JS(X:Cx)(pg:Tb)(k:Nat)(s:Stmt)(m:MS):Prop where h:cH X pg k-> ∃ t,QS X s t/\SS (run pg k) X.K t m
structure tJ(X:Cx)(pg:Tb)(k:Nat)(s:List Stmt)(m:MS):Prop where h:cH X pg k-> ∃ t,ux X s t/\SS (run pg k) X.K t m
structure JG(X:Cx)(pg:Tb)(k:Nat)(e:Expr)(m:MG):Prop where h:cH X pg k-> ∃ t,QG X e t/\SG X.K t m
structure JI(X:Cx)(pg:Tb)(k:Nat)(tg e:Expr)(m:MI):Prop where h:cH X pg k-> ∃ t,QI X tg e t/\SI (run pg k) X.K t m
structure JF(X:Cx)(pg:Tb)(k:Nat)(es:List Expr)(m:MT):Prop where h:cH X pg k-> ∃ t,QF X es t/\ST (run pg k) X.K t m
noncomputable def lg(K:PySem.W.Frag)(r:R2)(f:PV->PV->PH->RV PV):Prop:= ∀ ρ h H x y x' y' Q v h',b6 K ρ h H->rel K ρ H x x'->rel K ρ H y y'->f x y h= .ok v h'->cK K ρ H v h' Q->r x' y' H Q
noncomputable def vH(K:PySem.W.Frag)(r:List V->Hp->VK->Prop)(f:List PV->PH->RV PV):Prop:= ∀ ρ h H xs us Q v h',b6 K ρ h H->aj K ρ H xs us->f xs h= .ok v h'->cK K ρ H v h' Q->r us H Q
noncomputable def IP(K:PySem.W.Frag)(T:String)(r:V->List V->Hp->VK->Prop)(f:PV->List PV->PH->RV PV)(ty:PV->PH->Bool):Prop :=
 (∀ ρ h H x x',b6 K ρ h H->rel K ρ H x x'->ty x h=true->Hc K T x' H) /\
 ∀ ρ h H x x' xs us Q v h',b6 K ρ h H->rel K ρ H x x'->aj K ρ H xs us->f x xs h= .ok v h'->cK K ρ H v h' Q->r x' us H Q
noncomputable def ab(i:Nat):ME:=λ_ e h=>match e[i]? with
 | some (some v)=> .ok v h
 | _=> .no
noncomputable def eC(v:PV):ME:=λ_ _ h=> .ok v h
noncomputable def ag(f:PV->PV->PH->RV PV)(a b:ME):ME:=λc e h=>(a c e h).bind λx h1=>(b c e h1).bind λy h2=>f x y h2
noncomputable def yT(v:PV)(h:PH):RV Bool:=match v with
 | .bl b=> .ok b h
 | _=> .no
noncomputable def G7(a b:ME):ME:=λc e h=>((a c e h).bind yT).bind λx h1=>if x=true then .ok (.bl true) h1 else b c e h1
noncomputable def CS(a:ME):ME:=λc e h=>((a c e h).bind yT).bind λx h1=> .ok (.bl (!x)) h1
noncomputable def uc(t:MT)(a b:ME):ME:=λc e h=>(t c e h).bind λx h1=>if x=true then a c e h1 else b c e h1
noncomputable def aF(a:ME):MT:=λc e h=>(a c e h).bind yT
noncomputable def qz(a b:MT):MT:=λc e h=>(a c e h).bind λx h1=>if x=true then b c e h1 else .ok false h1
noncomputable def xv(a b:MT):MT:=λc e h=>(a c e h).bind λx h1=>if x=true then .ok true h1 else b c e h1
noncomputable def yn(a:MT):MT:=λc e h=>(a c e h).bind λx h1=> .ok (!x) h1
noncomputable def aV:MT:=λ_ _ h=> .ok true h
noncomputable def ae:MA:=λ_ _ h=> .ok [] h
noncomputable def aa(a:ME)(r:MA):MA:=λc e h=>(a c e h).bind λx h1=>(r c e h1).bind λxs h2=> .ok (x::xs) h2
noncomputable def iw(n:Nat)(r:RV α):RV α :=if n<=sizeLine then r else .no
noncomputable def av(r:MA):ME:=λc e h=>(r c e h).bind λxs h1=>iw xs.length (.ok (.tup xs) h1)
noncomputable def ba(r:MA):ME:=λc e h=>(r c e h).bind λxs h1=>iw xs.length (.ok (.ref h1.length) (h1++[.lst xs]))
noncomputable def ai(f:String)(r:MA):ME:=λc e h=>(r c e h).bind λxs h1=>c f xs h1
noncomputable def eB(f:List PV->PH->RV PV)(r:MA):ME:=λc e h=>(r c e h).bind f
noncomputable def eM(f:PV->List PV->PH->RV PV)(ty:PV->PH->Bool)(a:ME)(r:MA):ME:=λc e h=>(a c e h).bind λx h1=>if ty x h1=true then(r c e h1).bind λxs h2=>f x xs h2 else .no
theorem gK{n:Nat}{r:RV α}{a: α}{h:PH}:iw n r= .ok a h↔n<=sizeLine/\r= .ok a h:=by
 unfold iw;split
 . exact⟨λe=>⟨by assumption,e⟩,λe=>e.2⟩
 . exact⟨λe=>(nomatch e),λe=>absurd e.1 (by assumption)⟩
theorem p5{v:PV}{h h':PH}{b:Bool}:yT v h= .ok b h'↔v= .bl b/\h'=h:=by
 cases v<;>simp[yT,eq_comm]
section
variable{X:Cx}{pg:Tb}{k:Nat}{a b c d e:Expr}{es:List Expr}{ma mb mc md:ME}{mr:MA}{mt mt':MT}{pos p pos' apos cpos:Pos}{x:Str}
theorem DF(i:Nat){x:Str}{pos:Pos}(hN:X.N[i]?=some x:=by rfl)(hv:Ey X.env.scope x:=by first | exact Or.inl rfl | exact Or.inr (Or.inl rfl) | exact Or.inr (Or.inr rfl))(hd:(x == ("__debug__" :Str))=false:=by decide)
  (hcd:(x == ("__classdict__" :Str))=false:=by decide):JE X pg k (.Name x pos) (ab i):=⟨λA=>⟨_,qv i hN hv hd hcd,fun ρ h H e σ Q v h' s r q P=>by
 unfold ab at q;split at q
 . cases q;obtain⟨v',e1,e2⟩:=r.get i v (by assumption);exact⟨v',e1,P v' ρ H (.refl _ _) s e2⟩
 . exact nomatch q⟩⟩
theorem ua{cf:CF}{K:PySem.W.Frag}{v:PV}{v':V}(hr: ∀ ρ H,rel K ρ H v v'):SE cf K (tC v') (eC v):=fun ρ h H e σ Q w h' s r q P=>by cases q;exact P v' ρ H (.refl _ _) s (hr ρ H)
theorem BP{n:Int}{j:Nat}:JE X pg k (.Constant (.int n) j pos) (eC (.int n)):=⟨λA=>⟨_,Dh,ua fun ρ H=>by rw[rel]⟩⟩
theorem F6{n:Bool}{j:Nat}:JE X pg k (.Constant (.bool n) j pos) (eC (.bl n)):=⟨λA=>⟨_,EW,ua fun ρ H=>by rw[rel]⟩⟩
theorem DJ{j:Nat}:JE X pg k (.Constant .none j pos) (eC .non):=⟨λA=>⟨_,BM,ua fun ρ H=>by rw[rel]⟩⟩
theorem DP{n:Str}{j:Nat}:JE X pg k (.Constant (.str n) j pos) (eC (.str n)):=⟨λA=>⟨_,Co,ua fun ρ H=>by rw[rel]⟩⟩
theorem Cv{v:PV}(hc:pg.con x=some v)(hg:Gl X x)(hd:(x == ("__debug__" :Str))=false:=by decide):JE X pg k (.Name x pos) (eC v):=⟨λA=>let ⟨u,v',e1,e2,e3⟩:=A.con x v hc;⟨_,yj hg e1 e2 hd,ua e3⟩⟩
theorem wb{T:String}(hg:Gl X x)(hb:x∈fA)(hv:bootBuiltins x=some (.type T))(hn:x≠ "__name__" :=by decide)(hd:(x == ("__debug__" :Str))=false:=by decide):JE X pg k (.Name x pos) (eC (.ty T)) :=
 ⟨λA=>⟨_,yI (v:= .ty T) hg (A.blt x hb) hv rfl hn hd,ua fun ρ H=>by rw[rel]⟩⟩
theorem rQ{cf:CF}{K:PySem.W.Frag}{r:R2}{f:PV->PV->PH->RV PV}{ta tb:TE}(ho:lg K r f)(ha:SE cf K ta ma)(hb:SE cf K tb mb):SE cf K (yQ r ta tb) (ag f ma mb):=fun ρ h H e σ Q v h' s r q P=>by
 obtain⟨x,h1,e1,q⟩:=bind_eq.mp q;obtain⟨y,h2,e2,q⟩:=bind_eq.mp q;refine ha ρ h H e σ _ x h1 s r e1 λx' ρ1 H1 g1 s1 r1=>?_;refine hb ρ1 h1 H1 e σ _ y h2 s1 (r.gr g1) e2 λy' ρ2 H2 g2 s2 r2=>?_;exact ho ρ2 h2 H2 x y x' y' Q v h' s2 (rel.gr g2 _ _ r1) r2 q (P.gr (g1.trans g2))
theorem FG{op:Operator}{f:PV->PV->PH->RV PV}(ho:cH X pg k-> ∃ r,cI X (binaryOp op) r/\lg X.K r f)(ha:JE X pg k a ma)(hb:JE X pg k b mb):JE X pg k (.BinOp a op b pos) (ag f ma mb):=⟨λA =>
 let ⟨_,q1,s1⟩:=ha.h A;let ⟨_,q2,s2⟩:=hb.h A;let ⟨_,q,s⟩:=ho A;⟨_,Gu q q1 q2,rQ s s1 s2⟩⟩
theorem uJ{op:CmpOp}{f:PV->PV->PH->RV PV}(ho:cH X pg k-> ∃ r,cI X (compareOp op) r/\lg X.K r f)(ha:JE X pg k a ma)(hb:JE X pg k b mb)(hm:behindInMarks op b=false):JE X pg k (.Compare a [op] [b] pos) (ag f ma mb):=⟨λA =>
 let ⟨_,q1,s1⟩:=ha.h A;let ⟨_,q2,s2⟩:=hb.h A;let ⟨_,q,s⟩:=ho A;⟨_,yO q q1 q2 hm,rQ s s1 s2⟩⟩
theorem wR{cf:CF}{K:PySem.W.Frag}{ta:TE}(ha:SE cf K ta ma):ST cf K (vy ta) (aF ma):=fun ρ h H e σ Q v h' s r q P=>by
 obtain⟨x,h1,e1,q⟩:=bind_eq.mp q;obtain⟨rfl,rfl⟩:=p5.mp q;refine ha ρ h H e σ _ _ _ s r e1 λx' ρ1 H1 g1 s1 r1=>?_;rw[rel] at r1;exact⟨v,r1,P ρ1 H1 g1 s1⟩
theorem wy{op:CmpOp}{f:PV->PV->PH->RV PV}(ho:cH X pg k-> ∃ r,cI X (compareOp op) r/\lg X.K r f)(ha:JE X pg k a ma)(hb:JE X pg k b mb)(hm:behindInMarks op b=false):JT X pg k (.Compare a [op] [b] pos) (aF (ag f ma mb)):=⟨λA =>
 let ⟨_,q1,s1⟩:=ha.h A;let ⟨_,q2,s2⟩:=hb.h A;let ⟨_,q,s⟩:=ho A;⟨_,y7 q q1 q2 hm,wR (rQ s s1 s2)⟩⟩
theorem Cg(ha:JE X pg k e ma)(he: ∀ whole,isTrue e X.env whole=(do let v <- whole;standAt e.pos;holding [v] (truthy v)):=by intro _;rfl):JT X pg k e (aF ma):=⟨λA =>
 let ⟨_,q1,s1⟩:=ha.h A;⟨_,CZ q1 he,wR s1⟩⟩
theorem Cq(ha:JE X pg k a ma):JE X pg k (.UnaryOp .Not a pos) (CS ma):=⟨λA =>
 let ⟨_,q1,s1⟩:=ha.h A;⟨_,B3 q1,fun ρ h H e σ Q v h' s r q P=>by
  obtain⟨x,h2,q2,q⟩:=bind_eq.mp q;obtain⟨y,h1,e1,q2⟩:=bind_eq.mp q2;obtain⟨rfl,rfl⟩:=p5.mp q2;cases q;refine s1 ρ h H e σ _ _ _ s r e1 λx' ρ1 H1 g1 z1 r1=>?_;rw[rel] at r1;exact⟨x,r1,P _ ρ1 H1 g1 z1 (by rw[rel])⟩⟩⟩
theorem DX{op:BoolOp}(h:JE X pg k a ma):JE X pg k (.BoolOp op [a] pos) ma:=⟨λA=>let ⟨_,q1,s1⟩:=h.h A;⟨_,Ct q1,s1⟩⟩
theorem FA{rest:List Expr}(ha:JE X pg k a ma)(hb:JE X pg k (.BoolOp .Or (b::rest) pos) mb):JE X pg k (.BoolOp .Or (a::b::rest) pos) (G7 ma mb):=⟨λA =>
 let ⟨_,q1,s1⟩:=ha.h A;let ⟨_,q2,s2⟩:=hb.h A;⟨_,EH q1 q2,fun ρ h H e σ Q v h' s r q P=>by
  obtain⟨x,h2,q2,q⟩:=bind_eq.mp q;obtain⟨y,h1,e1,q2⟩:=bind_eq.mp q2;obtain⟨rfl,rfl⟩:=p5.mp q2;refine s1 ρ h H e σ _ _ _ s r e1 λx' ρ1 H1 g1 z1 r1=>?_;rw[rel] at r1;refine⟨x,r1,?_⟩;cases x with
  | false=>exact s2 ρ1 _ H1 e σ _ _ _ z1 (r.gr g1) q (P.gr g1)
  | true=>cases q;exact P _ ρ1 H1 g1 z1 (by rw[rel])⟩⟩
theorem uR(hc:JT X pg k c mt)(ha:JE X pg k a ma)(hb:JE X pg k b mb):JE X pg k (.IfExp c a b pos) (uc mt ma mb):=⟨λA =>
 let ⟨_,q0,s0⟩:=hc.h A;let ⟨_,q1,s1⟩:=ha.h A;let ⟨_,q2,s2⟩:=hb.h A;⟨_,xf q0 q1 q2,fun ρ h H e σ Q v h' s r q P=>by
  obtain⟨x,h1,e1,q⟩:=bind_eq.mp q;refine s0 ρ h H e σ _ _ _ s r e1 fun ρ1 H1 g1 z1=>?_;cases x with
  | true=>exact s1 ρ1 _ H1 e σ _ _ _ z1 (r.gr g1) q (P.gr g1)
  | false=>exact s2 ρ1 _ H1 e σ _ _ _ z1 (r.gr g1) q (P.gr g1)⟩⟩
theorem zc(ha:JT X pg k a mt):JW X pg k (.BoolOp .And [a] pos) mt:=⟨λA=>let ⟨_,q1,s1⟩:=ha.h A;⟨_,Ar q1,s1⟩⟩
theorem Ce(ha:JT X pg k a mt):JW X pg k (.BoolOp .Or [a] pos) mt:=⟨λA=>let ⟨_,q1,s1⟩:=ha.h A;⟨_,Di q1,s1⟩⟩
theorem wa{rest:List Expr}(ha:JT X pg k a mt)(hb:JW X pg k (.BoolOp .And (b::rest) pos) mt'):JW X pg k (.BoolOp .And (a::b::rest) pos) (qz mt mt'):=⟨λA =>
 let ⟨_,q1,s1⟩:=ha.h A;let ⟨_,q2,s2⟩:=hb.h A;⟨_,DR q1 q2,fun ρ h H e σ Q v h' s r q P=>by
  obtain⟨x,h1,e1,q⟩:=bind_eq.mp q;refine s1 ρ h H e σ _ _ _ s r e1 fun ρ1 H1 g1 z1=>?_;cases x with
  | true=>exact s2 ρ1 _ H1 e σ _ _ _ z1 (r.gr g1) q (P.gr g1)
  | false=>cases q;exact P ρ1 H1 g1 z1⟩⟩
theorem AH{rest:List Expr}(ha:JT X pg k a mt)(hb:JW X pg k (.BoolOp .Or (b::rest) pos) mt'):JW X pg k (.BoolOp .Or (a::b::rest) pos) (xv mt mt'):=⟨λA =>
 let ⟨_,q1,s1⟩:=ha.h A;let ⟨_,q2,s2⟩:=hb.h A;⟨_,EZ q1 q2,fun ρ h H e σ Q v h' s r q P=>by
  obtain⟨x,h1,e1,q⟩:=bind_eq.mp q;refine s1 ρ h H e σ _ _ _ s r e1 fun ρ1 H1 g1 z1=>?_;cases x with
  | false=>exact s2 ρ1 _ H1 e σ _ _ _ z1 (r.gr g1) q (P.gr g1)
  | true=>cases q;exact P ρ1 H1 g1 z1⟩⟩
theorem JW.pt(h:JW X pg k e mt):JT X pg k e mt:=⟨λA=>let ⟨_,q1,s1⟩:=h.h A;⟨_,q1.pt,s1⟩⟩
theorem CN(ha:JT X pg k a mt):JT X pg k (.UnaryOp .Not a pos) (yn mt):=⟨λA=>let ⟨_,q1,s1⟩:=ha.h A;⟨_,BF q1,fun ρ h H e σ Q v h' s r q P=>by
  obtain⟨x,h1,e1,q⟩:=bind_eq.mp q;cases q;exact s1 ρ h H e σ _ _ _ s r e1 fun ρ1 H1 g1 z1=>P ρ1 H1 g1 z1⟩⟩
theorem BX:JF X pg k [] aV:=⟨λA=>⟨_,CA,fun ρ h H e σ Q v h' s r q P=>by cases q;exact P ρ H (.refl _ _) s⟩⟩
theorem BN(h:JT X pg k c mt):JF X pg k [c] mt:=⟨λA=>let ⟨_,q1,s1⟩:=h.h A;⟨_,Ep q1,s1⟩⟩
theorem De:JA X pg k [] ae:=⟨λA=>⟨_,DO,fun ρ h H e σ Q v h' s r q P=>by cases q;exact P [] ρ H (.refl _ _) s (aD.mpr rfl)⟩⟩
theorem xu(ha:JE X pg k e ma)(hr:JA X pg k es mr)(hs:noStar e=true:=by rfl):JA X pg k (e::es) (aa ma mr):=⟨λA =>
 let ⟨_,q1,s1⟩:=ha.h A;let ⟨_,q2,s2⟩:=hr.h A;⟨_,qk q1 q2 hs,fun ρ h H e σ Q v h' s r q P=>by
  obtain⟨x,h1,e1,q⟩:=bind_eq.mp q;obtain⟨xs,h2,e2,q⟩:=bind_eq.mp q;cases q;refine s1 ρ h H e σ _ _ _ s r e1 λx' ρ1 H1 g1 z1 r1=>?_;refine s2 ρ1 h1 H1 e σ _ _ _ z1 (r.gr g1) e2 λus ρ2 H2 g2 z2 r2=>?_;exact P _ ρ2 H2 (g1.trans g2) z2 (au.mpr ⟨x',us,rfl,rel.gr g2 _ _ r1,r2⟩)⟩⟩
theorem BO{x1}(h:JA X pg k es mr):JE X pg k (.Tuple es x1 pos) (av mr):=⟨λA =>
 let ⟨_,q1,s1⟩:=h.h A;⟨_,Em q1,fun ρ h H e σ Q v h' s r q P=>by
  obtain⟨xs,h1,e1,q⟩:=bind_eq.mp q;obtain⟨hl,q⟩:=gK.mp q;cases q;refine s1 ρ h H e σ _ _ _ s r e1 λus ρ1 H1 g1 z1 r1=>⟨by rw[<- r1.len];exact hl,λp hp=>?_⟩
  refine P _ ρ1 _ (g1.trans (Gr.wB hp)) (z1.tup hp) ?_;rw[rel];exact⟨p,us,rfl,bh,aj.gr (Gr.wB hp) _ _ r1⟩⟩⟩
theorem cX{K:PySem.W.Frag}{ρ :List Addr}{h:PH}{H:Hp}{xs:List PV}{us:List V}{Q:VK}(s:b6 K ρ h H)(r:aj K ρ H xs us)(P:cK K ρ H (.ref h.length) (h++[.lst xs]) Q)(p:Addr)(hp:H p=none):Q (.ref p) (upd H p (.lst us)):=by
 refine P _ (ρ ++[p]) _ (Gr.new hp [p]) (s.new hp ⟨us,bh,aj.gr (Gr.new hp [p]) _ _ r⟩) ?_;rw[rel];exact⟨p,by rw[<- s.len,List.getElem?_append_right (Nat.le_refl _)];simp,rfl⟩
theorem Eh(h:JA X pg k es mr):JE X pg k (.List es pos) (ba mr):=⟨λA =>
 let ⟨_,q1,s1⟩:=h.h A;⟨_,B9 q1,fun ρ h H e σ Q v h' s r q P=>by
  obtain⟨xs,h1,e1,q⟩:=bind_eq.mp q;obtain⟨hl,q⟩:=gK.mp q;cases q;exact s1 ρ h H e σ _ _ _ s r e1 λus ρ1 H1 g1 z1 r1=>⟨by rw[<- r1.len];exact hl,λp hp=>cX z1 r1 (P.gr g1) p hp⟩⟩⟩
theorem yi{f:String}{d:Df}(hf:pg.fns f=some d)(hg:Gl X (Str.ofString f))(ha:JA X pg k (e::es) mr)(hdb:(Str.ofString f == ("__debug__" :Str))=false:=by decide)(he:noStar e=true:=by rfl)(hpl:es.all noStar=true:=by rfl) :
  JE X pg k (.Call (.Name (Str.ofString f) p) (e::es) [] pos) (ai f mr):=⟨λA =>
 let ⟨_,q1,s1⟩:=ha.h A;⟨_,qd (A.defs f d hf) A.room hg (Nat.le_refl _) q1 hdb he hpl,fun ρ h H e σ Q v h' s r q P=>by
  obtain⟨xs,h1,e1,q⟩:=bind_eq.mp q;refine s1 ρ h H e σ _ _ _ s r e1 λus ρ1 H1 g1 z1 r1=>?_;rw[List.append_nil];exact⟨ρ1,h1,xs,v,h',z1,r1,q,P.gr g1⟩⟩⟩
theorem Fy{cf:CF}{K:PySem.W.Frag}{r:List V->Hp->VK->Prop}{f:List PV->PH->RV PV}{ta:TA}(ho:vH K r f)(ha:SA cf K ta mr):SE cf K (Dl r ta) (eB f mr):=fun ρ h H e σ Q v h' s r q P=>by
 obtain⟨xs,h1,e1,q⟩:=bind_eq.mp q;exact ha ρ h H e σ _ _ _ s r e1 λus ρ1 H1 g1 z1 r1=>ho ρ1 h1 H1 xs us Q v h' z1 r1 q (P.gr g1)
theorem Ah{id:String}{f:List PV->PH->RV PV}(hc:cH X pg k-> ∃ r,aM X (.builtin id) r/\vH X.K r f)(hg:Gl X x)(hb:x∈fA)(hv:bootBuiltins x=some (.builtin id))(ha:JA X pg k (e::es) mr)
  (hn:x≠ "__name__" :=by decide) (hdb:(x == ("__debug__" :Str))=false:=by decide) (he:noStar e=true:=by rfl) (hpl:es.all noStar=true:=by rfl):JE X pg k (.Call (.Name x p) (e::es) [] pos) (eB f mr):=⟨λA =>
 let ⟨_,q1,s1⟩:=ha.h A;let ⟨_,q,s⟩:=hc A;⟨_,qB q hg (A.blt x hb) hv q1 hn hdb he hpl,Fy s s1⟩⟩
theorem D5{T:String}{f:List PV->PH->RV PV}(hc:cH X pg k-> ∃ r,aM X (.type T) r/\vH X.K r f)(hg:Gl X x)(hb:x∈fA)(hv:bootBuiltins x=some (.type T))(ha:JA X pg k (e::es) mr)
  (hn:x≠ "__name__" :=by decide) (hdb:(x == ("__debug__" :Str))=false:=by decide) (he:noStar e=true:=by rfl) (hpl:es.all noStar=true:=by rfl):JE X pg k (.Call (.Name x p) (e::es) [] pos) (eB f mr):=⟨λA =>
 let ⟨_,q1,s1⟩:=ha.h A;let ⟨_,q,s⟩:=hc A;⟨_,qT q hg (A.blt x hb) hv q1 hn hdb he hpl,Fy s s1⟩⟩
theorem HN{name:Str}{id T:String}{f:PV->List PV->PH->RV PV}{ty:PV->PH->Bool}(pa:PlainAttrs T)(slot:Slot T name id)(hty:typeOf (.builtin id)=pure (.type "method_descriptor"))(hm:cH X pg k-> ∃ r,FH X id r/\IP X.K T r f ty)
  (ho:JE X pg k d md) (ha:JA X pg k [e] mr) (hbase:attributeBase d name X.env (eval d X.env)=eval d X.env:=by rfl) (hline:(apos.endLine == cpos.line)=true:=by rfl) (hs:noStar e=true:=by rfl) :
  JE X pg k (.Call (.Attribute d name apos) [e] [] cpos) (eM f ty md mr):=⟨λA =>
 let ⟨_,q0,s0⟩:=ho.h A;let ⟨_,q1,s1⟩:=ha.h A;let ⟨_,q,s⟩:=hm A;⟨_,Gn pa slot hty q q0 q1 hbase hline hs,fun ρ h H e σ Q v h' z r q P=>by
  obtain⟨x,h1,e1,q⟩:=bind_eq.mp q;refine s0 ρ h H e σ _ _ _ z r e1 λx' ρ1 H1 g1 z1 r1=>?_;split at q
  . rename_i ht;obtain⟨xs,h2,e2,q⟩:=bind_eq.mp q;refine⟨s.1 ρ1 h1 H1 x x' z1 r1 ht,?_⟩;exact s1 ρ1 h1 H1 e σ _ _ _ z1 (r.gr g1) e2 λus ρ2 H2 g2 z2 r2=>s.2 ρ2 h2 H2 x x' xs us Q v h' z2 (rel.gr g2 _ _ r1) r2 q (P.gr (g1.trans g2))
  . exact nomatch q⟩⟩
end
noncomputable def eA:MS:=λ_ e h=> .ok (.nx e) h
noncomputable def ah(a b:MS):MS:=λc e h=>(a c e h).bind λf h1=>match f with
 | .nx e1=>b c e1 h1
 | f=> .ok f h1
noncomputable def cj(a:ME):MS:=λc e h=>(a c e h).bind λ_ h1=> .ok (.nx e) h1
noncomputable def aN(a:ME):MS:=λc e h=>(a c e h).bind λv h1=> .ok (.rt v) h1
noncomputable def dU(t:MT)(a b:MS):MS:=λc e h=>(t c e h).bind λx h1=>if x=true then a c e h1 else b c e h1
noncomputable def aA(a:ME)(g:MG):MS:=λc e h=>(a c e h).bind λv h1=>(g v e h1).bind λe1 h2=> .ok (.nx e1) h2
noncomputable def gN(i:Nat):MG:=λv e h=> .ok (e.set i (some v)) h
noncomputable def gT(n:Nat)(g:List PV->aq->PH->RV aq):MG:=λv e h=>match v.seq? with
 | some xs=>if xs.length=n then g xs e h else .no
 | none=> .no
noncomputable def eL:List PV->aq->PH->RV aq:=λvs e h=>match vs with
 | []=> .ok e h
 | _=> .no
noncomputable def aZ(g:MG)(r:List PV->aq->PH->RV aq):List PV->aq->PH->RV aq:=λvs e h=>match vs with
 | []=> .no
 | v::t=>(g v e h).bind λe1 h1=>r t e1 h1
noncomputable def l8(f:PV->PV->PV->PH->RV Unit)(o i a:ME):MS:=λc e h=>(a c e h).bind λv h1=>(o c e h1).bind λx h2=>(i c e h2).bind λy h3=>(f x y v h3).bind λ_ h4=> .ok (.nx e) h4
noncomputable def bE(it:js)(step:PV->aq->PH->RV Fl):List PV->aq->PH->RV Fl
 | [],e,h=>if it.gF h=true then .ok (.nx e) h else .no
 | x::xs,e,h=>if it.gF h=true then(step x e h).bind (λf h1=>match f with
   | .nx e1=>bE it step xs e1 h1
   | .ct e1=>bE it step xs e1 h1
   | .bk e1=> .ok (.nx e1) h1
   | .rt v=> .ok (.rt v) h1) else .no
noncomputable def iG(i:MI)(g:MG)(b:MS):MS:=λc e h=>(i c e h).bind λit h1=>bE it (λx e h=>(g x e h).bind λe1 h1=>b c e1 h1) it.items e h1
noncomputable def cn(t:aq->PH->RV Bool)(b:aq->PH->RV Fl):Nat->aq->PH->RV Fl
 | 0,_,_=> .no
 | n+1,e,h=>(t e h).bind λx h1=>if x=true then(b e h1).bind (λf h2=>match f with
   | .nx e1=>cn t b n e1 h2
   | .ct e1=>cn t b n e1 h2
   | .bk e1=> .ok (.nx e1) h2
   | .rt v=> .ok (.rt v) h2) else .ok (.nx e) h1
noncomputable def pW(t:MT)(b:MS):MS:=λc e h=>cn (t c) (b c) 100000 e h
noncomputable def eZ(it:js)(step:PV->PH->RV (Option PV)):List PV->List PV->PH->RV (List PV)
 | [],ys,h=>if it.gF h=true then .ok ys h else .no
 | x::xs,ys,h=>if it.gF h=true/\ys.length < sizeLine then(step x h).bind (λo h1=>match o with
   | some y=>eZ it step xs (ys++[y]) h1
   | none=>eZ it step xs ys h1) else .no
noncomputable def aY(k:Nat)(g:MG)(t:MT)(a:ME)(c:CF)(e:aq)(x:PV)(h:PH):RV (Option PV):=(g x (e++List.replicate k none) h).bind λe2 h2=>(t c e2 h2).bind λb h3=>if b=true then(a c e2 h3).bind (λy h4=> .ok (some y) h4) else .ok none h3
noncomputable def jf(k:Nat)(i:MI)(g:MG)(t:MT)(a:ME):ME:=λc e h=>(i c e h).bind λit h1=>(eZ it (aY k g t a c e) it.items [] h1).bind λys h2=> .ok (.ref h2.length) (h2++[.lst ys])
section
variable{X:Cx}{pg:Tb}{k:Nat}{a b c d e o i:Expr}{es:List Expr}{ma mb mc md mo mi:ME}{mr:MA}{mt mt':MT}{ms ms' mu:MS}{pos p pos' apos cpos spos:Pos}{x y:Str}{st:Stmt}{body rest:List Stmt}{g:MG}{mI:MI}{tg iter:Expr}{gs:List PV->aq->PH->RV aq}
theorem Fs{c:CF}{K:PySem.W.Frag}:SS c K vi eA:=fun ρ h H e σ D f h' s r q P=>by cases q;exact P σ ρ H (.refl _ _) s r
theorem By{c:CF}{K:PySem.W.Frag}{t u:TS}(h1:SS c K t ms)(h2:SS c K u mu):SS c K (B0 t u) (ah ms mu):=fun ρ h H e σ D f h' s r q P=>by
 obtain⟨f1,h1',e1,q⟩:=bind_eq.mp q;refine h1 ρ h H e σ _ f1 h1' s r e1 ?_;cases f1 with
 | nx e'=>exact fun σ1 ρ1 H1 g1 s1 r1=>h2 ρ1 h1' H1 e' σ1 D f h' s1 r1 q (P.gr g1)
 | rt v=>cases q;exact P
 | bk e'=>cases q;exact P
 | ct e'=>cases q;exact P
theorem yU:tJ X pg k [] eA:=⟨λA=>⟨_,xO,Fs⟩⟩
theorem xV(h:JS X pg k st ms):tJ X pg k [st] ms:=⟨λA=>let ⟨_,q,s⟩:=h.h A;⟨_,xn q,s⟩⟩
theorem vo(h1:JS X pg k st ms)(h2:tJ X pg k rest mu):tJ X pg k (st::rest) (ah ms mu):=⟨λA=>let ⟨_,q1,s1⟩:=h1.h A;let ⟨_,q2,s2⟩:=h2.h A;⟨_,vJ q1 q2,By s1 s2⟩⟩
theorem yo(ha:JE X pg k e ma)(hs:swapsWith e none pos.line X.env=pure false:=by rfl):JS X pg k (.Expr e pos) (cj ma):=⟨λA=>let ⟨_,q1,s1⟩:=ha.h A;⟨_,xF q1 hs,fun ρ h H e σ D f h' s r q P=>by
 obtain⟨x,h1,e1,q⟩:=bind_eq.mp q;cases q;exact s1 ρ h H e σ _ x _ s r e1 λx' ρ1 H1 g1 z1 r1=>P σ ρ1 H1 g1 z1 (r.gr g1)⟩⟩
theorem Cn(ha:JE X pg k e ma):JS X pg k (.Return (some e) pos) (aN ma):=⟨λA=>let ⟨_,q1,s1⟩:=ha.h A;⟨_,C3 q1,fun ρ h H e σ D f h' s r q P=>by
 obtain⟨x,h1,e1,q⟩:=bind_eq.mp q;cases q;exact s1 ρ h H e σ _ x _ s r e1 P⟩⟩
theorem GQ{A B:List Stmt}(hc:JT X pg k c mt)(ha:tJ X pg k A ms)(hb:tJ X pg k B mu):JS X pg k (.If c A B pos) (dU mt ms mu):=⟨λZ =>
 let ⟨_,q0,s0⟩:=hc.h Z;let ⟨_,q1,s1⟩:=ha.h Z;let ⟨_,q2,s2⟩:=hb.h Z;⟨_,EE q0 q1 q2,fun ρ h H e σ D f h' s r q P=>by
  obtain⟨x,h1,e1,q⟩:=bind_eq.mp q;refine s0 ρ h H e σ _ _ _ s r e1 fun ρ1 H1 g1 z1=>?_;cases x with
  | true=>exact s1 ρ1 _ H1 e σ _ _ _ z1 (r.gr g1) q (P.gr g1)
  | false=>exact s2 ρ1 _ H1 e σ _ _ _ z1 (r.gr g1) q (P.gr g1)⟩⟩
theorem rG{K:PySem.W.Frag}{i:Nat}:SG K (dH i) (gN i):=fun ρ h H e σ Q v v' e' h' s r rv q P=>by cases q;exact P _ ρ H (.refl _ _) s (r.set i rv)
theorem zZ{i:Nat}(hN:X.N.Nodup)(hi:X.N[i]?=some x)(hx:Loc X.env.scope x)(hf:X.fn x=true\/X.env.scope.names.lookup x=some .local:=by first | exact .inl rfl | exact .inr rfl | assumption):JG X pg k (.Name x pos) (gN i):=⟨λA=>⟨_,qF hN hi hx hf,rG⟩⟩
structure EX(X:Cx)(pg:Tb)(k:Nat)(e:List Expr)(m:List PV->aq->PH->RV aq):Prop where
 h:cH X pg k-> ∃ t,EA X e t/\ ∀ ρ h H e σ Q vs us e' h',b6 X.K ρ h H->cJ X.K ρ H e σ ->aj X.K ρ H vs us->m vs e h= .ok e' h'->dX X.K ρ H e' h' Q->t us σ H Q
theorem yz:EX X pg k [] eL:=⟨λA=>⟨_,zS,fun ρ h H e σ Q vs us e' h' s r rv q P=>by
 cases vs with
 | nil=>cases q;rw[aD] at rv;exact⟨rv,P σ ρ H (.refl _ _) s r⟩
 | cons=>exact nomatch q⟩⟩
theorem wJ(h1:JG X pg k e g)(h2:EX X pg k es gs)(hs:(assignEach (e::es) X.env).map (·.2)=assign e X.env::(assignEach es X.env).map (·.2):=by rfl):EX X pg k (e::es) (aZ g gs):=⟨λA =>
 let ⟨_,q1,s1⟩:=h1.h A;let ⟨_,q2,s2⟩:=h2.h A;⟨_,uP q1 q2 hs,fun ρ h H e σ Q vs us e' h' s r rv q P=>by
 cases vs with
 | nil=>exact nomatch q
 | cons v t =>
  obtain⟨w,u,rfl,r1,r2⟩:=au.mp rv
  obtain⟨e1,h1,e2,q⟩:=bind_eq.mp q
  refine⟨w,u,rfl,?_⟩
  exact s1 ρ h H e σ _ v w e1 h1 s r r1 e2 fun σ1 ρ1 H1 g1 z1 y1=>s2 ρ1 h1 H1 e1 σ1 Q t u e' h' z1 y1 (aj.gr g1 _ _ r2) q (P.gr g1)⟩⟩
theorem DQ{j:Nat}{n:Nat}(h:EX X pg k es gs)(hn:(assignEach es X.env).length=n:=by rfl)(hst:(assignEach es X.env).findIdx? (·.1)=none:=by rfl):JG X pg k (.Tuple es j pos) (gT n gs):=⟨λA =>
 let ⟨_,q1,s1⟩:=h.h A;⟨_,Dr A.calm q1 hn hst,fun ρ h H e σ Q v v' e' h' s r rv q P=>by
 unfold gT at q
 split at q
 . rename_i xs ex;obtain⟨a,vs,rfl,z,rr⟩:=rel.seq ex rv;split at q
   . rename_i hl;exact⟨a,vs,rfl,z,by rw[<- rr.len];exact hl,s1 ρ h H e σ Q xs vs e' h' s r rr q P⟩
   . exact nomatch q
 . exact nomatch q⟩⟩
theorem Bh{j:Nat}(hN:X.N.Nodup)(hi:X.N[j]?=some x)(hx:Loc X.env.scope x)(he:JE X pg k e ma)(hs:swapsWith e (some (.Name x pos')) pos.line X.env=pure false:=by rfl)(hf:X.fn x=true\/X.env.scope.names.lookup x=some .local:=by first | exact .inl rfl | exact .inr rfl | assumption) :
  JS X pg k (.Assign [.Name x pos'] e pos) (aA ma (gN j)):=⟨λA=>let ⟨_,q1,s1⟩:=he.h A;⟨_,Du hN hi hx q1 hs hf,fun ρ h H e σ D f h' s r q P=>by
 obtain⟨v,h1,e1,q⟩:=bind_eq.mp q;obtain⟨e2,h2,e3,q⟩:=bind_eq.mp q;cases q;cases e3;exact s1 ρ h H e σ _ v _ s r e1 λv' ρ1 H1 g1 z1 r1=>P _ ρ1 H1 g1 z1 ((r.gr g1).set j r1)⟩⟩
theorem DK{f:PV->PV->PV->PH->RV Unit}(hp:cH X pg k-> ∃ t,lB X t/\ ∀ ρ h H x y v x' y' v' u h' Q,b6 X.K ρ h H->rel X.K ρ H x x'->rel X.K ρ H y y'->rel X.K ρ H v v'->f x y v h= .ok u h'->jA X.K ρ H h' Q->t x' y' v' H Q)
  (ho:JE X pg k o mo) (hi:JE X pg k i mi) (hv:JE X pg k e ma) (hs:swapsWithSole [.Subscript o i pos'] e pos.line X.env=pure false:=by rfl) (hw:swappedStores [.Subscript o i pos'] e X.env=pure none:=by rfl) (h1:(assignEach [.Subscript o i pos'] X.env).map (·.2)=[assign (.Subscript o i pos') X.env]:=by rfl)
  (ha: ∀ v,assign (.Subscript o i pos') X.env v=(do
   let ov <- holding [v] (eval o X.env)
   let iv <- holding [v,ov] (eval i X.env)
   standAt pos'
   holding [v,ov,iv] (setItem ov iv v)
   release [v,ov,iv] []):=by intro _;rfl):JS X pg k (.Assign [.Subscript o i pos'] e pos) (l8 f mo mi ma):=⟨λA =>
 let ⟨_,q0,s0⟩:=hv.h A;let ⟨_,q1,s1⟩:=ho.h A;let ⟨_,q2,s2⟩:=hi.h A;let ⟨_,q3,s3⟩:=hp A;⟨_,CT q0 ⟨D7 q1.h q2.h q3 ha⟩ hs hw h1,fun ρ h H e σ D f' h' s r q P=>by
 obtain⟨v,h1,e1,q⟩:=bind_eq.mp q
 obtain⟨x,h2,e2,q⟩:=bind_eq.mp q
 obtain⟨y,h3,e3,q⟩:=bind_eq.mp q
 obtain⟨u,h4,e4,q⟩:=bind_eq.mp q
 cases q
 refine s0 ρ h H e σ _ v h1 s r e1 λv' ρ1 H1 g1 z1 r1=>?_
 refine s1 ρ1 h1 H1 e σ _ x h2 z1 (r.gr g1) e2 λx' ρ2 H2 g2 z2 r2=>?_
 refine s2 ρ2 h2 H2 e σ _ y h3 z2 (r.gr (g1.trans g2)) e3 λy' ρ3 H3 g3 z3 r3=>?_
 have g:=(g1.trans g2).trans g3
 exact s3 ρ3 h3 H3 x y v x' y' v' u _ _ z3 (rel.gr g3 _ _ r2) r3 (rel.gr (g2.trans g3) _ _ r1) e4 fun ρ4 H4 g4 z4=>P σ ρ4 H4 (g.trans g4) z4 (r.gr (g.trans g4))⟩⟩
theorem Ca(hi:JI X pg k tg iter mI)(hg:JG X pg k tg g)(hb:tJ X pg k body ms)(hp:PassesOwn (model X.prog X.w) X.A X.env X.xe)(hs: ∀ x,foldedSetIterable iter X.env x=pure x:=by intro _;rfl):JS X pg k (.For tg iter body [] pos) (iG mI g ms):=⟨λA =>
 let ⟨_,q1,s1⟩:=hi.h A;let ⟨_,q2,s2⟩:=hg.h A;let ⟨_,q3,s3⟩:=hb.h A;⟨_,Bx hp A.calm q1 q2 q3 hs,fun ρ h H e σ D f h' s r q P=>by
 obtain ⟨it,h1,e1,q⟩:=bind_eq.mp q
 refine s1 ρ h H e σ _ it h1 s r e1 fun ρ1 H1 J g1 z1 w1=>?_
 let step:PV->aq->PH->RV Fl:=λx e h=>(g x e h).bind λe1 h1=>ms (run pg k) e1 h1
 refine ⟨λi m σ' H'=> ∃ ρ' h2 e',Gr ρ1 H1 ρ' H'∧b6 X.K ρ' h2 H'∧cJ X.K ρ' H' e' σ'∧i<=it.items.length∧m=it.items.length - i∧bE it step (it.items.drop i) e' h2= .ok f h',⟨_, ρ1,h1,e,.refl _ _,z1,r.gr g1,Nat.zero_le _,rfl,q⟩,?_⟩
 rintro i m σ2 H2 ⟨ρ2,h2,e2,g2,z2,r2,hi,rfl,q2⟩
 cases hx:it.items[i]? with
 | none =>
  have hl:it.items.length<=i:=List.getElem?_eq_none_iff.mp hx
  rw[List.drop_eq_nil_of_le hl,bE] at q2
  split at q2
  . rename_i hf;cases q2;exact .inl ⟨(w1 i ρ2 _ H2 g2 z2 hf).2 (by omega),P σ2 ρ2 H2 (g1.trans g2) z2 r2⟩
  . exact nomatch q2
 | some x =>
  have hlt:i < it.items.length:=(List.getElem?_eq_some_iff.mp hx).1
  have hd:it.items.drop i=x::it.items.drop (i+1):=by
   rw[List.drop_eq_getElem_cons hlt,(List.getElem?_eq_some_iff.mp hx).2]
  rw[hd,bE] at q2
  split at q2
  . rename_i hf;obtain⟨go,yl⟩:=(w1 i ρ2 _ H2 g2 z2 hf).1 x hx;obtain⟨f3,h3,e3,q3⟩:=bind_eq.mp q2;obtain ⟨e4,h4,e5,q4⟩:=bind_eq.mp e3;refine .inr ⟨go,fun σ' H'=> ∃ ρ' h2 e',Gr ρ1 H1 ρ' H'∧b6 X.K ρ' h2 H'∧cJ X.K ρ' H' e' σ'∧bE it step (it.items.drop (i+1)) e' h2= .ok f h',?_,?_⟩
    . rintro σ' H' ⟨ρ',h2,e',a1,a2,a3,a4⟩;exact ⟨it.items.length - (i+1),by omega, ρ',h2,e',a1,a2,a3,hlt,rfl,a4⟩
    . intro v H3 hy;obtain ⟨ρ3,g3,z3,r3⟩:=yl v H3 hy;refine s2 ρ3 h2 H3 e2 σ2 _ x v e4 h4 z3 (r2.gr g3) r3 e5 fun σ4 ρ4 H4 g4 z4 r4=>?_;have gg:=(g2.trans g3).trans g4;refine s3 ρ4 h4 H4 e4 σ4 _ f3 h3 z4 r4 q4 ?_;cases f3 with
      | nx e6=>exact fun σ5 ρ5 H5 g5 z5 r5=>⟨ρ5,h3,e6,gg.trans g5,z5,r5,q3⟩
      | ct e6=>exact fun σ5 ρ5 H5 g5 z5 r5=>⟨ρ5,h3,e6,gg.trans g5,z5,r5,q3⟩
      | bk e6=>cases q3;exact dX.gr P (g1.trans gg)
      | rt v=>cases q3;exact cK.gr P (g1.trans gg)
  . exact nomatch q2⟩⟩
theorem wI (hc:JT X pg k c mt) (hb:tJ X pg k body ms) (hp:PassesOwn (model X.prog X.w) X.A X.env X.xe):JS X pg k (.While c body [] pos) (pW mt ms):=⟨λA =>
 let ⟨_,q1,s1⟩:=hc.h A;let ⟨_,q2,s2⟩:=hb.h A;⟨_,vK hp q1 q2,fun ρ h H e σ D f h' s r q P=>by
 refine ⟨λm σ' H'=> ∃ ρ' h2 e',Gr ρ H ρ' H'∧b6 X.K ρ' h2 H'∧cJ X.K ρ' H' e' σ'∧cn (mt (run pg k)) (ms (run pg k)) m e' h2= .ok f h',⟨100000, ρ,h,e,.refl _ _,s,r,q⟩,?_⟩
 rintro m σ1 H1 ⟨ρ1,h1,e1,g1,z1,r1,q1⟩
 cases m with
 | zero=>exact nomatch q1
 | succ m =>
  obtain⟨x,h2,e2,q1⟩:=bind_eq.mp q1
  refine s1 ρ1 h1 H1 e1 σ1 _ x h2 z1 r1 e2 fun ρ2 H2 g2 z2=>?_
  cases x with
  | false=>cases q1;exact P σ1 ρ2 H2 (g1.trans g2) z2 (r1.gr g2)
  | true =>
   obtain⟨f3,h3,e3,q3⟩:=bind_eq.mp q1
   refine⟨fun σ' H'=> ∃ ρ' h2 e',Gr ρ H ρ' H'/\b6 X.K ρ' h2 H'/\cJ X.K ρ' H' e' σ'/\cn (mt (run pg k)) (ms (run pg k)) m e' h2= .ok f h',fun σ' H' w=>⟨m,Nat.lt_succ_self _,w⟩,?_⟩
   refine s2 ρ2 h2 H2 e1 σ1 _ f3 h3 z2 (r1.gr g2) e3 ?_
   have gg:=g1.trans g2
   cases f3 with
   | nx e6=>exact fun σ5 ρ5 H5 g5 z5 r5=>⟨ρ5,h3,e6,gg.trans g5,z5,r5,q3⟩
   | ct e6=>exact fun σ5 ρ5 H5 g5 z5 r5=>⟨ρ5,h3,e6,gg.trans g5,z5,r5,q3⟩
   | bk e6=>cases q3;exact dX.gr P gg
   | rt v=>cases q3;exact cK.gr P gg⟩⟩
theorem AN{cf:CF}{K:PySem.W.Frag}{wi:TI}{tg:TG}{tt:TT}{te:TE}{n:Nat}(s1:SI cf K wi mI)(s2:SG K tg g)(s3:ST cf K tt mt)(s4:SE cf K te ma):SE cf K (Ha n wi tg tt te) (jf n mI g mt ma):=fun ρ h H e σ Q v h' s r q P=>by
 obtain⟨it,h1,e1,q⟩:=bind_eq.mp q;obtain ⟨ys,h2,e2,q⟩:=bind_eq.mp q;cases q;refine s1 ρ h H e σ _ it h1 s r e1 fun ρ1 H1 J g1 z1 w1=>?_;refine ⟨λi m us H'=> ∃ ρ' h3 zs,Gr ρ1 H1 ρ' H'∧b6 K ρ' h3 H'∧aj K ρ' H' zs us∧i<=it.items.length∧m=it.items.length - i∧eZ it (aY n g mt ma cf e) (it.items.drop i) zs h3= .ok ys h2,⟨_, ρ1,h1,[],.refl _ _,z1,aD.mpr rfl,Nat.zero_le _,rfl,e2⟩,?_⟩;rintro i m us H2 ⟨ρ2,h3,zs,g2,z2,r2,hi,rfl,q2⟩;cases hx:it.items[i]? with
 | none =>
  have hl:it.items.length<=i:=List.getElem?_eq_none_iff.mp hx
  rw[List.drop_eq_nil_of_le hl,eZ] at q2
  split at q2
  . rename_i hf;cases q2;exact .inl ⟨(w1 i ρ2 _ H2 g2 z2 hf).2 (by omega),λp hp=>cX z2 r2 (P.gr (g1.trans g2)) p hp⟩
  . exact nomatch q2
 | some x =>
  have hlt:i < it.items.length:=(List.getElem?_eq_some_iff.mp hx).1
  have hd:it.items.drop i=x::it.items.drop (i+1):=by
   rw[List.drop_eq_getElem_cons hlt,(List.getElem?_eq_some_iff.mp hx).2]
  rw[hd,eZ] at q2
  split at q2
  . rename_i hf;obtain⟨go,yl⟩:=(w1 i ρ2 _ H2 g2 z2 hf.1).1 x hx;obtain⟨o,h4,e3,q3⟩:=bind_eq.mp q2;obtain⟨e4,h5,e5,q4⟩:=bind_eq.mp e3;obtain⟨b,h6,e6,q5⟩:=bind_eq.mp q4;refine .inr ⟨go,by rw[<- r2.len];exact hf.2,λv H3 hy=>?_⟩;obtain⟨ρ3,g3,z3,r3⟩:=yl v H3 hy;refine s2 ρ3 h3 H3 _ _ _ x v e4 h5 z3 (((r.gr (g1.trans (g2.trans g3)))).more n) r3 e5 fun σ4 ρ4 H4 g4 z4 r4=>?_;refine s3 ρ4 h5 H4 e4 σ4 _ b h6 z4 r4 e6 fun ρ5 H5 g5 z5=>?_;have gg:=((g2.trans g3).trans g4).trans g5;cases b with
    | false=>cases q5;exact ⟨it.items.length - (i+1),by omega, ρ5,_,zs,gg,z5,aj.gr ((g3.trans g4).trans g5) _ _ r2,hlt,rfl,q3⟩
    | true =>
     obtain ⟨y,h7,e7,q6⟩:=bind_eq.mp q5
     cases q6
     refine s4 ρ5 h6 H5 e4 σ4 _ y _ z5 (r4.gr g5) e7 λy' ρ6 H6 g6 z6 r6=>?_
     exact ⟨it.items.length - (i+1),by omega, ρ6,_,zs++[y],gg.trans g6,z6,(aj.gr (((g3.trans g4).trans g5).trans g6) _ _ r2).app (aj.one r6),hlt,rfl,q3⟩
  . exact nomatch q2
end
noncomputable def IJ (c:CF) (K:PySem.W.Frag) (m:ME):TE:=fun σ H Q=> ∃ ρ h e v h',b6 K ρ h H∧cJ K ρ H e σ ∧m c e h= .ok v h'∧cK K ρ H v h' Q
noncomputable def Iv(c:CF)(K:PySem.W.Frag)(m:MT):TT:=fun σ H Q=> ∃ ρ h e b h',b6 K ρ h H/\cJ K ρ H e σ /\m c e h= .ok b h'/\jA K ρ H h' (Q b)
theorem AY{c:CF}{K:PySem.W.Frag}{m:ME}:SE c K (IJ c K m) m:=fun ρ h H e σ Q v h' s r q P=>⟨ρ,h,e,v,h',s,r,q,P⟩
theorem AA{c:CF}{K:PySem.W.Frag}{m:MT}:ST c K (Iv c K m) m:=fun ρ h H e σ Q v h' s r q P=>⟨ρ,h,e,v,h',s,r,q,P⟩
theorem JE.ET{X:Cx}{pg:Tb}{k:Nat}{e:Expr}{m:ME}(j:JE X pg k e m)(A:cH X pg k):QE X e (IJ (run pg k) X.K m) :=
 let ⟨_,q,s⟩:=j.h A;⟨λpins st σ H Q I ⟨ρ,h,e,v,h',a,b,c,d⟩=>q.h pins st σ H Q I (s ρ h H e σ Q v h' a b c d)⟩
theorem JF.ET{X:Cx}{pg:Tb}{k:Nat}{e:List Expr}{m:MT}(j:JF X pg k e m)(A:cH X pg k):QF X e (Iv (run pg k) X.K m) :=
 let ⟨_,q,s⟩:=j.h A;⟨λpins st σ H Q I ⟨ρ,h,e,v,h',a,b,c,d⟩=>q.h pins st σ H Q I (s ρ h H e σ Q v h' a b c d)⟩
structure GC(K:PySem.W.Frag)(n:Nat)(t:TG)(m:MG):Prop where
 sg:SG K t m
 gk:GK n t
 mono:nh t
structure Hj(K:PySem.W.Frag)(n:Nat)(t:nJ)(m:List PV->aq->PH->RV aq):Prop where
 sg: ∀ ρ h H e σ Q vs us e' h',b6 K ρ h H->cJ K ρ H e σ ->aj K ρ H vs us->m vs e h= .ok e' h'->dX K ρ H e' h' Q->t us σ H Q
 gk:FU n t
 mono: ∀ xs σ H Q Q',(∀ σ2 H2,Q σ2 H2->Q' σ2 H2)->t xs σ H Q->t xs σ H Q'
theorem xY{K:PySem.W.Frag}{n i:Nat}(h:n<=i):GC K n (dH i) (gN i):=⟨rG,yr h,pQ⟩
theorem qS{K:PySem.W.Frag}{n:Nat}:Hj K n sO eL:=⟨fun ρ h H e σ Q vs us e' h' s r rv q P=>by
 cases vs with
 | nil=>cases q;rw[aD] at rv;exact⟨rv,P σ ρ H (.refl _ _) s r⟩
 | cons=>exact(nomatch q),D6,λxs σ H Q Q' f q=>⟨q.1,f _ _ q.2⟩⟩
theorem gZ{K:PySem.W.Frag}{n:Nat}{t:TG}{m:MG}{ts:nJ}{ms:List PV->aq->PH->RV aq}(a:GC K n t m)(b:Hj K n ts ms):Hj K n (ji t ts) (aZ m ms):=⟨fun ρ h H e σ Q vs us e' h' s r rv q P=>by
 cases vs with
 | nil=>exact nomatch q
 | cons v t =>
  obtain⟨w,u,rfl,r1,r2⟩:=au.mp rv
  obtain⟨e1,h1,e2,q⟩:=bind_eq.mp q
  refine⟨w,u,rfl,?_⟩
  exact a.sg ρ h H e σ _ v w e1 h1 s r r1 e2 fun σ1 ρ1 H1 g1 z1 y1=>b.sg ρ1 h1 H1 e1 σ1 Q t u e' h' z1 y1 (aj.gr g1 _ _ r2) q (P.gr g1),zv a.gk a.mono b.gk,
 λxs σ H Q Q' f ⟨v,r,e,q⟩=>⟨v,r,e,a.mono _ _ _ _ _ (fun σ2 H2 z=>b.mono _ _ _ _ _ f z) q⟩⟩
theorem wK{K:PySem.W.Frag}{n j:Nat}{ts:nJ}{ms:List PV->aq->PH->RV aq}(b:Hj K n ts ms):GC K n (rY K j ts) (gT j ms):=⟨fun ρ h H e σ Q v v' e' h' s r rv q P=>by
 unfold gT at q;split at q
 . rename_i xs ex;obtain⟨a,vs,rfl,z,rr⟩:=rel.seq ex rv;split at q
   . rename_i hl;exact⟨a,vs,rfl,z,by rw[<- rr.len];exact hl,b.sg ρ h H e σ Q xs vs e' h' s r rr q P⟩
   . exact nomatch q
 . exact(nomatch q),B7 b.gk,λx σ H Q Q' f ⟨a,xs,e1,e2,e3,q⟩=>⟨a,xs,e1,e2,e3,b.mono _ _ _ _ _ f q⟩⟩
section
variable{X:Cx}{pg:Tb}{k:Nat}{e tg iter:Expr}{ma:ME}{mt:MT}{g:MG}{tG:TG}{mI:MI}{scope:Scope}{ifs:List Expr}{pos spos py:Pos}{y:Str}
theorem oS(vars:List Str)(hkind:scope.kind= .function)(hlc:fu scope.names X.env.scope.names X.N vars=true)(hi:JI X pg k tg iter mI)
  (hb: ∀ cl C s₀ H₀ ex pn,(cH X pg k->QG (dS X vars scope cl C s₀ H₀ ex pn) tg tG)/\JF (dS X vars scope cl C s₀ H₀ ex pn) pg k ifs mt/\JE (dS X vars scope cl C s₀ H₀ ex pn) pg k e ma) (hG:GC X.K X.N.length tG g)
  (hs: ∀ x,foldedSetIterable iter X.env x=pure x:=by intro _;rfl):JE X pg k (.ListComp e [⟨tg,iter,ifs,0⟩] scope pos) (jf vars.length mI g mt ma):=⟨λA =>
 let ⟨_,q1,s1⟩:=hi.h A
 ⟨_,vE vars A.calm A.ll hkind hlc q1 (λcl C s₀ H₀ ex pn=>let ⟨h1,h2,h3⟩:=hb cl C s₀ H₀ ex pn;⟨h1 A,h2.ET (A.dS ..),h3.ET (A.dS ..)⟩) hG.gk hs,AN s1 hG.sg AA AY⟩⟩
theorem oH(vars:List Str)(i:Nat)(hkind:scope.kind= .function)(hlc:fu scope.names X.env.scope.names X.N vars=true)(hN:X.N.Nodup)(hiy:X.N[i]?=some y)(hy:Loc X.env.scope y)(hi:JI X pg k tg iter mI)
  (hb: ∀ cl C s₀ H₀ ex pn,(cH X pg k->QG (dS X vars scope cl C s₀ H₀ ex pn) tg tG)/\JF (dS X vars scope cl C s₀ H₀ ex pn) pg k ifs mt/\JE (dS X vars scope cl C s₀ H₀ ex pn) pg k e ma) (hG:GC X.K X.N.length tG g)
  (hsw:swapsWith (.ListComp e [⟨tg,iter,ifs,0⟩] scope pos) (some (.Name y py)) spos.line X.env=pure true:=by rfl) (hs: ∀ x,foldedSetIterable iter X.env x=pure x:=by intro _;rfl)
  (hf:X.fn y=true\/X.env.scope.names.lookup y=some .local:=by first | exact .inl rfl | exact .inr rfl | assumption) :
  JS X pg k (.Assign [.Name y py] (.ListComp e [⟨tg,iter,ifs,0⟩] scope pos) spos) (aA (jf vars.length mI g mt ma) (gN i)):=⟨λA =>
 let ⟨_,q1,s1⟩:=hi.h A
 ⟨_,wM vars i A.calm A.ll hkind hlc hN hiy hy q1 (λcl C s₀ H₀ ex pn=>let ⟨h1,h2,h3⟩:=hb cl C s₀ H₀ ex pn;⟨h1 A,h2.ET (A.dS ..),h3.ET (A.dS ..)⟩) hG.gk hsw hs hf,fun ρ h H e σ D f h' s r q P=>by
  obtain⟨v,h1,e1,q⟩:=bind_eq.mp q;obtain⟨e2,h2,e3,q⟩:=bind_eq.mp q;cases q;cases e3;exact AN s1 hG.sg AA AY ρ h H e σ _ v _ s r e1 λv' ρ1 H1 g1 z1 r1=>P _ ρ1 H1 g1 z1 ((r.gr g1).set i r1)⟩⟩
end
section
variable{K:PySem.W.Frag}{ρ ρ':List Addr}{H H':Hp}{h h':PH}
mutual
theorem rel.flat: ∀(x:PV)(v:V),x.flat=true->rel K ρ' H' x v->rel K ρ H' x v
 | .non,v,_,h=>by simpa only[rel] using h
 | .bl _,v,_,h=>by simpa only[rel] using h
 | .int _,v,_,h=>by simpa only[rel] using h
 | .str _,v,_,h=>by simpa only[rel] using h
 | .ty _,v,_,h=>by simpa only[rel] using h
 | .ref n,v,f,h=>by simp[PV.flat] at f
 | .tup xs,v,f,h=>by
  rw[rel] at h ⊢;rw[PV.flat] at f;obtain⟨a,vs,e,s,r⟩:=h;exact⟨a,vs,e,s,aj.flat xs vs f r⟩
 | .ktup xs,v,f,h=>by
  rw[rel] at h ⊢;rw[PV.flat] at f;obtain⟨a,vs,e,s,r⟩:=h;exact⟨a,vs,e,s,aj.flat xs vs f r⟩
theorem aj.flat: ∀(xs:List PV)(vs:List V),PV.bF xs=true->aj K ρ' H' xs vs->aj K ρ H' xs vs
 | [],vs,_,h=>by simpa only[aj] using h
 | x::r,vs,f,h=>by
  rw[aj] at h ⊢;rw[PV.bF,Bool.and_eq_true] at f;obtain⟨v,t,e,h1,h2⟩:=h;exact ⟨v,t,e,rel.flat x v f.1 h1,aj.flat r t f.2 h2⟩
end
mutual
theorem rel.gB (g: ∀ (n:Nat) (a:Addr), ρ[n]?=some a-> ρ'[n]?=some a): ∀ (x:PV) (v:V),x.gB ρ.length=true->rel K ρ' H' x v->rel K ρ H' x v
 | .non,v,_,h=>by simpa only [rel] using h
 | .bl _,v,_,h=>by simpa only [rel] using h
 | .int _,v,_,h=>by simpa only [rel] using h
 | .str _,v,_,h=>by simpa only[rel] using h
 | .ty _,v,_,h=>by simpa only[rel] using h
 | .ref n,v,f,h=>by
  rw[rel] at h ⊢;rw[PV.gB,decide_eq_true_eq] at f;obtain⟨a,e,h⟩:=h;have:=g n _ (List.getElem?_eq_getElem f);rw[e] at this;exact⟨a,by rw[List.getElem?_eq_getElem f,<- Option.some.inj this],h⟩
 | .tup xs,v,f,h=>by
  rw[rel] at h ⊢;rw[PV.gB] at f;obtain⟨a,vs,e,s,r⟩:=h;exact⟨a,vs,e,s,aj.gB g xs vs f r⟩
 | .ktup xs,v,f,h=>by
  rw[rel] at h ⊢;rw [PV.gB] at f;obtain ⟨a,vs,e,s,r⟩:=h;exact ⟨a,vs,e,s,aj.gB g xs vs f r⟩
theorem aj.gB (g: ∀ (n:Nat) (a:Addr), ρ[n]?=some a-> ρ'[n]?=some a): ∀ (xs:List PV) (vs:List V),PV.hZ ρ.length xs=true->aj K ρ' H' xs vs->aj K ρ H' xs vs
 | [],vs,_,h=>by simpa only [aj] using h
 | x::r,vs,f,h=>by
  rw [aj] at h ⊢;rw[PV.hZ,Bool.and_eq_true] at f;obtain⟨v,t,e,h1,h2⟩:=h;exact⟨v,t,e,rel.gB g x v f.1 h1,aj.gB g r t f.2 h2⟩
end
mutual
theorem rel.low: ∀(x:PV)(v:V),rel K ρ H x v->x.gB ρ.length=true
 | .non,v,_=>rfl
 | .bl _,v,_=>rfl
 | .int _,v,_=>rfl
 | .str _,v,_=>rfl
 | .ty _,v,_=>rfl
 | .ref n,v,h=>by
  rw[rel] at h;obtain⟨a,e,h⟩:=h;rw[PV.gB,decide_eq_true_eq];exact(List.getElem?_eq_some_iff.mp e).1
 | .tup xs,v,h=>by
  rw[rel] at h;obtain⟨a,vs,e,s,r⟩:=h;rw[PV.gB];exact aj.low xs vs r
 | .ktup xs,v,h=>by
  rw[rel] at h;obtain⟨a,vs,e,s,r⟩:=h;rw[PV.gB];exact aj.low xs vs r
theorem aj.low: ∀(xs:List PV)(vs:List V),aj K ρ H xs vs->PV.hZ ρ.length xs=true
 | [],vs,_=>rfl
 | x::r,vs,h=>by
  rw[aj] at h;obtain⟨v,t,e,h1,h2⟩:=h;rw[PV.hZ,rel.low x v h1,aj.low r t h2];rfl
end
theorem Paired.low: ∀{kvs:List (Key × PV)}{kws:List (Key × V)},Paired (λ(p:Key × PV) (q:Key × V)=>p.1=q.1/\rel K ρ H p.2 q.2) kvs kws->PV.hZ ρ.length (kvs.map (·.2))=true
 | _,_,.nil=>rfl
 | _,_,.cons r t=>by rw[List.map_cons,PV.hZ,rel.low _ _ r.2,Paired.low t];rfl
theorem iD.low{a:Addr}: ∀{o:PO},iD K ρ H a o->o.gB ρ.length=true
 | .lst xs,⟨vs,_,r⟩=>aj.low _ _ r
 | .iu xs,⟨vs,_,r⟩=>aj.low _ _ r
 | .dct kvs,⟨kws,_,r⟩=>Paired.low r
theorem Paired.gB (g: ∀ (n:Nat) (a:Addr), ρ[n]?=some a-> ρ'[n]?=some a): ∀ {kvs:List (Key × PV)} {kws:List (Key × V)},PV.hZ ρ.length (kvs.map (·.2))=true ->
  Paired (λ(p:Key × PV) (q:Key × V)=>p.1=q.1∧rel K ρ' H' p.2 q.2) kvs kws->Paired (λ(p:Key × PV) (q:Key × V)=>p.1=q.1∧rel K ρ H' p.2 q.2) kvs kws
 | _,_,_,.nil=> .nil
 | _,_,f,.cons r t=>by
  rw [List.map_cons,PV.hZ,Bool.and_eq_true] at f;exact .cons ⟨r.1,rel.gB g _ _ f.1 r.2⟩ (Paired.gB g f.2 t)
theorem iD.gB (g: ∀ (n:Nat) (a:Addr), ρ[n]?=some a-> ρ'[n]?=some a) {a:Addr}: ∀ {o:PO},o.gB ρ.length=true->iD K ρ' H' a o->iD K ρ H' a o
 | .lst xs,f,⟨vs,e,r⟩=>⟨vs,e,aj.gB g _ _ f r⟩
 | .iu xs,f,⟨vs,e,r⟩=>⟨vs,e,aj.gB g _ _ f r⟩
 | .dct kvs,f,⟨kws,e,r⟩=>⟨kws,e,Paired.gB g f r⟩
theorem b6.drop(s:b6 K ρ h H)(g:Gr ρ H ρ' H')(s':b6 K ρ' h' H')(ok:bC h.length h h'=true):b6 K ρ (h'.take h.length) H':=by
 have old: ∀{i:Nat}{o:PO},(h'.take h.length)[i]?=some o->i < h.length/\h'[i]?=some o:=λ{i o} e=>by
  have hi:i < h.length:=by
   have:=(List.getElem?_eq_some_iff.mp e).1;rw[List.length_take] at this;omega
  rw[List.getElem?_take,if_pos hi] at e;exact⟨hi,e⟩
 refine⟨by rw[List.length_take,s.len,Nat.min_eq_left (kb ok)],λi j a oi oj ei ej mi mj ri rj=>?_,λi o a e ea=>?_⟩
 . exact s'.nd i j a oi oj (old ei).2 (old ej).2 mi mj (g.pre _ _ ri) (g.pre _ _ rj)
 . have r:=s'.ob i o a (old e).2 (g.pre _ _ ea);obtain⟨o0,e0,_,z⟩:=l7 ok e;refine iD.gB g.pre ?_ r;rcases z with z | z
   . subst z;exact(s.ob i o0 a e0 ea).low
   . rw[s.len];exact z
theorem d5{v w:PV}{h2:PH}{Q:VK}(s:b6 K ρ h H)(e:settle h v h'= .ok w h2)(P:cK K ρ H w h2 Q):cK K ρ H v h' Q:=by
 unfold settle at e;split at e
 . rename_i ok;rw[Bool.and_eq_true] at ok;cases e;exact λv' ρ' H' g s' r=>P v' ρ H' ⟨λ_ _ z=>z,g.tup,g.gC⟩ (s.drop g s' ok.2) (rel.flat _ _ ok.1 r)
 . cases e;exact P
end
theorem fh{K:PySem.W.Frag}{ρ :List Addr}{H:Hp}: ∀{args:List PV}{vs:List V},aj K ρ H args vs-> ∀(n:Nat),cJ K ρ H (args.map some++List.replicate n none) (vs.map some++List.replicate n none)
 | args,vs,r,n=>by
  have:cJ K ρ H (args.map some) (vs.map some):=⟨by simp[r.len],λi v e=>by
   rw[List.getElem?_map] at e;cases q:args[i]? with
   | none=>rw[q] at e;exact nomatch e
   | some w =>
    rw[q] at e
    cases e
    obtain⟨v',e1,e2⟩:=r.get q
    exact⟨v',by rw[List.getElem?_map,e1];rfl,e2⟩⟩
  exact this.more n
structure fW(P:Program)(w:World)(K:PySem.W.Frag)(mg:Str->Option Value)(base:Heap)(pg:Tb)(f:String)(d:Df):Prop where
 ex: ∃(st:Stmt)(N:List Str),At K mg (Str.ofString f) st/\aw N d.ps (af st)/\N.length=d.ps.length+d.nl /\
  (∀(kV doc pm:Value)(an:Option Addr)(cdv ct:Value)(us:List Value),us.length=d.ps.length->bindArgs (PySem.W.fnOf (Str.ofString f) (Str.ofString f) (bS st) (aX st) (af st) .none kV doc pm an cdv ct) ⟨us,[]⟩=pure (d.ps.zip us)) /\
  ∀(fa:Addr)(cdv:Value)(A:Around)(outer:List Env)(s:Shared)(H:Hp)(E:XK)(k:Nat),tJ (gE nI P w K mg base N (Str.ofString f) (af st) fa cdv A outer s H E).ll pg k (aX st) d.body
structure Top(P:Program)(w:World)(K:PySem.W.Frag)(mg:Str->Option Value)(pg:Tb):Prop where
 blt: ∀ x∈fA,mg x=none
 con: ∀ x v,pg.con x=some v-> ∃ u v',mg x=some u/\RelV v' u/\ ∀ ρ H,rel K ρ H v v'
 zg: ∀ x kvs,pg.zg x=some kvs-> ∃ a kws,mg x=some (.ref a)∧KD P w K a kws∧ ∀ ρ H,Paired (λ(p:Key × PV) (q:Key × V)=>p.1=q.1∧rel K ρ H p.2 q.2) kvs kws
section
variable {P:Program} {w:World} {K:PySem.W.Frag} {mg:Str->Option Value} {base:Heap} {pg:Tb}
theorem vZ (T : Top P w K mg pg) (G : ∀ f d, pg.fns f = some d -> fW P w K mg base pg f d) : ∀ k f d, pg.fns f = some d -> fH P w K mg base (Str.ofString f) k d.ps (qw K pg k f) := by
  intro k
  induction k with
  | zero =>
    intro f d hf
    obtain ⟨st, N, a, S, hl, hb, body⟩ := (G f d hf).ex
    exact At.tL a hb λvs H Q E ⟨ρ, h, args, v, h', _, _, q, _⟩ => nomatch q
  | succ k ih =>
    intro f d hf
    obtain ⟨st, N, a, S, hl, hb, body⟩ := (G f d hf).ex
    have run_eq : ∀ {args : List PV} {h h' : PH} {v : PV}, run pg (k + 1) f args h = .ok v h' -> args.length = d.ps.length ∧
        ((∃ w h2, d.body (run pg k) (args.map some ++ List.replicate d.nl none) h = .ok (.rt w) h2 /\ settle h w h2 = .ok v h') ∨
         (∃ e h2, d.body (run pg k) (args.map some ++ List.replicate d.nl none) h = .ok (.nx e) h2 /\ settle h .non h2 = .ok v h')) := λ{args h h' v} q => by
      rw [run, hf] at q;simp only at q;split at q
      . rename_i hn;refine ⟨hn, ?_⟩;split at q
        . rename_i w h2 e; exact .inl ⟨w, h2, e, q⟩
        . rename_i e' h2 e; exact .inr ⟨e', h2, e, q⟩
        . exact nomatch q
        . exact nomatch q
        . exact nomatch q
      . exact nomatch q
    refine At.HJ a S hb (λvs H Q E ⟨ρ, h, args, v, h', _, r, q, _⟩ => by rw [<- r.len]; exact (run_eq q).1) ?_
    rintro fa cdv A outer s H vs Q E hr ⟨ρ, h, args, v, h', sm, r, q, post⟩
    have amb : cH (gE nI P w K mg base N (Str.ofString f) (af st) fa cdv A outer s H E).ll pg k := ⟨hr, rfl, λ_ _ z => z, ih, T.blt, T.con, T.zg⟩
    obtain ⟨t, qt, st'⟩ := (body fa cdv A outer s H E k).h amb
    refine ⟨t, qt, ?_⟩
    obtain ⟨hn, q⟩ := run_eq q
    have he : L2.start N vs = vs.map some ++ List.replicate d.nl none := by
      unfold L2.start;rw [hl, <- r.len, hn, Nat.add_sub_cancel_left]
    rw [he]
    rcases q with ⟨w, h2, e, q⟩ | ⟨e', h2, e, q⟩
    . exact st' ρ h H _ _ _ _ h2 sm (fh r _) e (d5 sm q post)
    . exact st' ρ h H _ _ _ _ h2 sm (fh r _) e fun σ' ρ' H' g s' _ => d5 sm q post .non ρ' H' g s' (by rw [rel])
end
noncomputable def p2(f:Int->Int->RV PV):PV->PV->PH->RV PV:=λx y h=>match x,y with
 | .int i,.int j=>(f i j).bind λv _=> .ok v h
 | _,_=> .no
noncomputable def x8(v:PV):RV PV:= .ok v []
section
variable{K:PySem.W.Frag}{X:Cx}{pg:Tb}{k:Nat}
theorem Cd{C:Int->Int->Prop}{g:Int->Int->V}{f:Int->Int->RV PV}(hf: ∀ i j v h,f i j= .ok v h->C i j/\ ∀ ρ H,rel K ρ H v (g i j)):lg K (rI C g) (p2 f):=fun ρ h H x y x' y' Q v h' s rx ry q P=>by
 unfold p2 at q;split at q
 . rename_i i j;rw[rel] at rx ry;obtain⟨w,h0,e,q⟩:=bind_eq.mp q;cases q;obtain⟨hc,hr⟩:=hf i j v h0 e;exact⟨i,j,rx,ry,hc,P _ ρ H (.refl _ _) s (hr ρ H)⟩
 . exact nomatch q
theorem rD{g:Int->Int->V}{f:Int->Int->RV PV}(hf: ∀ i j v h,f i j= .ok v h-> ∀ ρ H,rel K ρ H v (g i j)):lg K (xJ g) (p2 f):=fun ρ h H x y x' y' Q v h' s rx ry q P=>by
 unfold p2 at q;split at q
 . rename_i i j;rw[rel] at rx ry;obtain⟨w,h0,e,q⟩:=bind_eq.mp q;cases q;exact⟨i,j,rx,ry,P _ ρ H (.refl _ _) s (hf i j v h0 e ρ H)⟩
 . exact nomatch q
noncomputable def qf:PV->PV->PH->RV PV:=p2 λi j=>x8 (.int (i - j))
noncomputable def iY:PV->PV->PH->RV PV:=p2 λi j=>if 0 < j then x8 (.int (i % j)) else .no
noncomputable def kq:PV->PV->PH->RV PV:=p2 λi j=>if 0 < j/\j < 1073741824 then x8 (.int (i / j)) else .no
noncomputable def ym:PV->PV->PH->RV PV:=p2 λi j=>if 0<=j/\j<=1000000/\i.natAbs < 2 ^ 64 then x8 (.int (i ^ j.toNat)) else .no
noncomputable def yf:PV->PV->PH->RV PV:=p2 λi j=>x8 (.bl (decide (i < j)))
noncomputable def Gy:PV->PV->PH->RV PV:=p2 λi j=>x8 (.bl (decide (j < i)))
noncomputable def HI:PV->PV->PH->RV PV:=p2 λi j=>x8 (.bl (decide (j<=i)))
theorem E1:cH X pg k-> ∃ r,cI X (binaryOp .Sub) r/\lg X.K r qf:=λ_=>⟨_,DB,rD λi j v h e ρ H=>by cases e;rw[rel]⟩
theorem FL:cH X pg k-> ∃ r,cI X (binaryOp .Mod) r/\lg X.K r iY:=λ_=>⟨_,DY,Cd λi j v h e=>by
 split at e
 . cases e;exact⟨by assumption,fun ρ H=>by rw[rel]⟩
 . exact nomatch e⟩
theorem C4:cH X pg k-> ∃ r,cI X (binaryOp .FloorDiv) r/\lg X.K r kq:=λ_=>⟨_,zy,Cd λi j v h e=>by
 split at e
 . cases e;exact⟨by assumption,fun ρ H=>by rw[rel]⟩
 . exact nomatch e⟩
theorem Gv:cH X pg k-> ∃ r,cI X (binaryOp .Pow) r/\lg X.K r ym:=λ_=>⟨_,Cc,Cd λi j v h e=>by
 split at e
 . cases e;exact⟨by assumption,fun ρ H=>by rw[rel]⟩
 . exact nomatch e⟩
theorem Hx:cH X pg k-> ∃ r,cI X (compareOp .Lt) r/\lg X.K r yf:=λ_=>⟨_,GU,rD λi j v h e ρ H=>by cases e;rw[rel]⟩
theorem Ia:cH X pg k-> ∃ r,cI X (compareOp .Gt) r/\lg X.K r Gy:=λ_=>⟨_,GG,rD λi j v h e ρ H=>by cases e;rw[rel]⟩
theorem HL:cH X pg k-> ∃ r,cI X (compareOp .GtE) r/\lg X.K r HI:=λ_=>⟨_,FE,rD λi j v h e ρ H=>by cases e;rw[rel]⟩
noncomputable def Gg(xs:List PV)(h:PH):RV PV:=iw xs.length (.ok (.ref h.length) (h++[.lst xs]))
noncomputable def bq:PV->PV->PH->RV PV:=λx y h=>match x,y with
 | .int i,.int j=> .ok (.int (i+j)) h
 | .str a,.str b=>iw (a.length+b.length) (.ok (.str (a++b)) h)
 | .tup xs,.tup ys=>iw (xs.length+ys.length) (.ok (.tup (xs++ys)) h)
 | .ref n,.ref m=>(match h[n]?,h[m]? with
  | some (.lst xs),some (.lst ys)=>Gg (xs++ys) h
  | _,_=> .no)
 | _,_=> .no
theorem b6.lst{ρ :List Addr}{h:PH}{H:Hp}(s:b6 K ρ h H){n:Nat}{xs:List PV}(e:h[n]?=some (.lst xs)){v:V}(r:rel K ρ H (.ref n) v): ∃ a vs,v= .ref a/\ ρ[n]?=some a/\H a=some (.lst vs)/\aj K ρ H xs vs:=by
 rw[rel] at r;obtain⟨a,ea,rfl⟩:=r;obtain⟨vs,e1,e2⟩:=s.ob n _ a e ea;exact⟨a,vs,rfl,ea,e1,e2⟩
theorem b6.iu{ρ :List Addr}{h:PH}{H:Hp}(s:b6 K ρ h H){n:Nat}{xs:List PV}(e:h[n]?=some (.iu xs)){v:V}(r:rel K ρ H (.ref n) v): ∃ a vs,v= .ref a/\ ρ[n]?=some a/\eU K H a vs/\aj K ρ H xs vs:=by
 rw[rel] at r;obtain⟨a,ea,rfl⟩:=r;obtain⟨vs,e1,e2⟩:=s.ob n _ a e ea;exact⟨a,vs,rfl,ea,e1.sq,e2⟩
noncomputable def bV(h:PH)(n:Nat):Option (List PV):=match h[n]? with
 | some (.lst xs)=>some xs
 | some (.iu xs)=>some xs
 | _=>none
theorem b6.sq{ρ :List Addr}{h:PH}{H:Hp}(s:b6 K ρ h H){n:Nat}{xs:List PV}(e:bV h n=some xs){v:V}(r:rel K ρ H (.ref n) v): ∃ a vs,v= .ref a/\ ρ[n]?=some a/\eU K H a vs/\aj K ρ H xs vs:=by
 unfold bV at e;split at e
 . cases e;obtain⟨a,vs,e1,e2,e3,e4⟩:=s.lst (by assumption) r;exact⟨a,vs,e1,e2,.of e3,e4⟩
 . cases e;exact s.iu (by assumption) r
 . exact nomatch e
theorem jK{ρ :List Addr}{h:PH}{H:Hp}{xs:List PV}{us:List V}{Q:VK}(s:b6 K ρ h H)(r:aj K ρ H xs us)(P:cK K ρ H (.tup xs) h Q)(p:Addr)(hp:H p=none):Q (.ref p) (upd H p (.tup us)):=by
 refine P _ ρ _ (Gr.wB hp) (s.tup hp) ?_;rw[rel];exact⟨p,us,rfl,bh,aj.gr (Gr.wB hp) _ _ r⟩
theorem F8:cH X pg k-> ∃ r,cI X (binaryOp .Add) r/\lg X.K r bq:=λ_=>⟨_,DC,fun ρ h H x y x' y' Q v h' s rx ry q P=>by
 unfold bq at q;split at q
 . cases q;rw[rel] at rx ry;exact .inl ⟨_,_,rx,ry,P _ ρ H (.refl _ _) s (by rw[rel])⟩
 . obtain⟨hl,q⟩:=gK.mp q;cases q;rw[rel] at rx ry;exact .inr (.inr (.inr (.inr ⟨_,_,rx,ry,hl,P _ ρ H (.refl _ _) s (by rw[rel])⟩)))
 . rename_i xs ys;obtain⟨hl,q⟩:=gK.mp q;cases q;have ry':=ry;rw[rel] at rx ry;obtain⟨a,us,e1,e2,e3⟩:=rx;obtain⟨b,ws,d1,d2,d3⟩:=ry;cases xs with
   | nil =>
    rw[aD] at e3;subst e3
    exact .inr (.inr (.inr (.inl ⟨a,b,ws,e1,d1,.of e2,.of d2,d1 ▸ P y' ρ H (.refl _ _) s ry'⟩)))
   | cons x r =>
    refine .inr (.inr (.inl ⟨a,b,us,ws,e1,d1,.of e2,.of d2,?_,by rw[<- e3.len,<- d3.len];exact hl,?_⟩))
    . rintro rfl;have:=e3.len;simp at this
    . refine⟨λz=>?_,λ_ p hp=>jK s (e3.app d3) P p hp⟩;subst z;have:ys=[]:=List.eq_nil_of_length_eq_zero d3.len;subst this;rw[List.append_nil] at P;exact P _ ρ H (.refl _ _) s (by rw[rel];exact⟨a,us,rfl,e2,e3⟩)
 . split at q
   . rename_i h1 h2;unfold Gg at q;obtain⟨hl,q⟩:=gK.mp q;cases q;obtain⟨a,us,rfl,_,e1,e2⟩:=s.lst h1 rx;obtain⟨b,ws,rfl,_,d1,d2⟩:=s.lst h2 ry;refine .inr (.inl ⟨a,b,us,ws,rfl,rfl,e1,d1,?_,λp hp=>cX s (e2.app d2) P p hp⟩);rw[<- e2.len,<- d2.len];simpa using hl
   . exact nomatch q
 . exact nomatch q⟩
noncomputable def bR(kvs:List (Key × PV))(k:Key):Option PV:=(kvs.find? λkv=>decide (kv.1=k)).map (·.2)
noncomputable def eF(kvs:List (Key × PV))(k:Key)(v:PV):List (Key × PV) :=
 if (kvs.any λkv=>decide (kv.1=k))=true then kvs.map (λkv=>if kv.1=k then(kv.1,v) else kv) else kvs++[(k,v)]
noncomputable def fO:PV->Option Key
 | .int i=>some (.inl i)
 | .str x=>some (.inr x)
 | _=>none
theorem eJ{ρ :List Addr}{H:Hp}{x:PV}{k:Key}{v:V}(e:fO x=some k)(r:rel K ρ H x v):v=kV k:=by
 cases x<;>simp only[fO,reduceCtorEq,Option.some.injEq] at e<;>(subst e;rw[rel] at r;exact r)
abbrev RK(K:PySem.W.Frag)(ρ :List Addr)(H:Hp)(kvs:List (Key × PV))(kws:List (Key × V)):Prop:=Paired (λ(p:Key × PV) (q:Key × V)=>p.1=q.1/\rel K ρ H p.2 q.2) kvs kws
theorem RK.val{ρ :List Addr}{H:Hp}: ∀{kvs:List (Key × PV)}{kws:List (Key × V)}(k:Key),RK K ρ H kvs kws->match bR kvs k,eW kws k with
  | some x,some v=>rel K ρ H x v
  | none,none=>True
  | _,_=>False
 | _,_,k,.nil=>trivial
 | _,_,k,.cons (a:=p) (b:=q) r t=>by
  have ih:=RK.val k t;unfold bR eW at ih ⊢;rw[List.find?_cons,List.find?_cons,<- r.1];by_cases e:p.1=k
  . simp only[e,decide_true,Option.map_some];exact r.2
  . simp only[e,decide_false];exact ih
theorem RK.some{ρ :List Addr}{H:Hp}{kvs:List (Key × PV)}{kws:List (Key × V)}{k:Key}{x:PV}(r:RK K ρ H kvs kws)(e:bR kvs k=some x): ∃ v,eW kws k=some v/\rel K ρ H x v:=by
 have:=RK.val k r;rw[e] at this;cases q:eW kws k with
 | none=>rw[q] at this;exact False.elim this
 | some v=>rw[q] at this;exact⟨v,rfl,this⟩
theorem RK.is{ρ :List Addr}{H:Hp}{kvs:List (Key × PV)}{kws:List (Key × V)}(k:Key)(r:RK K ρ H kvs kws):(eW kws k).isSome=(bR kvs k).isSome:=by
 have:=RK.val k r;cases p:bR kvs k<;>cases q:eW kws k<;>rw[p,q] at this<;>first | rfl | exact False.elim this
theorem RK.len{ρ :List Addr}{H:Hp}{kvs:List (Key × PV)}{kws:List (Key × V)}(r:RK K ρ H kvs kws):kvs.length=kws.length:=Paired.length r
theorem RK.any{ρ :List Addr}{H:Hp}: ∀{kvs:List (Key × PV)}{kws:List (Key × V)}(k:Key),RK K ρ H kvs kws->(kws.any λkv=>decide (kv.1=k))=kvs.any λkv=>decide (kv.1=k)
 | _,_,k,.nil=>rfl
 | _,_,k,.cons (a:=p) (b:=q) r t=>by rw[List.any_cons,List.any_cons,RK.any k t,r.1]
theorem RK.wY{ρ :List Addr}{H:Hp}{k:Key}{x:PV}{v:V}(h:rel K ρ H x v): ∀{kvs:List (Key × PV)}{kws:List (Key × V)},RK K ρ H kvs kws->RK K ρ H (kvs.map λkv=>if kv.1=k then(kv.1,x) else kv) (kws.map λkv=>if kv.1=k then(kv.1,v) else kv)
 | _,_,.nil=> .nil
 | _,_,.cons (a:=p) (b:=q) a t=> .cons (by
   show(if p.1=k then(p.1,x) else p).1=(if q.1=k then(q.1,v) else q).1/\rel K ρ H (if p.1=k then(p.1,x) else p).2 (if q.1=k then(q.1,v) else q).2;rw[<- a.1];split
   . exact⟨rfl,h⟩
   . exact a) (RK.wY h t)
theorem RK.snoc{ρ :List Addr}{H:Hp}{k:Key}{x:PV}{v:V}(h:rel K ρ H x v): ∀{kvs:List (Key × PV)}{kws:List (Key × V)},RK K ρ H kvs kws->RK K ρ H (kvs++[(k,x)]) (kws++[(k,v)])
 | _,_,.nil=> .cons ⟨rfl,h⟩ .nil
 | _,_,.cons a t=> .cons a (RK.snoc h t)
theorem RK.put{ρ :List Addr}{H:Hp}{kvs:List (Key × PV)}{kws:List (Key × V)}{k:Key}{x:PV}{v:V}(r:RK K ρ H kvs kws)(h:rel K ρ H x v):RK K ρ H (eF kvs k x) (putK kws k v):=by
 unfold eF putK;rw[RK.any k r];split
 . exact RK.wY h r
 . exact RK.snoc h r
noncomputable def ao:PV->PV->PH->RV PV:=λx y h=>match x with
 | .tup xs=>(match y with
  | .int i=>(match cZ xs i with | some v=> .ok v h | none=> .no)
  | _=> .no)
 | .ktup xs=>(match y with
  | .int i=>(match cZ xs i with | some v=> .ok v h | none=> .no)
  | _=> .no)
 | .str z=>(match y with
  | .int i=>iw z.length (match cZ z.cps.toList i with | some c=> .ok (.str ⟨#[c]⟩) h | none=> .no)
  | _=> .no)
 | .ref n=>(match h[n]? with
  | some (.dct kvs)=>(match fO y with
   | some k=>(match bR kvs k with | some v=> .ok v h | none=> .no)
   | none=> .no)
  | some (.lst xs)=>(match y with
   | .int i=>(match cZ xs i with | some v=> .ok v h | none=> .no)
   | _=> .no)
  | some (.iu xs)=>(match y with
   | .int i=>(match cZ xs i with | some v=> .ok v h | none=> .no)
   | _=> .no)
  | none=> .no)
 | _=> .no
theorem aj.at{ρ :List Addr}{H:Hp}{xs:List PV}{vs:List V}{i:Int}{x:PV}(r:aj K ρ H xs vs)(e:cZ xs i=some x): ∃ v,cZ vs i=some v/\rel K ρ H x v:=by
 unfold cZ at e ⊢;rw[<- r.len];cases q:lD xs.length i with
 | none=>rw[q] at e;exact nomatch e
 | some j =>
  rw [q] at e
  exact r.get e
noncomputable def I0:R2:=λx y H Q=> ∃ a v,x= .ref a∧gp H a y (some v)∧Q v H
theorem tO (hu : X.A.units + 1 < cLine) : sk X I0 := by
  intro value slice pins s σ H x y v u Q I rx ry h hs;obtain ⟨a, w, rfl, g, q⟩ := h;obtain rfl : v = Value.ref a := rx;have hT : s.TypeIs (.ref a) "dict" := oA I g;unfold subscriptTail;refine wpAny_bind ?_;rw [getitemInPython_of_ne hT.not_modules];refine wpAny_bind (wpAny_specialOf hT PySem.F.slot_dict_getitem.lookup ?_);have fin : wpAny (model X.prog X.w) X.A (subscripted slice false (.ref a) u) (λr s₃ => wpAny (model X.prog X.w) X.A (letTemporaryGo value (.ref a) r >>= λ_ => pure r) (EP X pins σ Q) X.xe s₃) X.xe s := by
    rw [hs];exact wpAny_operating (sf hu I g ry λw' s' I' r' => wpAny_bind (wpAny_letTemporaryGo (wpAny_pure ⟨w, H, I', r', q⟩)))
  first
    | exact wpAny_pure (wpAny_bind fin)
    | exact wpAny_bind (wpAny_pure (wpAny_bind fin))
    | exact wpAny_bind fin
theorem cH.hu{X:Cx}{pg:Tb}{k:Nat}(A:cH X pg k):X.A.units+1 < cLine:=EK A.room
theorem Iq:cH X pg k-> ∃ r,sk X r/\lg X.K r ao:=λA=>⟨_,Bm.or (tO A.hu),fun ρ h H x y x' y' Q v h' s rx ry q P=>by
 cases x with
 | tup xs =>
  cases y with
  | int i =>
   simp only[ao] at q
   split at q
   . rename_i w e;cases q;obtain⟨a,vs,rfl,z,r⟩:=rel.seq (x:= .tup xs) rfl rx;obtain⟨u,e1,e2⟩:=r.at e;rw[rel] at ry;exact .inl (.inr (.inl ⟨a,vs,i,u,rfl,ry,z,e1,P _ ρ H (.refl _ _) s e2⟩))
   . exact nomatch q
  | _=>exact nomatch q
 | ktup xs =>
  cases y with
  | int i =>
   simp only[ao] at q
   split at q
   . rename_i w e;cases q;obtain⟨a,vs,rfl,z,r⟩:=rel.seq (x:= .ktup xs) rfl rx;obtain⟨u,e1,e2⟩:=r.at e;rw[rel] at ry;exact .inl (.inr (.inl ⟨a,vs,i,u,rfl,ry,z,e1,P _ ρ H (.refl _ _) s e2⟩))
   . exact nomatch q
  | _=>exact nomatch q
 | str z =>
  cases y with
  | int i =>
   simp only[ao] at q
   obtain⟨hl,q⟩:=gK.mp q
   split at q
   . rename_i c e;cases q;rw[rel] at ry;rw[rel] at rx;exact .inl (.inr (.inr ⟨z,i,c,rx,ry,hl,e,P _ ρ H (.refl _ _) s (by rw[rel])⟩))
   . exact nomatch q
  | _=>exact nomatch q
 | ref n =>
  simp only[ao] at q
  split at q
  . rename_i kvs e;split at q
    . rename_i key ek;split at q
      . rename_i w ew;cases q;rw[rel] at rx;obtain⟨a,ea,rfl⟩:=rx;obtain⟨kws,e1,e2⟩:=s.ob n _ a e ea;obtain⟨u,e3,e4⟩:=RK.some e2 ew;have:=eJ ek ry;subst this;exact .inr ⟨a,u,rfl,e3 ▸ gp.k (k:=key) e1,P _ ρ H (.refl _ _) s e4⟩
      . exact nomatch q
    . exact nomatch q
  . rename_i xs e;cases y with
    | int i =>
     simp only at q
     split at q
     . rename_i w ew;cases q;obtain⟨a,vs,rfl,_,z,r⟩:=s.lst e rx;obtain⟨u,e1,e2⟩:=r.at ew;rw[rel] at ry;exact .inl (.inl ⟨a,vs,i,u,rfl,ry,.of z,e1,P _ ρ H (.refl _ _) s e2⟩)
     . exact nomatch q
    | _=>exact nomatch q
  . rename_i xs e;cases y with
    | int i =>
     simp only at q
     split at q
     . rename_i w ew;cases q;obtain⟨a,vs,rfl,_,z,r⟩:=s.iu e rx;obtain⟨u,e1,e2⟩:=r.at ew;rw[rel] at ry;exact .inl (.inl ⟨a,vs,i,u,rfl,ry,z,e1,P _ ρ H (.refl _ _) s e2⟩)
     . exact nomatch q
    | _=>exact nomatch q
  . exact nomatch q
 | _=>exact nomatch q⟩
theorem ED{f:PV->PV->PH->RV PV}{a b:Expr}{ma mb:ME}{pos:Pos}(hr:cH X pg k-> ∃ r,sk X r/\lg X.K r f)(ha:JE X pg k a ma)(hb:JE X pg k b mb)(hs:m5 b):JE X pg k (.Subscript a b pos) (ag f ma mb):=⟨λA =>
 let ⟨_,q1,s1⟩:=ha.h A;let ⟨_,q2,s2⟩:=hb.h A;let ⟨_,q,s⟩:=hr A;⟨_,GR q q1 q2 hs,rQ s s1 s2⟩⟩
noncomputable def kr:PV->PV->PV->PH->RV Unit:=λx y v h=>match x with
 | .ref n=>(match h[n]? with
  | some (.dct kvs)=>(match fO y with
   | some k=>if kvs.length < sizeLine then .ok () (h.set n (.dct (eF kvs k v))) else .no
   | none=> .no)
  | some (.lst xs)=>(match y with
   | .int i=>(match lD xs.length i with | some j=> .ok () (h.set n (.lst (xs.set j v))) | none=> .no)
   | _=> .no)
  | _=> .no)
 | _=> .no
noncomputable def EN:uB:=λo i v H Q=> ∃ a H',o= .ref a/\p8 H a i v H'/\Q H'
theorem set_dict(hu:X.A.units+1 < cLine):lB X EN:=by
 intro pins s σ H o i v ov iv u Q I ro ri rv h;obtain⟨a,H',rfl,g,q⟩:=h;obtain rfl:ov=Value.ref a:=ro;exact tW hu I g ri rv λs' I'=>⟨H',I',q⟩
theorem lB.or{t t':uB}(h:lB X t)(h':lB X t'):lB X (λo i v H Q=>t o i v H Q\/t' o i v H Q):=by
 intro pins s σ H o i v ov iv u Q I ro ri rv q;rcases q with q | q
 . exact h pins s σ H o i v ov iv u Q I ro ri rv q
 . exact h' pins s σ H o i v ov iv u Q I ro ri rv q
theorem EV:cH X pg k-> ∃ t,lB X t/\ ∀ ρ h H x y v x' y' v' u h' Q,b6 X.K ρ h H->rel X.K ρ H x x'->rel X.K ρ H y y'->rel X.K ρ H v v'->kr x y v h= .ok u h'->jA X.K ρ H h' Q->t x' y' v' H Q:=λA =>
 ⟨_,lB.or set_list (set_dict A.hu),fun ρ h H x y v x' y' v' u h' Q s rx ry rv q P=>by
 cases x with
 | ref n =>
  simp only[kr] at q
  rw[rel] at rx
  obtain⟨a,ea,rfl⟩:=rx
  split at q
  . rename_i kvs e;split at q
    . rename_i key ek;split at q
      . rename_i hl;cases q;obtain⟨kws,e1,e2⟩:=s.ob n _ a e ea;have:=eJ ek ry;subst this;refine .inr ⟨a,_,rfl,p8.k e1 (by rw[<- RK.len e2];exact hl),?_⟩;have g:Gr ρ H ρ (upd H a (.dK (putK kws key v'))):=Gr.write (.inr ⟨_,e1⟩);exact P ρ _ g (s.write e ea rfl rfl ⟨_,bh,Paired.gi g (RK.put e2 rv)⟩)
      . exact nomatch q
    . exact nomatch q
  . rename_i xs e;cases y with
    | int i =>
     simp only at q
     split at q
     . rename_i j ej;cases q;obtain⟨vs,e1,e2⟩:=s.ob n _ a e ea;rw[rel] at ry;have g:Gr ρ H ρ (upd H a (.lst (vs.set j v'))):=Gr.write (.inl ⟨_,e1⟩);exact .inl ⟨a,vs,i,j,rfl,ry,e1,by rw[<- e2.len];exact ej,P ρ _ g (s.write e ea rfl rfl ⟨_,bh,aj.gr g _ _ (e2.set j rv)⟩)⟩
     . exact nomatch q
    | _=>exact nomatch q
  . exact nomatch q
 | _=>exact nomatch q⟩
end
mutual
def bo(K:PySem.W.Frag)(H:Hp):PyData->V->Prop
 | .none,v=>v= .non
 | .bool b,v=>v= .bl b
 | .int i,v=>v= .int i
 | .str x,v=>v= .str x
 | .list xs,v=> ∃ a vs,v= .ref a/\eU K H a vs/\dF K H xs vs
 | .tuple xs,v=> ∃ a vs,v= .ref a/\fk K H a vs/\dF K H xs vs
 | .dict _,_=>False
def dF(K:PySem.W.Frag)(H:Hp):List PyData->List V->Prop
 | [],vs=>vs=[]
 | x::r,vs=> ∃ v t,vs=v::t/\bo K H x v/\dF K H r t
end
mutual
theorem bo.reads{X:Cx}{pins:List (Addr × Obj)}{σ :L2.St}{H:Hp}{s:Shared}(I:Inv X pins σ H s): ∀(d:PyData)(v:V)(u:Value),bo X.K H d v->RelV v u-> ∃ as,Reads s.heap u d as
 | .none,v,u,h,r=>by rw[bo] at h;subst h;cases(show u=Value.none from r);exact⟨_,.none⟩
 | .bool b,v,u,h,r=>by rw[bo] at h;subst h;cases(show u=Value.bool b from r);exact⟨_,.bool b⟩
 | .int i,v,u,h,r=>by rw[bo] at h;subst h;obtain⟨t,rfl⟩:=(show ∃ t,u=Value.int i t from r);exact⟨_,.int i t⟩
 | .str x,v,u,h,r=>by rw[bo] at h;subst h;obtain⟨t,rfl⟩:=(show ∃ t,u=Value.str x t from r);exact⟨_,.str x t⟩
 | .list xs,v,u,h,r=>by
  rw[bo] at h;obtain⟨a,vs,rfl,z,q⟩:=h;cases(show u=Value.ref a from r);obtain⟨ak,rv,⟨o,n,e,c,_,dd⟩,_⟩:=I.list z;obtain⟨as,ra⟩:=dF.reads I xs vs ak q rv;exact⟨_,.list e c dd (by simpa using ra)⟩
 | .tuple xs,v,u,h,r=>by
  rw[bo] at h;obtain⟨a,vs,rfl,z,q⟩:=h;cases(show u=Value.ref a from r);obtain⟨ak,rv,⟨o,e,c,n,dd⟩,_⟩:=I.tuple z;obtain⟨as,ra⟩:=dF.reads I xs vs ak q rv;exact⟨_,.tuple e c dd (by simpa using ra)⟩
 | .dict _,v,u,h,r=>by rw[bo] at h;exact h.elim
theorem dF.reads{X:Cx}{pins:List (Addr × Obj)}{σ :L2.St}{H:Hp}{s:Shared}(I:Inv X pins σ H s): ∀(xs:List PyData)(vs:List V)(us:List Value),dF X.K H xs vs->Vals vs us-> ∃ as,ReadsAll s.heap us xs as
 | [],vs,us,h,r=>by rw[dF] at h;subst h;cases r;exact⟨_,.nil⟩
 | x::t,vs,us,h,r=>by
  rw[dF] at h;obtain⟨v,w,rfl,h1,h2⟩:=h;cases r with
  | cons r1 r2 =>
   obtain⟨as,a⟩:=bo.reads I x v _ h1 r1
   obtain⟨bs,b⟩:=dF.reads I t w _ h2 r2
   exact⟨_,.cons a b⟩
end
mutual
def g8(sub:Nat->Option PyData):PV->Option PyData
 | .non=>some .none
 | .bl b=>some (.bool b)
 | .int i=>some (.int i)
 | .str x=>some (.str x)
 | .tup xs=>(bP sub xs).map .tuple
 | .ktup xs=>(bP sub xs).map .tuple
 | .ref n=>sub n
 | .ty _=>none
def bP(sub:Nat->Option PyData):List PV->Option (List PyData)
 | []=>some []
 | x::r=>match g8 sub x,bP sub r with
  | some d1,some ds1=>some (d1::ds1)
  | _,_=>none
end
noncomputable def dat:Nat->PH->PV->Option PyData
 | 0,_=>g8 λ_=>none
 | n+1,h=>g8 λm=>match h[m]? with
  | some (.lst xs)=>(bP (λj=>dat n h (.ref j)) xs).map .list
  | some (.iu xs)=>(bP (λj=>dat n h (.ref j)) xs).map .list
  | _=>none
mutual
theorem g8.v{K:PySem.W.Frag}{ρ :List Addr}{H:Hp}{sub:Nat->Option PyData}(hs: ∀ n d v,sub n=some d->rel K ρ H (.ref n) v->bo K H d v): ∀(x:PV)(d:PyData)(v:V),g8 sub x=some d->rel K ρ H x v->bo K H d v
 | .non,d,v,e,r=>by cases e;rw[rel] at r;rw[bo];exact r
 | .bl b,d,v,e,r=>by cases e;rw[rel] at r;rw[bo];exact r
 | .int b,d,v,e,r=>by cases e;rw[rel] at r;rw[bo];exact r
 | .str b,d,v,e,r=>by cases e;rw[rel] at r;rw[bo];exact r
 | .ty b,d,v,e,r=>by exact nomatch e
 | .ref n,d,v,e,r=>hs n d v e r
 | .tup xs,d,v,e,r=>by
  rw[g8] at e;cases q:bP sub xs with
  | none=>rw[q] at e;exact nomatch e
  | some ds =>
   rw[q] at e;cases e
   obtain⟨a,vs,e1,e2,e3⟩:=rel.seq (x:= .tup xs) rfl r
   rw[bo];exact⟨a,vs,e1,e2,bP.v hs xs ds vs q e3⟩
 | .ktup xs,d,v,e,r=>by
  rw[g8] at e;cases q:bP sub xs with
  | none=>rw[q] at e;exact nomatch e
  | some ds =>
   rw[q] at e;cases e
   obtain⟨a,vs,e1,e2,e3⟩:=rel.seq (x:= .ktup xs) rfl r
   rw[bo];exact⟨a,vs,e1,e2,bP.v hs xs ds vs q e3⟩
theorem bP.v{K:PySem.W.Frag}{ρ :List Addr}{H:Hp}{sub:Nat->Option PyData}(hs: ∀ n d v,sub n=some d->rel K ρ H (.ref n) v->bo K H d v): ∀(xs:List PV)(ds:List PyData)(vs:List V),bP sub xs=some ds->aj K ρ H xs vs->dF K H ds vs
 | [],ds,vs,e,r=>by cases e;rw[aj] at r;rw[dF];exact r
 | x::t,ds,vs,e,r=>by
  rw[bP] at e;split at e
  . rename_i d ds' e1 e2;cases e;obtain⟨v,w,rfl,r1,r2⟩:=au.mp r;rw[dF];exact⟨v,w,rfl,g8.v hs x d v e1 r1,bP.v hs t ds' w e2 r2⟩
  . exact nomatch e
end
theorem dat.v{K:PySem.W.Frag}{ρ :List Addr}{h:PH}{H:Hp}(s:b6 K ρ h H): ∀(n:Nat)(x:PV)(d:PyData)(v:V),dat n h x=some d->rel K ρ H x v->bo K H d v
 | 0,x,d,v,e,r=>g8.v (λ_ _ _ z _=>by cases z) x d v e r
 | n+1,x,d,v,e,r=>by
  refine g8.v (λm d' v' z rv=>?_) x d v e r;split at z
  . rename_i xs em;cases q:bP (λj=>dat n h (.ref j)) xs with
    | none=>rw[q] at z;exact nomatch z
    | some ds =>
     rw[q] at z;cases z
     obtain⟨a,vs,e1,_,e2,e3⟩:=s.lst em rv
     rw[bo];exact⟨a,vs,e1,.of e2,bP.v (λj d v z rv=>dat.v s n (.ref j) d v z rv) xs ds vs q e3⟩
  . rename_i xs em;cases q:bP (λj=>dat n h (.ref j)) xs with
    | none=>rw[q] at z;exact nomatch z
    | some ds =>
     rw[q] at z;cases z
     obtain⟨a,vs,e1,_,e2,e3⟩:=s.iu em rv
     rw[bo];exact⟨a,vs,e1,e2,bP.v (λj d v z rv=>dat.v s n (.ref j) d v z rv) xs ds vs q e3⟩
  . exact nomatch z
section
variable{K:PySem.W.Frag}{X:Cx}{pg:Tb}{k:Nat}
noncomputable def FF(K:PySem.W.Frag)(f:Bool->Bool):R2:=λx y H Q=> ∃ d d',bo K H d x/\bo K H d' y/\d.canLay0=true/\d'.canLay0=true/\min d.depth d'.depth<=64/\Q (.bl (f (PyData.eqv d d'))) H
theorem En(hr:X.A.units+64 < cLine):cI X (compareOp .Eq) (FF X.K id):=by
 intro pins s σ H x y v u Q I rx ry ⟨d,d',h1,h2,c1,c2,hd,q⟩;obtain⟨as,ra⟩:=bo.reads I d x v h1 rx;obtain⟨bs,rb⟩:=bo.reads I d' y u h2 ry;exact SeqAt.compareEq_reads ra rb c1 c2 (by omega) ⟨.bl _,H,I,rfl,q⟩
theorem Bq(hr:X.A.units+64 < cLine):cI X (compareOp .NotEq) (FF X.K not):=by
 intro pins s σ H x y v u Q I rx ry ⟨d,d',h1,h2,c1,c2,hd,q⟩;obtain⟨as,ra⟩:=bo.reads I d x v h1 rx;obtain⟨bs,rb⟩:=bo.reads I d' y u h2 ry;exact SeqAt.compareNe_reads ra rb c1 c2 (by omega) ⟨.bl _,H,I,rfl,q⟩
noncomputable def gR:PV->PV->Bool
 | .non,.non=>true | .non,.int _=>true | .int _,.non=>true | .non,.bl _=>true | .bl _,.non=>true | .non,.str _=>true | .str _,.non=>true
 | .int _,.int _=>true | .bl _,.bl _=>true | .str _,.str _=>true
 | .int _,.str _=>true | .str _,.int _=>true | .bl _,.str _=>true | .str _,.bl _=>true
 | _,_=>false
noncomputable def fq(h:PH):PV->Bool
 | .ref n=>(match h[n]? with
  | some (.dct _)=>true
  | _=>false)
 | _=>false
noncomputable def isStr:PV->Bool
 | .str _=>true
 | _=>false
noncomputable def alike(x y:PV)(h:PH):Option Bool :=
 if gR x y=true then some (decide (x=y)) else match dat 6 h x,dat 6 h y with
  | some a,some b=>if a.canLay0=true/\b.canLay0=true/\min a.depth b.depth<=64 then some (PyData.eqv a b) else none
  | _,_=>if fq h x=true/\isStr y=true then some false else none
noncomputable def dh(x y:PV)(h:PH):RV PV:=match alike x y h with
 | some b=> .ok (.bl b) h
 | none=> .no
noncomputable def jD (x y:PV) (h:PH):RV PV:=match alike x y h with
 | some b=>if fq h x=true then .no else .ok (.bl (!b)) h
 | none=> .no
theorem vz {ρ : List Addr} {H : Hp} {x y : PV} {x' y' : V} (h : gR x y = true) (rx : rel K ρ H x x') (ry : rel K ρ H y y') : wF x' y' = true /\ decide (x' = y') = decide (x = y) := by
  cases x <;> cases y <;> first
    | (exfalso; revert h; simp [gR]; done)
    | (rw [rel] at rx; rw [rel] at ry; subst rx; subst ry; simp [wF])
theorem jX{ρ :List Addr}{h:PH}{H:Hp}{x y:PV}{x' y':V}{b:Bool}(s:b6 K ρ h H)(rx:rel K ρ H x x')(ry:rel K ρ H y y')(e:alike x y h=some b) :
  (wF x' y'=true/\b=decide (x'=y'))\/(∃ d d',bo K H d x'/\bo K H d' y'/\d.canLay0=true/\d'.canLay0=true/\min d.depth d'.depth<=64/\b=PyData.eqv d d') \/
  (fq h x=true/\b=false/\ ∃ p z,x'= .ref p/\y'= .str z/\ ∃ kvs,H p=some (.dK kvs)):=by
 unfold alike at e;split at e
 . rename_i hs;cases e;obtain⟨z,w⟩:=vz hs rx ry;exact .inl ⟨z,w.symm⟩
 . split at e
   . rename_i a c e1 e2;split at e
     . rename_i hc;cases e;exact .inr (.inl ⟨a,c,dat.v s 6 x a x' e1 rx,dat.v s 6 y c y' e2 ry,hc.1,hc.2.1,hc.2.2,rfl⟩)
     . exact nomatch e
   . split at e
     . rename_i hc;cases e;refine .inr (.inr ⟨hc.1,rfl,?_⟩);obtain⟨c1,c2⟩:=hc;cases x with
       | ref n =>
        cases y with
        | str z =>
         rw[rel] at ry
         rw[rel] at rx
         obtain⟨a,ea,rfl⟩:=rx
         simp only[fq] at c1
         split at c1
         . rename_i kvs en;obtain⟨kws,e1,_⟩:=s.ob n _ a en ea;exact⟨a,z,rfl,ry,kws,e1⟩
         . exact nomatch c1
        | _=>exact nomatch c2
       | _=>exact nomatch c1
     . exact nomatch e
theorem Ho:cH X pg k-> ∃ r,cI X (compareOp .Eq) r/\lg X.K r dh:=λA=>⟨_,GP.or ((En A.room.units).or (xx A.room.Bn)),fun ρ h H x y x' y' Q v h' s rx ry q P=>by
 unfold dh at q;split at q
 . rename_i b e;cases q;have fin:Q (.bl b) H:=P _ ρ H (.refl _ _) s (by rw[rel]);rcases jX s rx ry e with⟨z,rfl⟩ | ⟨d,d',h1,h2,h3,h4,h5,rfl⟩ | ⟨_,rfl,p,z,e1,e2,kvs,e3⟩
   . exact .inl ⟨z,fin⟩
   . exact .inr (.inl ⟨d,d',h1,h2,h3,h4,h5,fin⟩)
   . exact .inr (.inr ⟨p,z,e1,e2,.inr (.inr ⟨kvs,e3⟩),fin⟩)
 . exact nomatch q⟩
theorem Ih:cH X pg k-> ∃ r,cI X (compareOp .NotEq) r/\lg X.K r jD:=λA=>⟨_,Gk.or (Bq A.room.units),fun ρ h H x y x' y' Q v h' s rx ry q P=>by
 unfold jD at q;split at q
 . rename_i b e;split at q
   . exact nomatch q
   . rename_i hd;cases q;have fin:Q (.bl (!b)) H:=P _ ρ H (.refl _ _) s (by rw[rel]);rcases jX s rx ry e with⟨z,rfl⟩ | ⟨d,d',h1,h2,h3,h4,h5,rfl⟩ | ⟨z,_⟩
     . exact .inl ⟨z,fin⟩
     . exact .inr ⟨d,d',h1,h2,h3,h4,h5,fin⟩
     . exact absurd z hd
 . exact nomatch q⟩
noncomputable def G1(K:PySem.W.Frag)(f:Bool->Bool):R2:=λx y H Q=> ∃ p vs xs d,y= .ref p/\(eU K H p vs\/fk K H p vs)/\dF K H xs vs/\bo K H d x/\PyData.canLayAll0 xs=true/\d.canLay0=true/\min (PyData.depthAll xs) d.depth<=60/\Q (.bl (f (xs.any λz=>PyData.eqv z d))) H
theorem Dv(hr:X.A.units+64 < cLine):cI X (compareOp .In) (G1 X.K id):=by
 intro pins s σ H x y v u Q I rx ry ⟨p,vs,xs,d,e,hq,h1,h2,c1,c2,hd,q⟩;subst e;obtain⟨bs,rb⟩:=bo.reads I d x v h2 rx;rcases hq with hq | hq
 . obtain⟨as,ra⟩:=bo.reads I (.list xs) (.ref p) u (by rw[bo];exact⟨p,vs,rfl,hq,h1⟩) ry;exact SeqAt.in_list_reads ra rb c1 c2 (by omega) ⟨.bl _,H,I,rfl,q⟩
 . obtain⟨as,ra⟩:=bo.reads I (.tuple xs) (.ref p) u (by rw[bo];exact⟨p,vs,rfl,hq,h1⟩) ry;exact SeqAt.in_tuple_reads ra rb c1 c2 (by omega) ⟨.bl _,H,I,rfl,q⟩
theorem tP(hr:X.A.units+64 < cLine):cI X (compareOp .NotIn) (G1 X.K not):=by
 intro pins s σ H x y v u Q I rx ry ⟨p,vs,xs,d,e,hq,h1,h2,c1,c2,hd,q⟩;subst e;obtain⟨bs,rb⟩:=bo.reads I d x v h2 rx;rcases hq with hq | hq
 . obtain⟨as,ra⟩:=bo.reads I (.list xs) (.ref p) u (by rw[bo];exact⟨p,vs,rfl,hq,h1⟩) ry;exact SeqAt.notIn_list_reads ra rb c1 c2 (by omega) ⟨.bl _,H,I,rfl,q⟩
 . obtain⟨as,ra⟩:=bo.reads I (.tuple xs) (.ref p) u (by rw[bo];exact⟨p,vs,rfl,hq,h1⟩) ry;exact SeqAt.notIn_tuple_reads ra rb c1 c2 (by omega) ⟨.bl _,H,I,rfl,q⟩
noncomputable def Gh(f:Bool->Bool):R2:=λx y H Q=> ∃ a o,y= .ref a/\gp H a x o/\Q (.bl (f o.isSome)) H
theorem Dk(hu:X.A.units+1 < cLine):cI X (compareOp .In) (Gh id):=by
 intro pins s σ H x y v u Q I rx ry ⟨a,o,e,g,q⟩;subst e;obtain rfl:u=Value.ref a:=ry;exact HE hu I g rx λs' I'=>⟨.bl _,H,I',rfl,q⟩
theorem tY(hu:X.A.units+1 < cLine):cI X (compareOp .NotIn) (Gh not):=by
 intro pins s σ H x y v u Q I rx ry ⟨a,o,e,g,q⟩;subst e;obtain rfl:u=Value.ref a:=ry;exact zH hu I g rx λs' I'=>⟨.bl _,H,I',rfl,q⟩
noncomputable def itemsOf(h:PH):PV->Option (List PV)
 | .tup xs=>some xs
 | .ktup xs=>some xs
 | .ref n=>bV h n
 | _=>none
theorem b6.items{ρ :List Addr}{h:PH}{H:Hp}(s:b6 K ρ h H){x:PV}{xs:List PV}{v:V}(e:itemsOf h x=some xs)(r:rel K ρ H x v): ∃ a vs,v= .ref a/\(eU K H a vs\/fk K H a vs)/\aj K ρ H xs vs:=by
 cases x with
 | tup ys=>cases e;obtain⟨a,vs,e1,e2,e3⟩:=rel.seq (x:= .tup xs) rfl r;exact⟨a,vs,e1,.inr e2,e3⟩
 | ktup ys=>cases e;obtain⟨a,vs,e1,e2,e3⟩:=rel.seq (x:= .ktup xs) rfl r;exact⟨a,vs,e1,.inr e2,e3⟩
 | ref n=>obtain⟨a,vs,e1,_,e2,e3⟩:=s.sq e r;exact⟨a,vs,e1,.inl e2,e3⟩
 | _=>exact nomatch e
noncomputable def dZ:PV->Bool
 | .non=>true
 | .bl _=>true
 | .int _=>true
 | .str _=>true
 | _=>false
noncomputable def Et:PV->PV->Bool
 | .non,.non=>true
 | .bl a,.bl b=>a == b
 | .bl a,.int b=>(if a then 1 else 0) == b
 | .int a,.bl b=>a == (if b then 1 else 0)
 | .int a,.int b=>a == b
 | .str a,.str b=>a == b
 | _,_=>false
theorem oB {ρ :List Addr} {H:Hp} {x:PV} {v:V} (h:dZ x=true) (r:rel K ρ H x v):ft v=true:=by
 cases x<;>first | (exfalso;revert h;simp [dZ];done) | (rw [rel] at r;subst r;rfl)
theorem zT {ρ : List Addr} {H : Hp} {x y : PV} {v w : V} (hx : dZ x = true) (hy : dZ y = true) (rx : rel K ρ H x v) (ry : rel K ρ H y w) : Aq v w = Et x y := by
  cases x <;> first
    | (exfalso; revert hx; simp [dZ]; done)
    | (cases y <;> first
        | (exfalso; revert hy; simp[dZ]; done)
        | (rw[rel] at rx; rw[rel] at ry; subst rx; subst ry; rfl))
theorem AB{ρ :List Addr}{H:Hp}{x:PV}{v:V}(hx:dZ x=true)(rx:rel K ρ H x v): ∀{xs:List PV}{vs:List V},xs.all dZ=true->aj K ρ H xs vs->vs.all ft=true/\GW v vs=xs.any λz=>Et z x
 | [],vs,_,r=>by rw[aD] at r;subst r;exact⟨rfl,rfl⟩
 | y::t,vs,h,r=>by
  obtain⟨w,u,rfl,r1,r2⟩:=au.mp r;simp only[Bool.and_eq_true,List.all_cons] at h;obtain⟨a,b⟩:=AB hx rx h.2 r2;refine⟨by rw[List.all_cons,oB h.1 r1,a];rfl,?_⟩;unfold GW at b ⊢;rw[List.any_cons,List.any_cons,b,zT h.1 hx r1 rx]
noncomputable def isIn(x y:PV)(h:PH):Option Bool:=match itemsOf h y with
 | some xs=>if (dZ x&&xs.all dZ)=true then some (xs.any λz=>Et z x) else(match dat 6 h x,bP (λj=>dat 6 h (.ref j)) xs with
  | some d,some ds=>if PyData.canLayAll0 ds=true/\d.canLay0=true/\min (PyData.depthAll ds) d.depth<=60 then some (ds.any λz=>PyData.eqv z d) else none
  | _,_=>none)
 | none=>(match y with
  | .ref n=>(match h[n]? with
   | some (.dct kvs)=>(fO x).map λk=>(bR kvs k).isSome
   | _=>none)
  | .str j=>(match x with
   | .str i=>some (!(Builtin.Str.occurrences j i 0 j.length 1).isEmpty)
   | _=>none)
  | _=>none)
noncomputable def nK(x y:PV)(h:PH):RV PV:=match isIn x y h with
 | some b=> .ok (.bl b) h
 | none=> .no
noncomputable def jU(x y:PV)(h:PH):RV PV:=match isIn x y h with
 | some b=> .ok (.bl (!b)) h
 | none=> .no
theorem lR{ρ :List Addr}{h:PH}{H:Hp}{x y:PV}{x' y':V}{b:Bool}(s:b6 K ρ h H)(rx:rel K ρ H x x')(ry:rel K ρ H y y')(e:isIn x y h=some b) :
  (∃ p xs,y'= .ref p/\(eU K H p xs\/fk K H p xs)/\ft x'=true/\xs.all ft=true/\b=GW x' xs) \/
  (∃ p vs xs d,y'= .ref p/\(eU K H p vs\/fk K H p vs)/\dF K H xs vs/\bo K H d x'/\PyData.canLayAll0 xs=true/\d.canLay0=true/\min (PyData.depthAll xs) d.depth<=60/\b=xs.any λz=>PyData.eqv z d) \/
  (∃ a o,y'= .ref a/\gp H a x' o/\b=o.isSome) \/
  (∃ i j,x'= .str i/\y'= .str j/\b= !(Builtin.Str.occurrences j i 0 j.length 1).isEmpty):=by
 unfold isIn at e;split at e
 . rename_i xs ei;obtain⟨a,vs,rfl,z,r⟩:=s.items ei ry;split at e
   . rename_i hf;cases e;rw[Bool.and_eq_true] at hf;obtain⟨f1,f2⟩:=AB hf.1 rx hf.2 r;exact .inl ⟨a,vs,rfl,z,oB hf.1 rx,f1,f2.symm⟩
   . split at e
     . rename_i d ds e1 e2;split at e
       . rename_i hc;cases e;exact .inr (.inl ⟨a,vs,ds,d,rfl,z,bP.v (λj d v w rv=>dat.v s 6 (.ref j) d v w rv) xs ds vs e2 r,dat.v s 6 x d x' e1 rx,hc.1,hc.2.1,hc.2.2,rfl⟩)
       . exact nomatch e
     . exact nomatch e
 . split at e
   . rename_i n ei;split at e
     . rename_i kvs en;cases q:fO x with
       | none=>rw[q] at e;exact nomatch e
       | some key =>
        rw[q] at e
        cases e
        rw[rel] at ry
        obtain⟨a,ea,rfl⟩:=ry
        obtain⟨kws,e1,e2⟩:=s.ob n _ a en ea
        have:=eJ q rx
        subst this
        exact .inr (.inr (.inl ⟨a,_,rfl,gp.k (k:=key) e1,(RK.is key e2).symm⟩))
     . exact nomatch e
   . split at e
     . cases e;rw[rel] at rx;rw[rel] at ry;exact .inr (.inr (.inr ⟨_,_,rx,ry,rfl⟩))
     . exact nomatch e
   . exact nomatch e
theorem Hq:cH X pg k-> ∃ r,cI X (compareOp .In) r/\lg X.K r nK:=λA=>⟨_,rZ.or ((Dv A.room.units).or ((Dk A.hu).or su)),fun ρ h H x y x' y' Q v h' s rx ry q P=>by
 unfold nK at q;split at q
 . rename_i b e;cases q;have fin:Q (.bl b) H:=P _ ρ H (.refl _ _) s (by rw[rel]);rcases lR s rx ry e with⟨p,xs,e1,e2,e3,e4,rfl⟩ | ⟨p,vs,xs,d,e1,e2,e3,e4,e5,e6,e7,rfl⟩ | ⟨a,o,e1,e2,rfl⟩ | ⟨i,j,e1,e2,rfl⟩
   . exact .inl ⟨p,xs,e1,e2,e3,e4,fin⟩
   . exact .inr (.inl ⟨p,vs,xs,d,e1,e2,e3,e4,e5,e6,e7,fin⟩)
   . exact .inr (.inr (.inl ⟨a,o,e1,e2,fin⟩))
   . exact .inr (.inr (.inr ⟨i,j,e1,e2,fin⟩))
 . exact nomatch q⟩
theorem xA:cH X pg k-> ∃ r,cI X (compareOp .NotIn) r/\lg X.K r jU:=λA=>⟨_,mU.or ((tP A.room.units).or ((tY A.hu).or mP)),fun ρ h H x y x' y' Q v h' s rx ry q P=>by
 unfold jU at q;split at q
 . rename_i b e;cases q;have fin:Q (.bl (!b)) H:=P _ ρ H (.refl _ _) s (by rw[rel]);rcases lR s rx ry e with⟨p,xs,e1,e2,e3,e4,rfl⟩ | ⟨p,vs,xs,d,e1,e2,e3,e4,e5,e6,e7,rfl⟩ | ⟨a,o,e1,e2,rfl⟩ | ⟨i,j,e1,e2,rfl⟩
   . exact .inl ⟨p,xs,e1,e2,e3,e4,fin⟩
   . exact .inr (.inl ⟨p,vs,xs,d,e1,e2,e3,e4,e5,e6,e7,fin⟩)
   . exact .inr (.inr (.inl ⟨a,o,e1,e2,fin⟩))
   . exact .inr (.inr (.inr ⟨i,j,e1,e2,fin⟩))
 . exact nomatch q⟩
variable{a:Expr}{ma:ME}{pos pos':Pos}
end
section
variable{K:PySem.W.Frag}{X:Cx}{pg:Tb}{k:Nat}
abbrev MO:=CF->aq->PH->RV (Option Int)
noncomputable def ip:MO:=λ_ _ h=> .ok none h
noncomputable def eN(a:ME):MO:=λc e h=>(a c e h).bind λv h1=>match v with
 | .int i=> .ok (some i) h1
 | _=> .no
noncomputable def ef(xs:List PV)(lo hi:Option Int):List PV:=(xs.drop (HT.bU xs.length 0 lo)).take (HT.bU xs.length xs.length hi - HT.bU xs.length 0 lo)
noncomputable def AE(x:PV)(lo hi:Option Int)(h:PH):RV PV:=match x with
 | .tup xs=> .ok (.tup (ef xs lo hi)) h
 | .ref n=>(match bV h n with
  | some xs=> .ok (.ref h.length) (h++[.lst (ef xs lo hi)])
  | none=> .no)
 | _=> .no
noncomputable def vQ(a:ME)(l u:MO):ME:=λc e h=>(a c e h).bind λx h1=>(l c e h1).bind λlo h2=>(u c e h2).bind λhi h3=>AE x lo hi h3
structure JO(X:Cx)(pg:Tb)(k:Nat)(e:Option Expr)(m:MO):Prop where
 h:cH X pg k-> ∃ t,QO X e t/\ ∀ ρ h H e σ Q o h',b6 X.K ρ h H->cJ X.K ρ H e σ ->m (run pg k) e h= .ok o h'->jA X.K ρ H h' (Q o)->t σ H Q
theorem yD:JO X pg k none ip:=⟨λA=>⟨_,zG,fun ρ h H e σ Q o h' s r q P=>by cases q;exact P ρ H (.refl _ _) s⟩⟩
theorem Am{e:Expr}{ma:ME}(ha:JE X pg k e ma):JO X pg k (some e) (eN ma):=⟨λA=>let ⟨_,q1,s1⟩:=ha.h A;⟨_,yY q1,fun ρ h H e σ Q o h' s r q P=>by
 obtain⟨v,h1,e1,q⟩:=bind_eq.mp q;refine s1 ρ h H e σ _ v h1 s r e1 λv' ρ1 H1 g1 z1 r1=>?_;cases v with
 | int i=>cases q;rw[rel] at r1;exact⟨i,r1,P ρ1 H1 g1 z1⟩
 | _=>exact nomatch q⟩⟩
theorem aj.cut{ρ :List Addr}{H:Hp}{xs:List PV}{vs:List V}(r:aj K ρ H xs vs)(lo hi:Option Int):aj K ρ H (ef xs lo hi) (jC vs lo hi):=by
 unfold ef jC;rw[<- r.len];exact(r.drop _).take _
theorem uX{e:Expr}{lo hi:Option Expr}{ma:ME}{ml mu:MO}{p2 pos:Pos}(ha:JE X pg k e ma)(hl:JO X pg k lo ml)(hh:JO X pg k hi mu):JE X pg k (.Subscript e (.Slice lo hi none p2) pos) (vQ ma ml mu):=⟨λA =>
 let ⟨_,q1,s1⟩:=ha.h A;let ⟨_,q2,s2⟩:=hl.h A;let ⟨_,q3,s3⟩:=hh.h A;⟨_,vn Jj q1 q2 q3,fun ρ h H e σ Q v h' s r q P=>by
 obtain⟨x,h1,e1,q⟩:=bind_eq.mp q
 obtain⟨lo,h2,e2,q⟩:=bind_eq.mp q
 obtain⟨hi,h3,e3,q⟩:=bind_eq.mp q
 refine s1 ρ h H e σ _ x h1 s r e1 λx' ρ1 H1 g1 z1 r1=>?_
 refine s2 ρ1 h1 H1 e σ _ lo h2 z1 (r.gr g1) e2 fun ρ2 H2 g2 z2=>?_
 refine s3 ρ2 h2 H2 e σ _ hi h3 z2 (r.gr (g1.trans g2)) e3 fun ρ3 H3 g3 z3=>?_
 have r3:=rel.gr (K:=X.K) (g2.trans g3) _ _ r1
 have P3:=P.gr ((g1.trans g2).trans g3)
 cases x with
 | tup xs =>
  cases q
  rw[rel] at r3
  obtain⟨a,vs,rfl,d1,d2⟩:=r3
  by_cases hw:HT.bU vs.length 0 lo=0/\HT.bU vs.length vs.length hi=vs.length
  . refine .inr (.inr ⟨a,vs,rfl,.of d1,hw,P3 _ ρ3 H3 (.refl _ _) z3 ?_⟩);have:ef xs lo hi=xs:=by
     unfold ef;rw[d2.len,hw.1,hw.2,List.drop_zero,Nat.sub_zero,<- d2.len,List.take_length]
    rw[this,rel];exact⟨a,vs,rfl,d1,d2⟩
  . exact .inr (.inl ⟨a,vs,rfl,.of d1,hw,λp hp=>jK z3 (d2.cut lo hi) P3 p hp⟩)
 | ref n =>
  simp only[AE] at q
  split at q
  . rename_i xs en;cases q;obtain⟨a,vs,rfl,_,d1,d2⟩:=z3.sq en r3;exact .inl ⟨a,vs,rfl,d1,λp hp=>cX z3 (d2.cut lo hi) P3 p hp⟩
  . exact nomatch q
 | _=>exact nomatch q⟩⟩
noncomputable def bZ:List PV->PH->RV PV:=λxs h=>match xs with
 | [x]=>(match itemsOf h x with
  | some ys=> .ok (.int ys.length) h
  | none=>(match x with
   | .str z=>iw z.length (.ok (.int z.length) h)
   | .ref n=>(match h[n]? with
    | some (.dct kvs)=> .ok (.int kvs.length) h
    | _=> .no)
   | _=> .no))
 | _=> .no
theorem bp{ρ :List Addr}{H:Hp}{x:PV}{us:List V}(r:aj K ρ H [x] us): ∃ u,us=[u]/\rel K ρ H x u:=by
 obtain⟨v,t,rfl,r1,r2⟩:=au.mp r;rw[aD] at r2;exact⟨v,by rw[r2],r1⟩
theorem gX{ρ :List Addr}{H:Hp}{x y:PV}{us:List V}(r:aj K ρ H [x,y] us): ∃ u w,us=[u,w]/\rel K ρ H x u/\rel K ρ H y w:=by
 obtain⟨v,t,rfl,r1,r2⟩:=au.mp r;obtain⟨w,rfl,r3⟩:=bp r2;exact⟨v,w,rfl,r1,r3⟩
theorem GV:cH X pg k-> ∃ r,aM X (.builtin "len") r/\vH X.K r bZ:=λA=>⟨_,yA.or tD,fun ρ h H xs us Q v h' s r q P=>by
 unfold bZ at q;split at q
 . rename_i x;obtain⟨u,rfl,r1⟩:=bp r;have r:=r1;split at q
   . rename_i ys e;cases q;obtain⟨a,vs,rfl,z,r2⟩:=s.items e r;exact .inl (.inl ⟨a,vs,rfl,z,by rw[<- r2.len];exact P _ ρ H (.refl _ _) s (by rw[rel])⟩)
   . split at q
     . obtain⟨hl,q⟩:=gK.mp q;cases q;rw[rel] at r;subst r;exact .inl (.inr ⟨_,rfl,hl,P _ ρ H (.refl _ _) s (by rw[rel])⟩)
     . split at q
       . rename_i e;cases q;rw[rel] at r;obtain⟨a,ea,rfl⟩:=r;obtain⟨kws,e1,e2⟩:=s.ob _ _ a e ea;exact .inr ⟨a,kws,rfl,e1,by rw[<- RK.len e2];exact P _ ρ H (.refl _ _) s (by rw[rel])⟩
       . exact nomatch q
     . exact nomatch q
 . exact nomatch q⟩
inductive Ty where
 | non | bool | int | str | tuple | list | dict
 deriving DecidableEq
noncomputable def Ty.n:Ty->String
 | .non=> "NoneType" | .bool=> "bool" | .int=> "int" | .str=> "str" | .tuple=> "tuple" | .list=> "list" | .dict=> "dict"
noncomputable def Ty.of:String->Option Ty
 | "bool" =>some .bool | "int" =>some .int | "str" =>some .str | "tuple" =>some .tuple | "list" =>some .list | "dict" =>some .dict
 | _=>none
noncomputable def Ty.Fe(a b:Ty):Bool:=decide (a=b)||(decide (a= .bool)&&decide (b= .int))
noncomputable def tyP(h:PH):PV->Option Ty
 | .non=>some .non
 | .bl _=>some .bool
 | .int _=>some .int
 | .str _=>some .str
 | .tup _=>some .tuple
 | .ref n=>(match h[n]? with
  | some (.lst _)=>some .list
  | some (.dct _)=>some .dict
  | _=>none)
 | _=>none
theorem wm{ρ :List Addr}{h:PH}{H:Hp}{x:PV}{t:Ty}{v:V}(s:b6 K ρ h H)(e:tyP h x=some t)(r:rel K ρ H x v):gq K H v (.type t.n):=by
 cases x with
 | non=>cases e;rw[rel] at r;subst r;exact .non
 | bl b=>cases e;rw[rel] at r;subst r;exact .bl b
 | int i=>cases e;rw[rel] at r;subst r;exact .int i
 | str z=>cases e;rw[rel] at r;subst r;exact .str z
 | tup xs=>cases e;rw[rel] at r;obtain⟨a,vs,rfl,e1,_⟩:=r;exact .tup e1
 | ref n =>
  rw[rel] at r
  obtain⟨a,ea,rfl⟩:=r
  simp only[tyP] at e
  split at e
  . rename_i en;cases e;obtain⟨vs,e1,_⟩:=s.ob n _ a en ea;exact .lst e1
  . rename_i en;cases e;obtain⟨vs,e1,_⟩:=s.ob n _ a en ea;exact .dK e1
  . exact nomatch e
 | _=>exact nomatch e
theorem uW(a b:Ty)(hb:b≠ .non):PySem.W.kitOne K (.type a.n) (.type b.n)=some (a.Fe b):=by
 cases b<;>first | (exact absurd rfl hb) | (cases a<;>rfl)
theorem Ty.Fd{T:String}{t:Ty}(h:Ty.of T=some t):T=t.n/\t≠ .non:=by
 unfold Ty.of at h;split at h<;>first | (cases h;exact⟨rfl,by decide⟩) | exact nomatch h
noncomputable def rS:List PV->Option (List Ty)
 | []=>some []
 | .ty T::r=>(match Ty.of T,rS r with
  | some t,some ts=>some (t::ts)
  | _,_=>none)
 | _=>none
noncomputable def wo:List PV->PH->RV PV:=λxs h=>match xs with
 | [x,.ty T]=>(match tyP h x,Ty.of T with
  | some a,some b=> .ok (.bl (a.Fe b)) h
  | _,_=> .no)
 | [x,.tup ts]=>(match tyP h x,rS ts with
  | some a,some bs=> .ok (.bl (bs.any a.Fe)) h
  | _,_=> .no)
 | _=> .no
theorem rR{ρ :List Addr}{H:Hp}: ∀{ts:List PV}{bs:List Ty}{vs:List V},rS ts=some bs->aj K ρ H ts vs->vs=(bs.map Ty.n).map V.ty/\ ∀ b∈bs,b≠ .non
 | [],bs,vs,e,r=>by cases e;rw[aD] at r;subst r;exact⟨rfl,λ_ m=>by cases m⟩
 | .ty T::t,bs,vs,e,r=>by
  simp only[rS] at e;split at e
  . rename_i b bs' e1 e2;cases e;obtain⟨v,w,rfl,r1,r2⟩:=au.mp r;obtain⟨h1,h2⟩:=rR e2 r2;rw[rel] at r1;obtain⟨n1,n2⟩:=Ty.Fd e1;refine⟨by rw[r1,h1,n1];rfl,λc m=>?_⟩;rcases List.mem_cons.mp m with rfl | m
    . exact n2
    . exact h2 c m
  . exact nomatch e
 | .non::_,_,_,e,_=>nomatch e
 | .bl _::_,_,_,e,_=>nomatch e
 | .int _::_,_,_,e,_=>nomatch e
 | .str _::_,_,_,e,_=>nomatch e
 | .tup _::_,_,_,e,_=>nomatch e
 | .ktup _::_,_,_,e,_=>nomatch e
 | .ref _::_,_,_,e,_=>nomatch e
theorem qO(a:Ty): ∀(bs:List Ty),(∀ b∈bs,b≠ .non)->PySem.W.kitAny K (.type a.n) ((bs.map Ty.n).map Value.type)=some (bs.any a.Fe)
 | [],_=>rfl
 | b::r,h=>by
  have h1:=uW (K:=K) a b (h b List.mem_cons_self);have h2:=qO a r λc m=>h c (List.mem_cons_of_mem _ m);simp only[List.map_cons,List.any_cons,PySem.W.kitAny,h1,h2];cases a.Fe b<;>rfl
theorem F5:cH X pg k-> ∃ r,aM X (.builtin "isinstance") r/\vH X.K r wo:=λA=>⟨_,wX,fun ρ h H xs us Q v h' s r q P=>by
 unfold wo at q;split at q
 . rename_i x T;split at q
   . rename_i a b e1 e2;cases q;obtain⟨u,w,rfl,r1,r2⟩:=gX r;rw[rel] at r2;subst r2;obtain⟨n1,n2⟩:=Ty.Fd e2;exact .inl ⟨u,T,_,_,rfl,wm s e1 r1,by rw[n1];exact uW a b n2,P _ ρ H (.refl _ _) s (by rw[rel])⟩
   . exact nomatch q
 . rename_i x ts;split at q
   . rename_i a bs e1 e2;cases q;obtain⟨u,w,rfl,r1,r2⟩:=gX r;rw[rel] at r2;obtain⟨p,vs,rfl,e3,e4⟩:=r2;obtain⟨h1,h2⟩:=rR e2 e4;subst h1;exact .inr ⟨u,p,_,_,_,rfl,e3,wm s e1 r1,qO a bs h2,P _ ρ H (.refl _ _) s (by rw[rel])⟩
   . exact nomatch q
 . exact nomatch q⟩
noncomputable def ph:List PV->PH->RV PV:=λxs h=>match xs with
 | [.int i]=> .ok (.int i) h
 | [.bl b]=> .ok (.int (if b then 1 else 0)) h
 | _=> .no
theorem GI:cH X pg k-> ∃ r,aM X (.type "int") r/\vH X.K r ph:=λA=>⟨_,xN,fun ρ h H xs us Q v h' s r q P=>by
 unfold ph at q;split at q
 . cases q;obtain⟨u,rfl,r1⟩:=bp r;have r:=r1;rw[rel] at r;subst r;exact .inl ⟨_,rfl,P _ ρ H (.refl _ _) s (by rw[rel])⟩
 . cases q;obtain⟨u,rfl,r1⟩:=bp r;have r:=r1;rw[rel] at r;subst r;exact .inr ⟨_,rfl,P _ ρ H (.refl _ _) s (by rw[rel])⟩
 . exact nomatch q⟩
noncomputable def az:List PV->PH->RV PV:=λxs h=>match xs with
 | [.tup ys]=> .ok (.tup ys) h
 | [.ref n]=>(match bV h n with
  | some ys=> .ok (.tup ys) h
  | none=> .no)
 | _=> .no
theorem yH:cH X pg k-> ∃ r,aM X (.type "tuple") r/\vH X.K r az:=λA=>⟨_,Ai,fun ρ h H xs us Q v h' s r q P=>by
 unfold az at q;split at q
 . rename_i ys;cases q;obtain⟨u,rfl,r1⟩:=bp r;have r:=r1;have r':=r;rw[rel] at r;obtain⟨a,vs,rfl,e1,e2⟩:=r;exact⟨a,vs,rfl,.inr ⟨.of e1,P _ ρ H (.refl _ _) s r'⟩⟩
 . split at q
   . rename_i ys e;cases q;obtain⟨u,rfl,r1⟩:=bp r;have r:=r1;obtain⟨a,vs,rfl,_,e1,e2⟩:=s.sq e r;exact⟨a,vs,rfl,.inl ⟨e1,λp hp=>jK s e2 P p hp⟩⟩
   . exact nomatch q
 . exact nomatch q⟩
noncomputable def bN:PV->PH->Bool:=λx h=>match x with
 | .ref n=>(match h[n]? with
  | some (.lst _)=>true
  | _=>false)
 | _=>false
theorem uD{ρ :List Addr}{h:PH}{H:Hp}{x:PV}{v:V}(s:b6 K ρ h H)(r:rel K ρ H x v)(e:bN x h=true):Hc K "list" v H:=by
 cases x with
 | ref n =>
  simp only[bN] at e
  split at e
  . rename_i en;obtain⟨a,vs,rfl,_,e1,_⟩:=s.lst en r;exact .inl ⟨rfl,vs,.of e1⟩
  . exact nomatch e
 | _=>exact nomatch e
noncomputable def aQ:PV->List PV->PH->RV PV:=λx vs h=>match x,vs with
 | .ref n,[v]=>(match h[n]? with
  | some (.lst xs)=>if xs.length < sizeLine then .ok .non (h.set n (.lst (xs++[v]))) else .no
  | _=> .no)
 | _,_=> .no
theorem vF:cH X pg k-> ∃ r,FH X "list.append" r/\IP X.K "list" r aQ bN:=λA=>⟨_,sY,fun ρ h H x x' s r e=>uD s r e,fun ρ h H x x' xs us Q v h' s rx rs q P=>by
 unfold aQ at q;split at q
 . rename_i n y;split at q
   . rename_i ys en;split at q
     . rename_i hl;cases q;obtain⟨a,vs,rfl,ea,e1,e2⟩:=s.lst en rx;obtain⟨u,rfl,r⟩:=bp rs;have g:Gr ρ H ρ (upd H a (.lst (vs++[u]))):=Gr.write (.inl ⟨_,e1⟩);exact⟨a,vs,u,rfl,rfl,e1,by rw[<- e2.len];exact hl,P _ ρ _ g (s.write en ea rfl rfl ⟨_,bh,aj.gr g _ _ (e2.app (aj.one r))⟩) (by rw[rel])⟩
     . exact nomatch q
   . exact nomatch q
 . exact nomatch q⟩
end
section
variable{K:PySem.W.Frag}{X:Cx}{pg:Tb}{k:Nat}{tg l:Expr}
theorem mO{pins:List (Addr × Obj)}{σ :L2.St}{H:Hp}{s:Shared}(I:Inv X pins σ H s): ∀ b∈[s.heap.objs.size],lA X pins H b:=λb hb=>by
 have e:b=s.heap.objs.size:=by simpa using hb
 subst e;exact I.EL (Nat.le_refl _) (I.bc.fresh (Nat.le_refl _))
theorem vm{pins:List (Addr × Obj)}{σ :L2.St}{H:Hp}{s:Shared}{R:It->Hp->Prop}{a:Addr}{xs:List V}(I:Inv X pins σ H s)(hq:eU X.K H a xs)(q:R (Ib X.K a) H):wpAny (model X.prog X.w) X.A (pyIter (.ref a)) (Fu X pins σ tg R) X.xe s:=by
 obtain⟨ak,rv,p,hz⟩:=I.list hq;exact wpAny_pyIter_list p.isList ⟨s.heap.objs.size,[s.heap.objs.size],_,_,H,rfl,I.kept (t':=s.toks) (λb o e=>Heap.get?_push_of_some _ e),rW a _,⟨_,Heap.get?_push_size _ rfl,rfl,rfl⟩,mO I,q⟩
theorem uS{pins:List (Addr × Obj)}{σ :L2.St}{H:Hp}{s:Shared}{R:It->Hp->Prop}{a:Addr}{xs:List V}(I:Inv X pins σ H s)(hq:fk X.K H a xs)(q:R (uE X.K a) H):wpAny (model X.prog X.w) X.A (pyIter (.ref a)) (Fu X pins σ tg R) X.xe s:=by
 obtain⟨ak,rv,p,hz⟩:=I.tuple hq;exact wpAny_pyIter_tuple (show s.heap.IsTuple a ak.toArray from p) ⟨s.heap.objs.size,[s.heap.objs.size],_,_,H,rfl,I.kept (t':=s.toks) (λb o e=>Heap.get?_push_of_some _ e),qc a _,⟨_,Heap.get?_push_size _ rfl,rfl,rfl⟩,mO I,q⟩
theorem uy{pins:List (Addr × Obj)}{σ :L2.St}{H:Hp}{s:Shared}{R:It->Hp->Prop}{z:Str}{t:Tok}(I:Inv X pins σ H s)(q:R (Hm z) H):wpAny (model X.prog X.w) X.A (pyIter (.str z t)) (Fu X pins σ tg R) X.xe s:=by
 cases ha:z.cps.all (· < 128)
 . exact wpAny_pyIter_wide ha ⟨s.heap.objs.size,[s.heap.objs.size],_,_,H,rfl,I.kept (t':=s.toks) (λb o e=>Heap.get?_push_of_some _ e),nR z t _ (by decide) (λA' hA=>Walks.strWide hA _ z t) (λ_ _ _ _ _ st h=>wpAny_pyIter_striter_wide st h),⟨_,Heap.get?_push_size _ rfl,rfl,rfl⟩,mO I,q⟩
 . exact wpAny_pyIter_ascii ha ⟨s.heap.objs.size,[s.heap.objs.size],_,_,H,rfl,I.kept (t':=s.toks) (λb o e=>Heap.get?_push_of_some _ e),nR z t _ (by decide) (λA' hA=>Walks.strAscii hA _ z t) (λ_ _ _ _ _ st h=>wpAny_pyIter_striter_ascii st h),⟨_,Heap.get?_push_size _ rfl,rfl,rfl⟩,mO I,q⟩
noncomputable def GF(K:PySem.W.Frag)(tl:TE):TI:=fun σ H R=>tl σ H λx H1=>(∃ a xs,x= .ref a/\eU K H1 a xs/\R (Ib K a) H1)\/(∃ a xs,x= .ref a/\fk K H1 a xs/\R (uE K a) H1)\/ ∃ z,x= .str z/\R (Hm z) H1
theorem D2{tl:TE}(hl:PE X l tl):PI X tg l (GF X.K tl):=by
 intro pins s σ H R I h;refine cA (hl pins s σ H _ I h) λv s1 ⟨x,H1,I1,r1,q1⟩=>?_;rcases q1 with⟨a,xs,rfl,hq,q⟩ | ⟨a,xs,rfl,hq,q⟩ | ⟨z,rfl,q⟩
 . cases r1;exact vm I1 hq q
 . cases r1;exact uS I1 hq q
 . obtain⟨t,rfl⟩:=r1;exact uy I1 q
noncomputable def nc(x:PV)(h:PH):RV js:=match x with
 | .tup xs=> .ok ⟨none,xs⟩ h
 | .ktup xs=> .ok ⟨none,xs⟩ h
 | .str z=> .ok ⟨none,z.cps.toList.map λc=> .str ⟨#[c]⟩⟩ h
 | .ref n=>(match bV h n with
  | some xs=> .ok ⟨some n,xs⟩ h
  | none=> .no)
 | _=> .no
noncomputable def iJ(a:ME):MI:=λc e h=>(a c e h).bind nc
end
section
variable{X:Cx}{pg:Tb}{k:Nat}{tg l:Expr}{ma:ME}{ta:TE}
theorem El{c:CF}{K:PySem.W.Frag}(s1:SE c K ta ma):SI c K (GF K ta) (iJ ma):=fun ρ h H e σ R it h' s r q P=>by
 obtain⟨x,h1,e1,q⟩:=bind_eq.mp q;refine s1 ρ h H e σ _ x h1 s r e1 λx' ρ1 H1 g1 z1 r1=>?_;have tupc: ∀(xs:List PV),x.seq?=some xs->it=⟨none,xs⟩->h'=h1->(∃ a xs,x'= .ref a/\fk K H1 a xs/\R (uE K a) H1):=λxs ex ei eh=>by
  subst ei eh;obtain⟨a,vs,rfl,zz,rr⟩:=rel.seq ex r1;refine⟨a,vs,rfl,zz,P ρ1 H1 _ g1 z1 λi ρ2 h2 H2 g s _=>?_⟩;have z2:=g.Ja zz;have r2:=aj.gr g _ _ rr;refine⟨λy e=>?_,λe=>⟨vs,z2,by rw[e,<- rr.len];exact Nat.le_refl _⟩⟩;obtain⟨v,d1,d2⟩:=r2.get e;refine⟨⟨vs,v,z2,d1⟩,?_⟩;rintro w H' ⟨rfl,hw⟩;have:=hw vs z2;rw[d1] at this;cases this;exact⟨ρ2,.refl _ _,s,d2⟩
 cases x with
 | tup xs=>cases q;exact .inr (.inl (tupc xs rfl rfl rfl))
 | ktup xs=>cases q;exact .inr (.inl (tupc xs rfl rfl rfl))
 | str z =>
  cases q
  rw[rel] at r1
  refine .inr (.inr ⟨z,r1,P ρ1 H1 _ g1 z1 λi ρ2 h2 H2 g s _=>⟨λy e=>?_,λe=>by show i=z.cps.size;simpa using e⟩⟩)
  rw[List.getElem?_map] at e
  cases q:z.cps.toList[i]? with
  | none=>rw[q] at e;exact nomatch e
  | some c =>
   rw[q] at e
   cases e
   have hc:z.cps[i]?=some c:=by simpa using q
   refine⟨(Array.getElem?_eq_some_iff.mp hc).1,?_⟩
   rintro v H' ⟨rfl,c',e1,rfl⟩
   rw[hc] at e1
   cases e1
   exact⟨ρ2,.refl _ _,s,by rw[rel]⟩
 | ref n =>
  simp only[nc] at q
  split at q
  . rename_i xs en;cases q;obtain⟨a,vs,rfl,ea,zz,rr⟩:=z1.sq en r1;refine .inl ⟨a,vs,rfl,zz,P ρ1 H1 _ g1 z1 λi ρ2 h2 H2 g s hf=>?_⟩;have ea2:=g.pre _ _ ea;have hl:bV h2 n=some xs:=by
     have:h2[n]?=some (.lst xs)\/h2[n]?=some (.iu xs):=by simpa [js.gF] using hf
     unfold bV;rcases this with q | q<;>rw[q]
    obtain⟨a',vs2,e3,e4,z2,r2⟩:=s.sq hl (show rel K ρ2 H2 (.ref n) (.ref a) by rw[rel];exact⟨a,ea2,rfl⟩);cases e3;refine⟨λy e=>?_,λe=>⟨vs2,z2,by rw[e,<- r2.len];exact Nat.le_refl _⟩⟩;obtain⟨v,d1,d2⟩:=r2.get e;refine⟨⟨vs2,v,z2,d1⟩,?_⟩;rintro w H' ⟨rfl,hw⟩;have:=hw vs2 z2;rw[d1] at this;cases this;exact⟨ρ2,.refl _ _,s,d2⟩
  . exact nomatch q
 | _=>exact nomatch q
theorem Dg(ha:JE X pg k l ma):JI X pg k tg l (iJ ma):=⟨λA=>let ⟨_,q1,s1⟩:=ha.h A;⟨_,⟨D2 q1.h⟩,El s1⟩⟩
noncomputable def ax(lo:Int)(n:Nat):List PV:=(List.range n).map λ(i:Nat)=>PV.int (lo+(i:Int))
noncomputable def dw(r:MA):MI:=λc e h=>(r c e h).bind λvs h1=>match vs with
 | [.int j]=>if -(2 ^ 62)<=j/\j < 2 ^ 62 then .ok ⟨none,ax 0 j.toNat⟩ h1 else .no
 | _=> .no
theorem sH{K:PySem.W.Frag}{ρ :List Addr}{H:Hp}(lo:Int)(n:Nat):IA K ρ H (G3 lo n) ⟨none,ax lo n⟩:=λi ρ1 h1 H1 g s _=>by
 refine⟨λy e=>?_,λe=>by show n<=i;rw[e];simp[ax]⟩;unfold ax at e;rw[List.getElem?_map] at e;rcases Nat.lt_or_ge i n with z | z
 . rw[List.getElem?_range z] at e;cases e;exact⟨z,λv H' ⟨e1,e2⟩=>by subst e1;subst e2;exact⟨ρ1,.refl _ _,s,by rw[rel]⟩⟩
 . rw[List.getElem?_eq_none (by simpa using z)] at e;exact nomatch e
variable{a b:Expr}{p pos:Pos}{mr:MA}
theorem tI(hg:Gl X "range")(ha:JA X pg k [a] mr)(hs:starEach [a] X.env=[(false,eval a X.env)]:=by rfl):JI X pg k tg (.Call (.Name "range" p) [a] [] pos) (dw mr):=⟨λA =>
 let ⟨_,q1,s1⟩:=ha.h A;⟨_,⟨tH hg (A.blt _ (by decide)) q1.h hs⟩,fun ρ h H e σ R it h' s r q P=>by
 obtain⟨vs,h1,e1,q⟩:=bind_eq.mp q
 refine s1 ρ h H e σ _ vs h1 s r e1 λus ρ1 H1 g1 z1 r1=>?_
 split at q
 . rename_i j;split at q
   . rename_i hj;cases q;obtain⟨u,rfl,r2⟩:=bp r1;rw[rel] at r2;subst r2;exact⟨j,rfl,hj.1,hj.2,P ρ1 H1 _ g1 z1 (sH 0 _)⟩
   . exact nomatch q
 . exact nomatch q⟩⟩
abbrev MP:=CF->aq->PH->RV (List (Key × PV))
noncomputable def vW:MP:=λ_ _ h=> .ok [] h
noncomputable def df(a b:ME)(r:MP):MP:=λc e h=>(a c e h).bind λx h1=>match fO x with
 | some key=>(b c e h1).bind λv h2=>(r c e h2).bind λkvs h3=> .ok ((key,v)::kvs) h3
 | none=> .no
noncomputable def bG(kvs more:List (Key × PV)):List (Key × PV):=more.foldl (λacc kv=>eF acc kv.1 kv.2) kvs
noncomputable def oy(r:MP):ME:=λc e h=>(r c e (h++[.dct []])).bind λkvs h1=>if h1[h.length]?=some (.dct [])/\kvs.length<=15 then .ok (.ref h.length) (h1.set h.length (.dct (bG [] kvs))) else .no
structure JP(X:Cx)(pg:Tb)(k:Nat)(pos:Pos)(ks:List (Option Expr))(vs:List Expr)(m:MP):Prop where
 h:cH X pg k-> ∃ t,QP X pos ks vs t/\ ∀ ρ h H e σ Q kvs h',b6 X.K ρ h H->cJ X.K ρ H e σ ->m (run pg k) e h= .ok kvs h'->(∀ kws ρ' H',Gr ρ H ρ' H'->b6 X.K ρ' h' H'->RK X.K ρ' H' kvs kws->Q (kws.map λkv=>(kV kv.1,kv.2)) H')->iX t σ H Q
theorem Cp:JP X pg k pos [] [] vW:=⟨λA=>⟨_,ye,fun ρ h H e σ Q kvs h' s r q P=>by cases q;exact P [] ρ H (.refl _ _) s .nil⟩⟩
theorem xW{kk v:Expr}{ks:List (Option Expr)}{vs:List Expr}{mk mv:ME}{mp:MP}(hk:JE X pg k kk mk)(hv:JE X pg k v mv)(hr:JP X pg k pos ks vs mp):JP X pg k pos (some kk::ks) (v::vs) (df mk mv mp):=⟨λA =>
 let ⟨_,q1,s1⟩:=hk.h A;let ⟨_,q2,s2⟩:=hv.h A;let ⟨_,q3,s3⟩:=hr.h A;⟨_,wG q1 q2 q3,fun ρ h H e σ Q kvs h' s r q P=>by
 obtain⟨x,h1,e1,q⟩:=bind_eq.mp q
 refine s1 ρ h H e σ _ x h1 s r e1 λx' ρ1 H1 g1 z1 r1=>?_
 split at q
 . rename_i key ek;obtain⟨v,h2,e2,q⟩:=bind_eq.mp q;obtain⟨kvs',h3,e3,q⟩:=bind_eq.mp q;cases q;refine s2 ρ1 h1 H1 e σ _ v h2 z1 (r.gr g1) e2 λv' ρ2 H2 g2 z2 r2=>?_;refine s3 ρ2 h2 H2 e σ _ kvs' _ z2 (r.gr (g1.trans g2)) e3 λkws ρ3 H3 g3 z3 r3=>?_;have:=P ((key,v')::kws) ρ3 H3 ((g1.trans g2).trans g3) z3 (.cons ⟨rfl,rel.gr g3 _ _ r2⟩ r3);rw[eJ ek r1];exact this
 . exact nomatch q⟩⟩
theorem RK.merge{K:PySem.W.Frag}{ρ :List Addr}{H:Hp}: ∀{more:List (Key × PV)}{mw:List (Key × V)}{kvs:List (Key × PV)}{kws:List (Key × V)},RK K ρ H more mw->RK K ρ H kvs kws->RK K ρ H (bG kvs more) (bX kws mw)
 | _,_,_,_,.nil,r=>r
 | _,_,_,_,.cons (a:=p) (b:=q) a t,r=>by
  show RK K ρ H (bG (eF _ p.1 p.2) _) (bX (putK _ q.1 q.2) _);refine RK.merge t ?_;rw[<- a.1];exact RK.put r a.2
theorem zp{ks:List (Option Expr)}{vs:List Expr}{mp:MP}(h:JP X pg k pos ks vs mp)(hall:ks.all (·.isSome)=true)(hl:ks.length=vs.length)(h0:ks≠[])(h15:ks.length<=15):JE X pg k (.Dict ks vs pos) (oy mp):=⟨λA =>
 let ⟨_,q1,s1⟩:=h.h A;⟨_,yE q1 hall hl h0 h15,fun ρ h H e σ Q v h' s r q P p hp=>by
 obtain⟨kvs,h1,e1,q⟩:=bind_eq.mp q
 split at q
 . rename_i hc;cases q;have g0:Gr ρ H (ρ ++[p]) (upd H p (.dK [])):=Gr.new hp [p];have s0:b6 X.K (ρ ++[p]) (h++[.dct []]) (upd H p (.dK [])):=s.new hp ⟨[],bh,.nil⟩;refine s1 (ρ ++[p]) _ _ e σ _ kvs h1 s0 (r.gr g0) e1 λkws ρ1 H1 g1 z1 r1=>?_;have ep:(ρ ++[p])[h.length]?=some p:=by rw[<- s.len,List.getElem?_append_right (Nat.le_refl _)];simp
   have ep1:=g1.pre _ _ ep;obtain⟨kw0,e2,e3⟩:=z1.ob h.length _ p hc.1 ep1;cases e3;refine⟨e2,kws,rfl,by rw[<- RK.len r1];exact hc.2,?_⟩;have gw:Gr ρ1 H1 ρ1 (upd H1 p (.dK (bX [] kws))):=Gr.write (.inr ⟨_,e2⟩);refine P _ ρ1 _ ((g0.trans g1).trans gw) (z1.write hc.1 ep1 rfl rfl ⟨_,bh,RK.merge (Paired.gi gw r1) .nil⟩) ?_;rw[rel];exact⟨p,ep1,rfl⟩
 . exact nomatch q⟩⟩
noncomputable def nq:ME:=λ_ _ h=> .ok (.ref h.length) (h++[.dct []])
theorem vG:JE X pg k (.Dict [] [] pos) nq:=⟨λA=>⟨_,uC,fun ρ h H e σ Q v h' s r q P p hp=>by
 cases q;refine P _ (ρ ++[p]) _ (Gr.new hp [p]) (s.new hp ⟨[],bh,.nil⟩) ?_;rw[rel];exact⟨p,by rw[<- s.len,List.getElem?_append_right (Nat.le_refl _)];simp,rfl⟩⟩⟩
variable{x:Str}{kvs:List (Key × PV)}{i:Expr}{mi:ME}{pos':Pos}
noncomputable def rh(d a b:ME):ME:=λc e h=>(d c e h).bind λx h1=>if fq h1 x=true then(a c e h1).bind (λy h2=>(b c e h2).bind λz h3=>match x,fO y with
 | .ref n,some key=>(match h3[n]? with
  | some (.dct kvs)=> .ok ((bR kvs key).getD z) h3
  | _=> .no)
 | _,_=> .no) else .no
theorem yR{o e f:Expr}{md me mf:ME}{apos cpos:Pos}(ho:JE X pg k o md)(he:JE X pg k e me)(hf:JE X pg k f mf)(m:M2 X o "get" apos e f cpos):JE X pg k (.Call (.Attribute o "get" apos) [e,f] [] cpos) (rh md me mf):=⟨λA =>
 let ⟨_,q1,s1⟩:=ho.h A;let ⟨_,q2,s2⟩:=he.h A;let ⟨_,q3,s3⟩:=hf.h A;⟨_,wD A.hu q1 q2 q3 m,fun ρ h H e σ Q v h' s r q P=>by
 obtain⟨x,h1,e1,q⟩:=bind_eq.mp q
 refine s1 ρ h H e σ _ x h1 s r e1 λx' ρ1 H1 g1 z1 r1=>?_
 split at q
 . rename_i hd;obtain⟨y,h2,e2,q⟩:=bind_eq.mp q;obtain⟨z,h3,e3,q⟩:=bind_eq.mp q;cases x with
   | ref n =>
    rw[rel] at r1
    obtain⟨a,ea,rfl⟩:=r1
    refine⟨a,rfl,?_,?_⟩
    . simp only[fq] at hd;split at hd
      . rename_i kvs0 en;obtain⟨kws,d1,_⟩:=z1.ob n _ a en ea;exact .inl ⟨kws,.inl d1⟩
      . exact nomatch hd
    refine s2 ρ1 h1 H1 e σ _ y h2 z1 (r.gr g1) e2 λy' ρ2 H2 g2 z2 r2=>?_
    refine s3 ρ2 h2 H2 e σ _ z h3 z2 (r.gr (g1.trans g2)) e3 λz' ρ3 H3 g3 z3 r3=>?_
    cases ek:fO y with
    | none=>simp only[ek] at q;exact nomatch q
    | some key =>
     simp only[ek] at q
     split at q
     . rename_i kvs en;cases q;obtain⟨kws,d1,d2⟩:=z3.ob n _ a en (g3.pre _ _ (g2.pre _ _ ea));have:=eJ ek r2;subst this;refine⟨_,gp.k (k:=key) d1,P _ ρ3 H3 ((g1.trans g2).trans g3) z3 ?_⟩;have:=RK.val key d2;cases p1:bR kvs key<;>cases p2:eW kws key<;>rw[p1,p2] at this<;>first | exact r3 | exact this | exact False.elim this
     . exact nomatch q
   | _=>exact nomatch hd
 . exact nomatch q⟩⟩
end
section
variable{K:PySem.W.Frag}{X:Cx}{pg:Tb}{k:Nat}
noncomputable def pairP?:PV->Option (Key × PV)
 | .tup [a,v]=>(fO a).map λk=>(k,v)
 | _=>none
noncomputable def fK:List PV->Option (List (Key × PV))
 | []=>some []
 | x::r=>(match pairP? x,fK r with
  | some p,some ps=>some (p::ps)
  | _,_=>none)
section
variable{prog:Program}{w:World}{A:Around}{E:Value->Shared->Prop}{s:Shared}
theorem kh{p:Addr}{kvs:List (Key × Value)}{R:Value->Shared->Prop}(hS:(p == sysModules)=false)(hp:s.heap.DictOf (aE prog w) p kvs)(hz:kvs.length<=sizeLine)
  (q: ∀ g:Heap,g.DictOf (aE prog w) s.heap.objs.size (merged [] kvs)->(∀ b o,s.heap.get? b=some o->g.get? b=some o)->R (.ref s.heap.objs.size) { s with heap:=g }) :
  wpAny (model prog w) A (call (.type "dict") [.ref p]) R E s:=by
 let g0:=s.heap.push { cls:= .type "dict",data:= .dict #[] }
 have up: ∀ b o,s.heap.get? b=some o->g0.get? b=some o:=λb o e=>Heap.get?_push_of_some _ e;have dn:g0.DictOf (aE prog w) s.heap.objs.size []:=Heap.DictOf.new s.heap;have dp:g0.DictOf (aE prog w) p kvs:=hp.at λo e=>up p o e;have ne:s.heap.objs.size≠p:=λe=>by
  obtain⟨o,_,_,ho,_⟩:=hp;exact absurd (Heap.lt_size ho) (by rw[e];exact Nat.lt_irrefl _)
 refine callType_codes (Q₁ :=λz u=>z= .ref s.heap.objs.size/\u={ s with heap:=g0 }) F.kt_called_dict (F.kt_typeCall_dict_1 _) F.entry_dict_init (kt_code_dict_new _ ⟨rfl,rfl⟩) ?_;rintro obj s1 ⟨rfl,rfl⟩;refine⟨dn.typeIs,F.args_dict_init_2 _ _,?_⟩
 with_unfolding_all refine wpAny_bind (m:=Builtin.Dict.selfAndRest _ _) (wpAny_bind (wpAny_notOrdered_dict dn.typeIs (wpAny_pure ?_)))
 show wpAny _ _ (Builtin.Dict.updateFrom "dict.__init__" s.heap.objs.size (.ref p) [] .none) _ _ _;unfold Builtin.Dict.updateFrom Builtin.Dict.merge Builtin.Dict.readDirectly;refine wpAny_bind (wpAny_typeOf dp.typeIs ?_);rw[if_neg (by decide)];refine wpAny_bind (wpAny_bind (wpAny_bind (wpAny_isInstance dp.typeIs isSubtype_dict_dict ?_)));simp only[if_false,Bool.not_true,Bool.false_eq_true];refine wpAny_bind (wpAny_specialOf dp.typeIs F.slot_dict_iter.lookup (wpAny_pure ?_));simp only[if_true,beq_self_eq_true];refine wpAny_bind (wpAny_pure (wpAny_mergeDict (hsz:=by simpa using hz) ne hS dn dp λg dg _ sb=>?_));show wpAny _ _ (Builtin.Dict.addKeywords s.heap.objs.size [] >>= _) _ _ { s with heap:=g };exact wpAny_bind (wpAny_pure (wpAny_pure ⟨rfl,q g dg λb o e=>(sb.2 b (Nat.ne_of_lt (Heap.lt_size e))).trans (up b o e)⟩))
end
noncomputable def BK:List V->Hp->VK->Prop:=λxs H Q=> ∃ p kvs,xs=[.ref p]/\H p=some (.dK kvs)/\kvs.length<=sizeLine/\ ∀ d,H d=none->Q (.ref d) (upd H d (.dK (bX [] kvs)))
theorem pY:aM X (.type "dict") BK:=by
 intro pins s σ H xs us Q I r h;obtain⟨p,kvs,rfl,hp,hz,q⟩:=h;obtain⟨u,rfl,ru⟩:=vals1 r;cases(show u=Value.ref p from ru);obtain⟨z1,n1,vs,r1,d1⟩:=nX I.bc hp;refine kh n1 d1 (by rw[<- r1.length];exact z1) λg dd keep=>?_;have hle:(bX [] kvs).length<=sizeLine:=by have:=cV kvs [];simp at this;omega
 obtain⟨hn,I'⟩:=I.iZ (a:=s.heap.objs.size) (o:= .dK (bX [] kvs)) (t':=s.toks) keep (Heap.get?_none_of_le (Nat.le_refl _)) (nA hle (beq_eq_false_iff_ne.mpr (Ne.symm (Nat.ne_of_lt I.big))) (KV.oY r1) dd);exact⟨.ref _,_,I',rfl,q _ hn⟩
noncomputable def oK:List PV->PH->RV PV:=λxs h=>match xs with
 | [.tup ys]=>(match fK ys with
  | some kvs=>if ys.length < sizeLine then .ok (.ref h.length) (h++[.dct (bG [] kvs)]) else .no
  | none=> .no)
 | [.ref n]=>(match h[n]? with
  | some (.dct kvs)=>if kvs.length<=sizeLine then .ok (.ref h.length) (h++[.dct (bG [] kvs)]) else .no
  | _=> .no)
 | _=> .no
theorem Ag{ρ :List Addr}{H:Hp}{x:PV}{p:Key × PV}{v:V}(e:pairP? x=some p)(r:rel K ρ H x v): ∃ q:Key × V,lY H v q/\p.1=q.1/\rel K ρ H p.2 q.2:=by
 cases x with
 | tup xs =>
  match xs,e with
  | [a,w],e =>
   simp only[pairP?] at e
   cases q:fO a with
   | none=>rw[q] at e;exact nomatch e
   | some key =>
    rw[q] at e
    cases e
    rw[rel] at r
    obtain⟨b,vs,rfl,e1,e2⟩:=r
    obtain⟨u,u',rfl,r1,r2⟩:=gX e2
    have:=eJ q r1
    subst this
    exact⟨(key,u'),⟨b,rfl,e1⟩,rfl,r2⟩
 | _=>exact nomatch e
theorem oN{ρ :List Addr}{H:Hp}: ∀{xs:List PV}{kvs:List (Key × PV)}{vs:List V},fK xs=some kvs->aj K ρ H xs vs-> ∃ kws,Paired (lY H) vs kws/\RK K ρ H kvs kws
 | [],kvs,vs,e,r=>by cases e;rw[aD] at r;subst r;exact⟨[],.nil,.nil⟩
 | x::t,kvs,vs,e,r=>by
  simp only[fK] at e;split at e
  . rename_i p ps e1 e2;cases e;obtain⟨v,w,rfl,r1,r2⟩:=au.mp r;obtain⟨q,a,b⟩:=Ag e1 r1;obtain⟨qs,c,d⟩:=oN e2 r2;exact⟨q::qs,.cons a c,.cons b d⟩
  . exact nomatch e
theorem qC{ρ :List Addr}{h:PH}{H:Hp}{kvs:List (Key × PV)}{kws:List (Key × V)}{Q:VK}(s:b6 K ρ h H)(r:RK K ρ H kvs kws)(P:cK K ρ H (.ref h.length) (h++[.dct kvs]) Q)(p:Addr)(hp:H p=none):Q (.ref p) (upd H p (.dK kws)):=by
 refine P _ (ρ ++[p]) _ (Gr.new hp [p]) (s.new hp ⟨kws,bh,Paired.gi (Gr.new hp [p]) r⟩) ?_;rw[rel];exact⟨p,by rw[<- s.len,List.getElem?_append_right (Nat.le_refl _)];simp,rfl⟩
theorem CM:cH X pg k-> ∃ r,aM X (.type "dict") r/\vH X.K r oK:=λA=>⟨_,(vq A.calm).or pY,fun ρ h H xs us Q v h' s r q P=>by
 unfold oK at q;split at q
 . rename_i ys;split at q
   . rename_i kvs e;split at q
     . rename_i hl;cases q;obtain⟨u,rfl,r1⟩:=bp r;rw[rel] at r1;obtain⟨a,vs,rfl,e1,e2⟩:=r1;obtain⟨kws,c,d⟩:=oN e e2;exact .inl ⟨a,vs,kws,rfl,e1,c,by rw[<- e2.len];exact hl,λp hp=>qC s (RK.merge d .nil) P p hp⟩
     . exact nomatch q
   . exact nomatch q
 . rename_i n;split at q
   . rename_i kvs en;split at q
     . rename_i hl;cases q;obtain⟨u,rfl,r1⟩:=bp r;rw[rel] at r1;obtain⟨a,ea,rfl⟩:=r1;obtain⟨kws,e1,e2⟩:=s.ob n _ a en ea;exact .inr ⟨a,kws,rfl,e1,by rw[<- RK.len e2];exact hl,λp hp=>qC s (RK.merge e2 .nil) P p hp⟩
     . exact nomatch q
   . exact nomatch q
 . exact nomatch q⟩
theorem gb{α :Type}{le: α -> α ->Prop}: ∀{l1 l2:List α},(∀ a∈l1,∀ b∈l1,le a b->le b a->a=b)->l1.Perm l2->l1.Pairwise le->l2.Pairwise le->l1=l2
 | [],l2,_,p,_,_=>List.Perm.nil_eq p
 | a::r,[],_,p,_,_=>absurd p.length_eq (by simp)
 | a::r,b::r',anti,p,h1,h2=>by
  rw[List.pairwise_cons] at h1 h2;have hb:b∈a::r:=p.mem_iff.mpr List.mem_cons_self;have e:a=b:=by
   rcases List.mem_cons.mp (p.mem_iff.mp (List.mem_cons_self:a∈a::r)) with e | m
   . exact e
   . rcases List.mem_cons.mp hb with e | m'
     . exact e.symm
     . exact anti a List.mem_cons_self b hb (h1.1 b m') (h2.1 a m)
  subst e;rw[gb (λx hx y hy=>anti x (List.mem_cons_of_mem _ hx) y (List.mem_cons_of_mem _ hy)) (List.Perm.cons_inv p) h1.2 h2.2]
noncomputable def jH(a b:Str):Bool:= !decide (gj b a)
noncomputable def di(ss:List Str):List Str:=ss.mergeSort jH
theorem eI(a b c:Str)(h1:jH a b=true)(h2:jH b c=true):jH a c=true:=by
 unfold jH at h1 h2 ⊢;simp only[Bool.not_eq_true',decide_eq_false_iff_not] at h1 h2 ⊢;intro h;by_cases e:b=a
 . subst e;exact h2 h
 . rcases ja e with z | z
   . exact h1 z
   . exact h2 (fS h z)
theorem fX(a b:Str):(jH a b||jH b a)=true:=by
 unfold jH;by_cases h:gj b a
 . simp [h,iK h]
 . simp [h]
theorem pd {a b : Str} (h1 : jH a b = true) (h2 : jH b a = true) : a = b := by
  unfold jH at h1 h2;simp only [Bool.not_eq_true', decide_eq_false_iff_not] at h1 h2
  exact Decidable.byContradiction fun e => by rcases ja e with z | z; · exact h2 z
                                              . exact h1 z
theorem sJ: ∀ {r:List Str} {p:Str},risingS p r=true->(p::r).Pairwise λa b=>jH a b=true:=by
 intro r
 induction r with
 | nil=>intro p _;exact List.pairwise_singleton _ _
 | cons x r ih =>
  intro p h
  simp only[risingS,Bool.and_eq_true] at h
  have h1:jH p x=true:=by
   have:=h.1;rw[ltCps_eq] at this;exact this
  have h2:=ih h.2
  refine List.pairwise_cons.mpr ⟨λy hy=>?_,h2⟩
  rcases List.mem_cons.mp hy with rfl | m
  . exact h1
  . exact eI _ _ _ h1 ((List.pairwise_cons.mp h2).1 y m)
theorem tN{ss:List Str}(h:sortedS ss=true):ss.Pairwise λa b=>jH a b=true:=by
 cases ss with
 | nil=>exact .nil
 | cons p r=>exact sJ h
theorem kn{ss ss':List Str}(p:ss'.Perm ss)(h:sortedS ss'=true):ss'=di ss :=
 gb (le:=λa b=>jH a b=true) (λ_ _ _ _ h1 h2=>pd h1 h2) (p.trans (List.mergeSort_perm ss jH).symm) (tN h) (List.pairwise_mergeSort eI (λa b=>by simpa using fX a b) ss)
noncomputable def fD:List PV->Option (List Str)
 | []=>some []
 | .str x::r=>(fD r).map (x:: ·)
 | _=>none
theorem hX: ∀{xs:List PV}{ss:List Str},fD xs=some ss->xs=ss.map PV.str
 | [],bs,e=>by cases e;rfl
 | .str b::r,bs,e=>by
  rw[fD] at e;cases q:fD r with
  | none=>rw[q] at e;exact nomatch e
  | some cs=>rw[q] at e;cases e;rw[hX q];rfl
 | .non::_,_,e=>nomatch e
 | .bl _::_,_,e=>nomatch e
 | .int _::_,_,e=>nomatch e
 | .tup _::_,_,e=>nomatch e
 | .ktup _::_,_,e=>nomatch e
 | .ref _::_,_,e=>nomatch e
 | .ty _::_,_,e=>nomatch e
theorem iI: ∀(ss:List Str),fD (ss.map PV.str)=some ss
 | []=>rfl
 | b::r=>by rw[List.map_cons,fD,iI r];rfl
theorem cM{ρ :List Addr}{H:Hp}: ∀{ss:List Str}{vs:List V},aj K ρ H (ss.map PV.str) vs↔vs=ss.map V.str
 | [],vs=>aD
 | b::t,vs=>by
  rw[List.map_cons,au];constructor
  . rintro ⟨v,w,rfl,r1,r2⟩;rw[rel] at r1;rw[r1,cM.mp r2];rfl
  . rintro rfl;exact⟨.str b,t.map V.str,rfl,by rw[rel],cM.mpr rfl⟩
noncomputable def qi:List PV->Option (List (Str × Int))
 | []=>some []
 | .tup [.str x,.int i]::r=>(qi r).map ((x,i):: ·)
 | _=>none
noncomputable def bW(q:Str × Int):PV:= .tup [.str q.1,.int q.2]
theorem oO: ∀(ps:List (Str × Int)),qi (ps.map bW)=some ps
 | []=>rfl
 | b::r=>by rw[List.map_cons,bW,qi,oO r];rfl
theorem zh: ∀{xs:List PV}{ps:List (Str × Int)},qi xs=some ps->xs=ps.map bW:=by
 intro xs
 induction xs with
 | nil=>intro ps e;cases e;rfl
 | cons x r ih =>
  intro ps e
  unfold qi at e
  split at e
  . rename_i h;cases h
  . rename_i y i r' h;cases h;cases q:qi r with
    | none=>rw[q] at e;exact nomatch e
    | some cs=>rw[q] at e;cases e;rw[ih q];rfl
  . exact nomatch e
theorem ik{ρ :List Addr}{H:Hp}: ∀{ps:List (Str × Int)}{vs:List V},aj K ρ H (ps.map bW) vs↔Paired (gy H) vs ps
 | [],vs=>⟨λh=>by rw[List.map_nil,aD] at h;subst h;exact .nil,λh=>by cases h;exact aD.mpr rfl⟩
 | b::t,vs=>by
  rw[List.map_cons,au];constructor
  . rintro ⟨v,w,rfl,r1,r2⟩;rw[bW,rel] at r1;obtain⟨a,us,rfl,e1,e2⟩:=r1;obtain⟨u,u',rfl,d1,d2⟩:=gX e2;rw[rel] at d1;rw[rel] at d2;subst d1 d2;exact .cons ⟨a,rfl,e1⟩ (ik.mp r2)
  . intro h;cases h with
    | cons h1 h2 =>
     obtain⟨a,rfl,e1⟩:=h1
     refine⟨.ref a,_,rfl,?_,ik.mpr h2⟩
     rw[bW,rel]
     exact⟨a,_,rfl,e1,au.mpr ⟨_,_,rfl,by rw[rel],aj.one (by rw[rel])⟩⟩
theorem wZ: ∀{ps:List (Str × Int)},(ps.map (·.1)).Nodup-> ∀{a b:Str × Int},a∈ps->b∈ps->a.1=b.1->a=b
 | [],_,a,b,ha,_,_=>by cases ha
 | p::r,nd,a,b,ha,hb,e=>by
  rw[List.map_cons] at nd;rw[List.nodup_cons] at nd;rcases List.mem_cons.mp ha with ha | ha<;>rcases List.mem_cons.mp hb with hb | hb
  . rw[ha,hb]
  . exact absurd (by rw[<- ha,e];exact List.mem_map.mpr ⟨b,hb,rfl⟩) nd.1
  . exact absurd (by rw[<- hb,<- e];exact List.mem_map.mpr ⟨a,ha,rfl⟩) nd.1
  . exact wZ nd.2 ha hb e
noncomputable def ig(ps:List (Str × Int)):List (Str × Int):=ps.mergeSort λa b=>jH a.1 b.1
theorem we{ps ps':List (Str × Int)}(nd:(ps.map (·.1)).Nodup)(p:ps'.Perm ps)(h:(ps'.map (·.1)).Pairwise gj):ps'=ig ps:=by
 have h2:ps'.Pairwise λa b=>jH a.1 b.1=true:=by
  rw[List.pairwise_map] at h;exact h.imp λ{a b} z=>by unfold jH;simp[iK z]
 refine gb (le:=λa b=>jH a.1 b.1=true) (λa ha b hb z1 z2=>?_) (p.trans (List.mergeSort_perm ps _).symm) h2 (List.pairwise_mergeSort (λa b c=>eI a.1 b.1 c.1) (λa b=>by simpa using fX a.1 b.1) ps);have e:=pd z1 z2;have ha':=p.mem_iff.mp ha;have hb':=p.mem_iff.mp hb;exact wZ nd ha' hb' e
noncomputable def dj:List PV->PH->RV PV:=λxs h=>match xs with
 | [x]=>(match itemsOf h x with
  | some ys=>(match x with
   | .ref _=>(match fD ys with
    | some ss=>if ss.length < 64 then .ok (.ref h.length) (h++[.lst ((di ss).map PV.str)]) else .no
    | none=>(match qi ys with
     | some ps=>if ps.length < 64/\(ps.map (·.1)).Nodup then .ok (.ref h.length) (h++[.lst ((ig ps).map bW)]) else .no
     | none=> .no))
   | _=> .no)
  | none=>(match x with
   | .ref n=>(match h[n]? with
    | some (.dct kvs)=>(match fD (kvs.map λkv=>match kv.1 with | .inl i=> .int i | .inr z=> .str z) with
     | some ss=>if ss.length < 64 then .ok (.ref h.length) (h++[.lst ((di ss).map PV.str)]) else .no
     | none=> .no)
    | _=> .no)
   | _=> .no))
 | _=> .no
theorem RK.keys{ρ :List Addr}{H:Hp}: ∀{kvs:List (Key × PV)}{kws:List (Key × V)},RK K ρ H kvs kws->kws.map (·.1)=kvs.map (·.1)
 | _,_,.nil=>rfl
 | _,_,.cons a t=>by rw[List.map_cons,List.map_cons,RK.keys t,a.1]
theorem keys_str: ∀{kvs:List (Key × PV)}{ss:List Str},(kvs.map λkv=>(match kv.1 with | .inl i=>PV.int i | .inr z=>PV.str z))=ss.map PV.str->kvs.map (·.1)=ss.map Sum.inr
 | [],ss,e=>by cases ss with | nil=>rfl | cons=>exact nomatch e
 | (.inl i,v)::r,ss,e=>by cases ss with | nil=>exact nomatch e | cons=>simp at e
 | (.inr z,v)::r,ss,e=>by
  cases ss with
  | nil=>exact nomatch e
  | cons y t =>
   rw[List.map_cons,List.map_cons,List.cons.injEq] at e
   rw[List.map_cons,List.map_cons,keys_str e.2]
   cases e.1;rfl
theorem oV(A:cH X pg k):vH X.K (λxs H Q=>ug X.K xs H Q\/(uk xs H Q\/qa X.K xs H Q)) dj:=fun ρ h H xs us Q v h' s r q P=>by
 unfold dj at q;split at q
 . rename_i x;obtain⟨u,rfl,r1⟩:=bp r;split at q
   . rename_i ys e;split at q
     . rename_i n;obtain⟨a,vs,rfl,_,z,r2⟩:=s.sq e r1;split at q
       . rename_i ss es;split at q
         . rename_i hl;cases q;rw[hX es,cM] at r2;subst r2;refine .inl ⟨a,ss,rfl,z,hl,λl ss' hp pm so=>?_⟩;rw[kn pm so];exact cX s (cM.mpr rfl) P l hp
         . exact nomatch q
       . split at q
         . rename_i ps eps;split at q
           . rename_i hl;cases q;rw[zh eps,ik] at r2;refine .inr (.inr ⟨a,vs,ps,rfl,z,r2,hl.1,hl.2,λl ys' ps' hp pm so pr=>?_⟩);have:=we hl.2 pm so;subst this;exact cX s (ik.mpr pr) P l hp
           . exact nomatch q
         . exact nomatch q
     . exact nomatch q
   . split at q
     . rename_i n _;split at q
       . rename_i kvs en;split at q
         . rename_i ss es;split at q
           . rename_i hl;cases q;rw[rel] at r1;obtain⟨a,ea,rfl⟩:=r1;obtain⟨kws,e1,e2⟩:=s.ob n _ a en ea;refine .inr (.inl ⟨a,kws,ss,rfl,e1,by rw[RK.keys e2];exact keys_str (hX es),hl,λl ss' hp pm so=>?_⟩);rw[kn pm so];exact cX s (cM.mpr rfl) P l hp
           . exact nomatch q
         . exact nomatch q
       . exact nomatch q
     . exact nomatch q
 . exact nomatch q
theorem fW.of{P:Program}{w:World}{K:PySem.W.Frag}{mg:Str->Option Value}{base:Heap}{pg:Tb}{f:String}{d:Df}(b:MS)(st:Stmt)(N:List Str)(e:d.body=b)(a:At K mg (Str.ofString f) st)(S:aw N d.ps (af st))(hl:N.length=d.ps.length+d.nl)
  (hb: ∀(kV doc pm:Value)(an:Option Addr)(cdv ct:Value)(us:List Value),us.length=d.ps.length->bindArgs (PySem.W.fnOf (Str.ofString f) (Str.ofString f) (bS st) (aX st) (af st) .none kV doc pm an cdv ct) ⟨us,[]⟩=pure (d.ps.zip us))
  (h: ∀(fa:Addr)(cdv:Value)(A:Around)(outer:List Env)(s:Shared)(H:Hp)(E:XK)(k:Nat),tJ (gE nI P w K mg base N (Str.ofString f) (af st) fa cdv A outer s H E).ll pg k (aX st) b):fW P w K mg base pg f d :=
 ⟨st,N,a,S,hl,hb,by rw[e];exact h⟩
end
structure aS(P:Program)(w:World)(K:PySem.W.Frag)(mg:Str->Option Value)(pg:Tb)(f:String)(d:Df)(st:Stmt)(N:List Str):Prop where
 at_:At K mg (Str.ofString f) st
 sc:aw N d.ps (af st)
 len:N.length=d.ps.length+d.nl
 bd: ∀(kV doc pm:Value)(an:Option Addr)(cdv ct:Value)(us:List Value),us.length=d.ps.length->bindArgs (PySem.W.fnOf (Str.ofString f) (Str.ofString f) (bS st) (aX st) (af st) .none kV doc pm an cdv ct) ⟨us,[]⟩=pure (d.ps.zip us)
 body: ∀(base:Heap)(fa:Addr)(cdv:Value)(A:Around)(outer:List Env)(s:Shared)(H:Hp)(E:XK)(k:Nat),tJ (gE nI P w K mg base N (Str.ofString f) (af st) fa cdv A outer s H E).ll pg k (aX st) d.body
section
variable{P:Program}{w:World}{K:PySem.W.Frag}{mg:Str->Option Value}{pg:Tb}
theorem aS.of{f:String}{d:Df}(b:MS){st:Stmt}{N:List Str}(e:d.body=b)(a:At K mg (Str.ofString f) st)(S:aw N d.ps (af st))(hl:N.length=d.ps.length+d.nl)
  (hb: ∀(kV doc pm:Value)(an:Option Addr)(cdv ct:Value)(us:List Value),us.length=d.ps.length->bindArgs (PySem.W.fnOf (Str.ofString f) (Str.ofString f) (bS st) (aX st) (af st) .none kV doc pm an cdv ct) ⟨us,[]⟩=pure (d.ps.zip us))
  (h: ∀(base:Heap)(fa:Addr)(cdv:Value)(A:Around)(outer:List Env)(s:Shared)(H:Hp)(E:XK)(k:Nat),tJ (gE nI P w K mg base N (Str.ofString f) (af st) fa cdv A outer s H E).ll pg k (aX st) b):aS P w K mg pg f d st N :=
 ⟨a,S,hl,hb,by rw[e];exact h⟩
theorem aS.good{base:Heap}{f:String}{d:Df}{st:Stmt}{N:List Str}(g:aS P w K mg pg f d st N):fW P w K mg base pg f d:=⟨st,N,g.at_,g.sc,g.len,g.bd,g.body base⟩
theorem uZ{gL:List (String × Df)}(hf:pg.fns=λf=>(gL.find? λp=>p.1 == f).map (·.2))(h: ∀ p∈gL,∃ st N,aS P w K mg pg p.1 p.2 st N)(base:Heap): ∀ f d,pg.fns f=some d->fW P w K mg base pg f d:=λf d e=>by
 rw[hf] at e;dsimp only at e;cases q:gL.find? λp=>p.1 == f with
 | none=>rw[q] at e;exact nomatch e
 | some p =>
  rw[q] at e
  cases e
  obtain⟨st,N,g⟩:=h p (List.mem_of_find?_eq_some q)
  have:p.1=f:=by simpa using List.find?_some q
  rw [<- this]
  exact g.good
theorem BG {k : Nat} {d : Df} {st : Stmt} {N : List Str} {fa : Addr} {x : Str} (T : Top P w K mg pg) (G : ∀ base f d, pg.fns f = some d -> fW P w K mg base pg f d) (hf : pg.fns "law" = some d) (hx : d.ps = [x]) (g : aS P w K mg pg "law" d st N) (hfa : mg "law" = some (.ref fa)) :
    ∃ fd : FuncData, (∀ (s : Shared) (v : Value), BindsTo s fd ⟨[v], []⟩ [(x, v)]) /\ ∀ base : Heap, K.In base -> base.Ns mainGlobals mg -> fE P w K mg base nI (k + 1) fa fd [x] (qw K pg (k + 1) "law") := by
  obtain ⟨f, fd, F, hm⟩ := g.at_;have e := hfa.symm.trans hm;cases e;refine ⟨fd, λs v => .of_eq ?_, λbase _ _ => ?_⟩
  . have := ue.args F g.bd [v] (by rw [hx]; rfl);rw [this, hx]; rfl
  . have key : ∀ {args : List PV} {h h' : PH} {v : PV}, run pg (k + 1) "law" args h = .ok v h' -> args.length = d.ps.length ∧
        ((∃ w h2, d.body (run pg k) (args.map some ++ List.replicate d.nl none) h = .ok (.rt w) h2 /\ settle h w h2 = .ok v h') ∨
         (∃ e h2, d.body (run pg k) (args.map some ++ List.replicate d.nl none) h = .ok (.nx e) h2 /\ settle h .non h2 = .ok v h')) := λ{args h h' v} q => by
      rw [run, hf] at q;simp only at q;split at q
      . rename_i hn;refine ⟨hn, ?_⟩;split at q
        . rename_i w h2 e; exact .inl ⟨w, h2, e, q⟩
        . rename_i e' h2 e; exact .inr ⟨e', h2, e, q⟩
        . exact nomatch q
        . exact nomatch q
        . exact nomatch q
      . exact nomatch q
    have S := g.sc;rw [hx] at S;refine ue.HJ F S (λvs H Q E ⟨ρ, h, args, v, h', _, r, q, _⟩ => by rw [<- r.len, (key q).1, hx]) ?_;rintro fa cdv A outer s H vs Q E hr ⟨ρ, h, args, v, h', sm, r, q, post⟩;have amb : cH (gE nI P w K mg base N (Str.ofString "law") (af st) fa cdv A outer s H E).ll pg k := ⟨hr, rfl, λ_ _ z => z, vZ T (G base) k, T.blt, T.con, T.zg⟩
    obtain ⟨t, qt, st'⟩ := (g.body base fa cdv A outer s H E k).h amb;refine ⟨t, qt, ?_⟩;obtain ⟨hn, q⟩ := key q;have he : L2.start N vs = vs.map some ++ List.replicate d.nl none := by
      unfold L2.start;rw [g.len, <- r.len, hn, Nat.add_sub_cancel_left]
    rw [he];rcases q with ⟨w, h2, e, q⟩ | ⟨e', h2, e, q⟩
    . exact st' ρ h H _ _ _ _ h2 sm (fh r _) e (d5 sm q post)
    . exact st' ρ h H _ _ _ _ h2 sm (fh r _) e fun σ' ρ' H' g s' _ => d5 sm q post .non ρ' H' g s' (by rw [rel])
end
theorem D3 {K:PySem.W.Frag} {pg:Tb} {k:Nat} {E:XK} (hl: ∀ ns:List Int,ns.length<=63->Ok (run pg k "law" [.ref 0] [.iu (ns.map PV.int)]) λv _=>v= .bl true) (H:Hp) (a:Addr) (ns:List Int) (hn:ns.length<=63) (o:vh H) (q:eU K H a (ns.map V.int)) :
  qw K pg k "law" [.ref a] H (λv _=>v= .bl true) E:=by
 obtain⟨v,h',e,rfl⟩:=hl ns hn;refine⟨[a],_,[.ref 0],_,h',⟨rfl,λi j b oi oj ei ej mi mj _ _=>?_,λi ob b ei eb=>?_⟩,aj.one (by rw[rel];exact⟨a,rfl,rfl⟩),e,λv' ρ' H' g s r=>by rw[rel] at r;exact r⟩
 . cases i with
   | zero=>simp at ei;subst ei;exact nomatch mi
   | succ i=>simp at ei
 . cases i with
   | zero =>
    simp at ei eb
    subst ei eb
    exact⟨_,C7 o q,aj.ints ns⟩
   | succ i=>simp at ei
section
variable{P:Program}{w:World}{K:PySem.W.Frag}{mg:Str->Option Value}{pg:Tb}
theorem Ap{conT:List (Str × PV)}(hc:pg.con=λx=>(conT.find? λp=>decide (p.1=x)).map (·.2))(h: ∀ p∈conT,∃ u v',mg p.1=some u/\RelV v' u/\ ∀ ρ H,rel K ρ H p.2 v'): ∀ x v,pg.con x=some v-> ∃ u v',mg x=some u/\RelV v' u/\ ∀ ρ H,rel K ρ H v v':=λx v e=>by
 rw[hc] at e;dsimp only at e;cases q:conT.find? λp=>decide (p.1=x) with
 | none=>rw[q] at e;exact nomatch e
 | some p =>
  rw[q] at e
  cases e
  have:p.1=x:=by simpa using List.find?_some q
  rw[<- this]
  exact h p (List.mem_of_find?_eq_some q)
theorem zx{dcT:List (Str × List (Key × PV))}(hc:pg.zg=λx=>(dcT.find? λp=>decide (p.1=x)).map (·.2))(h: ∀ p∈dcT,∃ a kws,mg p.1=some (.ref a)/\KD P w K a kws/\ ∀ ρ H,RK K ρ H p.2 kws) :
  ∀ x kvs,pg.zg x=some kvs-> ∃ a kws,mg x=some (.ref a)/\KD P w K a kws/\ ∀ ρ H,Paired (λ(p:Key × PV) (q:Key × V)=>p.1=q.1/\rel K ρ H p.2 q.2) kvs kws:=λx v e=>by
 rw[hc] at e;dsimp only at e;cases q:dcT.find? λp=>decide (p.1=x) with
 | none=>rw[q] at e;exact nomatch e
 | some p =>
  rw[q] at e
  cases e
  have:p.1=x:=by simpa using List.find?_some q
  rw[<- this]
  exact h p (List.mem_of_find?_eq_some q)
inductive CV:PV->Value->Prop where
 | int (i:Int) (t:Tok):CV (.int i) (.int i t)
 | str (x:Str) (t:Tok):CV (.str x) (.str x t)
theorem CV.v{x:PV}{u:Value}(c:CV x u): ∃ v,RelV v u/\ ∀ ρ H,rel K ρ H x v:=by
 cases c with
 | int i t=>exact⟨.int i,⟨t,rfl⟩,λ_ _=>by rw[rel]⟩
 | str z t=>exact⟨.str z,⟨t,rfl⟩,λ_ _=>by rw[rel]⟩
theorem Jn.v: ∀{xs:List PV}{us:List Value},Paired CV xs us-> ∃ vs,Vals vs us/\ ∀ ρ H,aj K ρ H xs vs
 | _,_,.nil=>⟨[],.nil,λ_ _=>aD.mpr rfl⟩
 | _,_,.cons c t=>let ⟨v,a,b⟩:=CV.v c;let ⟨vs,d,e⟩:=Jn.v t;⟨v::vs,.cons a d,fun ρ H=>au.mpr ⟨v,vs,rfl,b ρ H,e ρ H⟩⟩
theorem uM{x:Str}{v:PV}{u:Value}(hm:mg x=some u)(c:CV v u): ∃ u v',mg x=some u/\RelV v' u/\ ∀ ρ H,rel K ρ H v v':=let ⟨v',a,b⟩:=CV.v (K:=K) c;⟨u,v',hm,a,b⟩
noncomputable def DV(K:PySem.W.Frag)(x:PV)(u:Value):Prop:= ∃ v,RelV v u/\ ∀ ρ H,rel K ρ H x v
theorem yX{ls:List (Str × Tok × Value)}{kvs:List (Key × PV)}(h:Paired (λ(p:Key × PV) (l:Str × Tok × Value)=>p.1= .inr l.1/\DV K p.2 l.2.2) kvs ls): ∃ kws,KV kws (ls.map λp=>((Sum.inr p.1:Key),p.2.2))/\ ∀ ρ H,RK K ρ H kvs kws:=by
 induction h with
 | nil=>exact⟨[],.nil,λ_ _=> .nil⟩
 | @cons p l ps qs a t ih =>
  obtain⟨kws,r,q⟩:=ih
  obtain⟨e,v,r1,r2⟩:=a
  exact⟨(.inr l.1,v)::kws,.cons ⟨rfl,r1⟩ r,fun ρ H=> .cons ⟨e,r2 ρ H⟩ (q ρ H)⟩
end
abbrev C9(ak:List Value)(n:Nat)(dd:Option Addr)(sl:Array (Option Value)):Obj:={ cls:= .type "tuple",dict:=dd,data:= .seq ak.toArray n,slots:=sl }
theorem pK{k:Int}(h1: -(2 ^ 63)<=k)(h2:k < 2 ^ 63): ¬ (decide (k < -(2 ^ 63))||decide (k ≥ 2 ^ 63))=true:=by
 simp only[Bool.or_eq_true,decide_eq_true_eq];omega
theorem pB(l:Addr)(ak:List Value)(n:Nat)(k:Int)(u:Tok)(dd:Option Addr)(sl:Array (Option Value))(h1: -(2 ^ 63)<=k)(h2:k < 2 ^ 63)(hs:(ak.toArray.isEmpty||k == 1)=true) :
  Meets (Builtin.«tuple.__mul__» ⟨[.ref l,.int k u],[]⟩) (λ_ R s=>s.heap.get? l=some (C9 ak n dd sl)/\R (.ok (.ret (.ref l))) s) :=
 .of_wp λprog w A R s h=>by
  obtain⟨hp,g,d,tk,os⟩:=s;obtain⟨hl,h⟩:=h;have f1:=AutoSeq1.idx_int
  wp_walk using AutoSeq1.wpAny_loadPart' hl,wpAny_load hl
  refine wpAny_ite_split (λz=>absurd z (pK h1 h2)) (λ_=>?_)
  wp_walk using AutoSeq1.wpAny_loadPart' hl,wpAny_load hl
  refine wpAny_ite_split (λ_=>?_) (λz=>absurd hs z)
  wp_walk using AutoSeq1.wpAny_loadPart' hl,wpAny_load hl
  exact⟨_,rfl,h⟩
theorem qg(l:Addr)(ak:List Value)(n:Nat)(k:Int)(u:Tok)(dd:Option Addr)(sl:Array (Option Value))(h1: -(2 ^ 63)<=k)(h2:k<=0)(hs: ¬ (ak.toArray.isEmpty||k == 1)=true) :
  Meets (Builtin.«tuple.__mul__» ⟨[.ref l,.int k u],[]⟩) (λ_ R s=>s.heap.get? l=some (C9 ak n dd sl)/\R (.ok (.ret (.ref s.heap.objs.size))) { s with heap:=s.heap.push { cls:= .type "tuple",data:= .seq #[] } }) :=
 .of_wp λprog w A R s h=>by
  obtain⟨hp,g,d,tk,os⟩:=s;obtain⟨hl,h⟩:=h;have f1:=AutoSeq1.idx_int;have hz:(decide (k<=0)||ak.toArray.isEmpty)=true:=by simp[h2]
  wp_walk using AutoSeq1.wpAny_loadPart' hl,wpAny_load hl
  refine wpAny_ite_split (λz=>absurd z (pK h1 (by omega))) (λ_=>?_)
  wp_walk using AutoSeq1.wpAny_loadPart' hl,wpAny_load hl
  refine wpAny_ite_split (λz=>absurd z hs) (λ_=>?_);refine wpAny_ite_split (λ_=>?_) (λz=>absurd hz z);exact wpAny_bind (m:=Builtin.Tuple.tupleExact _) (wpAny_newObj_type (wpAny_pure ⟨_,rfl,h⟩) (by size_fits))
theorem qx(l:Addr)(ak:List Value)(n:Nat)(k:Int)(u:Tok)(dd:Option Addr)(sl:Array (Option Value))(h1:0 < k)(h2:(ak.length:Int)*k<=100000)(hk:k<=100000)(hs: ¬ (ak.toArray.isEmpty||k == 1)=true) :
  Meets (Builtin.«tuple.__mul__» ⟨[.ref l,.int k u],[]⟩) (λ_ R s=>s.heap.get? l=some (C9 ak n dd sl)/\R (.ok (.ret (.ref s.heap.objs.size))) { s with heap:=s.heap.push { cls:= .type "tuple",data:= .seq (List.replicate k.toNat ak).flatten.toArray } }) :=
 .of_wp λprog w A R s h=>by
  obtain⟨hp,g,d,tk,os⟩:=s;obtain⟨hl,h⟩:=h;have f1:=AutoSeq1.idx_int;have hz: ¬ (decide (k<=0)||ak.toArray.isEmpty)=true:=by
   intro z;rw[Bool.or_eq_true,decide_eq_true_eq] at z;rcases z with z | z
   . omega
   . exact hs (by rw[z];rfl)
  have hc1: ¬ ((ak.toArray.size:Int)*k > (2 ^ 63 - 1) / 8):=by rw[List.size_toArray];omega
  have hc2: ¬ (Builtin.Tuple.tupleTooMany ((ak.toArray.size:Int)*k)=true):=by
   unfold Builtin.Tuple.tupleTooMany;rw[List.size_toArray,decide_eq_true_eq,show((sizeLine:Nat):Int)=16777216 from by decide];omega
  have e0:List.foldl (λx1 x2=>x1++x2) #[] (List.replicate k.toNat ak.toArray)=(List.replicate k.toNat ak).flatten.toArray:=by
   have:=foldl_rep ak k.toNat [];rw[List.nil_append] at this;exact this
  wp_walk using AutoSeq1.wpAny_loadPart' hl,wpAny_load hl
  refine wpAny_ite_split (λz=>absurd z (pK (by omega) (by omega))) (λ_=>?_)
  wp_walk using AutoSeq1.wpAny_loadPart' hl,wpAny_load hl
  refine wpAny_ite_split (λz=>absurd z hs) (λ_=>?_);refine wpAny_ite_split (λz=>absurd z hz) (λ_=>?_);refine wpAny_ite_split (λhab=>absurd hab hc1) (λ_=>?_);refine wpAny_ite_split (λhab=>absurd hab hc2) (λ_=>?_);refine wpAny_bind (m:=Builtin.Tuple.tupleExact _) (wpAny_newObj_type (wpAny_pure ⟨_,rfl,?_⟩) ?_)
  . rw[e0];exact h
  . rw[e0];show(List.replicate k.toNat ak).flatten.toArray.size<=sizeLine;rw[List.size_toArray,len_rep,Nat.mul_comm];refine Nat.le_trans (show ak.length*k.toNat<=100000 from ?_) (by decide);have e1:((ak.length*k.toNat:Nat):Int)=(ak.length:Int)*k:=by rw[Int.natCast_mul,Int.toNat_of_nonneg (by omega)]
    omega
noncomputable def BE(K:PySem.W.Frag):R2:=λx y H Q=> ∃ a k xs,x= .ref a/\y= .int k/\fk K H a xs/\(xs.length:Int)*k<=100000/\ -100000<=k/\k<=100000/\(xs=[]\/k=1->Q (.ref a) H)/\(¬ (xs=[]\/k=1)-> ∀ p,H p=none->Q (.ref p) (upd H p (.tup (List.replicate k.toNat xs).flatten)))
theorem vO{X:Cx}:cI X (binaryOp .Mult) (BE X.K):=by
 intro pins s σ H x y v u Q I rx ry h;obtain⟨a,k,xs,rfl,rfl,ha,hl,k1,k2,q1,q2⟩:=h;cases(show v=Value.ref a from rx);obtain⟨t,rfl⟩:=ry;obtain⟨ak,r1,p1,_⟩:=I.tuple ha;obtain⟨⟨cls,dd,data,sl⟩,ho,hc,n,hd⟩:=id p1;simp only at hc hd;subst hc hd;have hlen:=r1.length;refine wpAny_binaryOp_repeat_ref (T:= "tuple") (U:= "int") (by decide) ⟨_,ho,rfl⟩ (λs'=>typeIs_int s' k t) iP PySem.F.fills_int_mul PySem.F.slot_int_rmul nE PySem.F.slot_int_index.lookup
  (call_meets PySem.F.slot_int_rmul (typeIs_int s k t) PySem.F.entry_int_rmul (PySem.F.args_int_rmul_2 _ _) (kN k t a ak.toArray n dd sl) ⟨ho,rfl,⟨_,ho,rfl⟩,?_⟩)
 have hx:xs=[]↔ak=[]:=(r1.jM).symm;by_cases hs:xs=[]\/k=1
 . have hb:(ak.toArray.isEmpty||k == 1)=true:=by
    rcases hs with z | z
    . rw[hx.mp z];rfl
    . rw[z];simp
   exact call_meets PySem.F.slot_tuple_mul ⟨_,ho,rfl⟩ PySem.F.entry_tuple_mul (PySem.F.args_tuple_mul_2 _ _) (pB a ak n k t dd sl (by omega) (by omega) hb) ⟨ho,⟨.ref a,H,I,rfl,q1 hs⟩⟩
 . have hb: ¬ (ak.toArray.isEmpty||k == 1)=true:=λz=>hs (by
    rw[Bool.or_eq_true] at z;rcases z with z | z
    . exact .inl (hx.mpr (by simpa using z))
    . exact .inr (by simpa using z))
   by_cases hk:0 < k
   . refine call_meets PySem.F.slot_tuple_mul ⟨_,ho,rfl⟩ PySem.F.entry_tuple_mul (PySem.F.args_tuple_mul_2 _ _) (qx a ak n k t dd sl hk (by rw[<- hlen];exact hl) k2 hb) ⟨ho,?_⟩;refine⟨.ref s.heap.objs.size,_,I.laid (t':=s.toks) (o:= .tup (List.replicate k.toNat xs).flatten) (λb ob q=>Heap.get?_push_of_some _ q) (Nat.le_refl _) ?_,rfl,q2 hs _ (I.bc.fresh (Nat.le_refl _))⟩;refine⟨?_,_,r1.rep k.toNat,lb.new _ _⟩;rw[len_rep,Nat.mul_comm];refine Nat.le_trans (show xs.length*k.toNat<=100000 from ?_) (by decide);have e1:((xs.length*k.toNat:Nat):Int)=(xs.length:Int)*k:=by rw[Int.natCast_mul,Int.toNat_of_nonneg (by omega)]
     omega
   . refine call_meets PySem.F.slot_tuple_mul ⟨_,ho,rfl⟩ PySem.F.entry_tuple_mul (PySem.F.args_tuple_mul_2 _ _) (qg a ak n k t dd sl (by omega) (by omega) hb) ⟨ho,?_⟩;refine⟨.ref s.heap.objs.size,_,I.laid (t':=s.toks) (o:= .tup (List.replicate k.toNat xs).flatten) (λb ob q=>Heap.get?_push_of_some _ q) (Nat.le_refl _) ?_,rfl,q2 hs _ (I.bc.fresh (Nat.le_refl _))⟩;have:k.toNat=0:=by omega
     rw[this];exact⟨Nat.zero_le _,[],.nil,lb.new _ _⟩
section
variable{X:Cx}{pg:Tb}{k:Nat}
theorem aj.rep{K:PySem.W.Frag}{ρ :List Addr}{H:Hp}{xs:List PV}{vs:List V}(r:aj K ρ H xs vs): ∀(n:Nat),aj K ρ H (List.replicate n xs).flatten (List.replicate n vs).flatten
 | 0=>aD.mpr rfl
 | n+1=>by rw[List.replicate_succ,List.replicate_succ,List.flatten_cons,List.flatten_cons];exact r.app (r.rep n)
noncomputable def cx:PV->PV->PH->RV PV:=λx y h=>match x,y with
 | .int i,.int j=>if (-(2 ^ 64) < i/\i < 2 ^ 64)\/(-(2 ^ 64) < j/\j < 2 ^ 64) then .ok (.int (i*j)) h else .no
 | .tup xs,.int k=>if (xs.length:Int)*k<=100000/\ -100000<=k/\k<=100000 then .ok (.tup (List.replicate k.toNat xs).flatten) h else .no
 | .ref n,.int k=>(match h[n]? with
  | some (.lst xs)=>if (-(2 ^ 63)<=k/\k < 2 ^ 63)/\xs.length*k.toNat<=sizeLine then .ok (.ref h.length) (h++[.lst (List.replicate k.toNat xs).flatten]) else .no
  | _=> .no)
 | _,_=> .no
theorem CY:cH X pg k-> ∃ r,cI X (binaryOp .Mult) r/\lg X.K r cx:=λ_=>⟨_,Bg.or (vO.or CU),fun ρ h H x y x' y' Q v h' s rx ry q P=>by
 unfold cx at q;split at q
 . split at q
   . rename_i hc;cases q;rw[rel] at rx;rw[rel] at ry;exact .inl ⟨_,_,rx,ry,hc,P _ ρ H (.refl _ _) s (by rw[rel])⟩
   . exact nomatch q
 . rename_i xs k;split at q
   . rename_i hc;cases q;have rx':=rx;rw[rel] at rx;rw[rel] at ry;obtain⟨a,us,rfl,e2,e3⟩:=rx;refine .inr (.inl ⟨a,k,us,rfl,ry,.of e2,by rw[<- e3.len];exact hc.1,hc.2.1,hc.2.2,λz=>?_,λz p hp=>jK s (e3.rep _) P p hp⟩);have:(List.replicate k.toNat xs).flatten=xs:=by
      rcases z with z | z
      . subst z;have:xs=[]:=List.eq_nil_of_length_eq_zero e3.len;subst this;simp
      . rw[z];simp[List.replicate]
     rw[this] at P;exact P _ ρ H (.refl _ _) s rx'
   . exact nomatch q
 . split at q
   . rename_i xs en;split at q
     . rename_i hc;cases q;rw[rel] at ry;obtain⟨a,us,rfl,_,e1,e2⟩:=s.lst en rx;exact .inr (.inr ⟨a,_,us,rfl,ry,e1,hc.1.1,hc.1.2,by rw[<- e2.len];exact hc.2,λp hp=>cX s (e2.rep _) P p hp⟩)
     . exact nomatch q
   . exact nomatch q
 . exact nomatch q⟩
end
section
variable{prog:Program}{w:World}{A:Around}{E:Value->Shared->Prop}{s:Shared}
theorem oD{t:Addr}{us:List Value}{R:List Value->Shared->Prop}(ht:s.heap.IsTuple t us.toArray)(fits:us.length<=sizeLine)
  (q:R us { s with heap:=(s.heap.push (seqObj "list" #[] 0)).update s.heap.objs.size (Obj.mapSeq (· ++us.toArray)) }):wpAny (model prog w) A (collect (.ref t)) R E s:=by
 obtain⟨ob,e1,e2,m,e3⟩:=id ht;have e1':=Heap.get?_push_of_some (seqObj "list" #[] 0) e1;have own:(s.heap.push (seqObj "list" #[] 0)).get? s.heap.objs.size=some (seqObj "list" #[] 0):=Heap.get?_push_size _ rfl;have sum:(#[]:Array Value)++us.toArray=us.toArray:=by simp
 unfold collect;refine wpAny_bind (wpAny_runValue (codeAny_builtin entry_proto_collect' (show wpAny _ _ (newList [] >>= λl=>again (.builtin "list.__iadd__" ⟨[l,.ref t],[]⟩)) _ _ s from ?_)));refine wpAny_bind (wpAny_newList (wpAny_pure ⟨Code.quiet_builtin _ (by decide +kernel),codeAny_builtin entry_list_iadd' (show wpAny _ _ (Builtin.List.listExtendWith _ (.ref t) _) _ _ { s with heap:=s.heap.push (seqObj "list" #[] 0) } from ?_)⟩));unfold PySem.Builtin.List.listExtendWith;refine wpAny_bind (wpAny_typeOf (T:= "tuple") ⟨ob,e1',e2⟩ (Iw (by simp) (wpAny_bind (listItems_at e1' e3 (wpAny_bind (listItems_at own rfl ?_))))));refine Jc (by simp) (wpAny_bind (listUpdate_at own rfl (wpAny_pure ?_) (Nat.zero_le _) (by rw[sum,List.size_toArray];omega)));refine wpAny_bind (wpAny_load (get?_update_seq own _) ?_);show wpAny _ _ (pure ((#[]:Array Value)++us.toArray).toList) R E _;rw[sum];exact wpAny_pure q
theorem jF{t:Addr}{us:List Value}{ss:List Str}{R:Value->Shared->Prop}(ht:s.heap.IsTuple t us.toArray)(hS:StrsAre us ss)(n64:us.length < 64)
  (q: ∀(out:Array Value)(ss':List Str),StrsAre out.toList ss'->ss'.Perm ss->sortedS ss'=true->R (.ref (s.heap.objs.size+1)) { s with heap:=sortedAll s.heap us out }):wpAny (model prog w) A (call (.builtin "sorted") [.ref t]) R E s:=by
 refine Calls.call_function_entry kind_sorted plain_sorted entry_sorted (args_sorted1 (.ref t)) ?_;unfold Builtin.«sorted»;refine wpAny_bind (m:=checkCount "sorted" 1 1 [Value.ref t].length) (wpAny_pure (wpAny_bind (oD ht (L2.iw n64) (wpAny_bind (wpAny_newList ?_ (L2.iw n64))))));show wpAny _ _ _ _ _ { s with heap:=gM s.heap us };rw[dy];exact wpAny_bind (wpAny_holding (gQ (fI s.heap us) hS n64 λout ss' a1 a2 a3=>wpAny_pure ⟨_,rfl,q out ss' a1 a2 a3⟩))
end
section
variable{X:Cx}{pg:Tb}{k:Nat}
noncomputable def xI(K:PySem.W.Frag):List V->Hp->VK->Prop:=λxs H Q=> ∃ p ss,xs=[.ref p]/\fk K H p (ss.map V.str)/\ss.length < 64/\ ∀ l ss',H l=none->ss'.Perm ss->sortedS ss'=true->Q (.ref l) (upd H l (.lst (ss'.map V.str)))
theorem oI:aM X (.builtin "sorted") (xI X.K):=by
 intro pins s σ H xs us Q I r ⟨p,ss,e,hS,h64,q⟩;subst e;obtain⟨u,rfl,ru⟩:=vals1 r;cases(show u=Value.ref p from ru);obtain⟨ak,hv,hl,hz⟩:=I.tuple hS;have sa:=kP hv;refine jF hl sa (by rw[sa.length];exact h64) λout ss' a1 a2 a3=>?_;obtain⟨e,he⟩:=sortedAll_at s.heap ak out;have hlen:(ss'.map V.str).length<=sizeLine:=by rw[List.length_map,a2.length_eq];exact Nat.le_of_lt (Nat.lt_of_lt_of_le h64 (by decide))
 obtain⟨hn,I'⟩:=I.iZ (a:=s.heap.objs.size+1) (o:= .lst (ss'.map V.str)) (t':=s.toks) (λb o e=>sortedAll_old e) (Heap.get?_none_of_le (Nat.le_succ _)) ⟨hlen,out.toList,e,fV a1,by simpa [seqObj] using he⟩;exact⟨.ref _,_,I',rfl,q _ ss' hn a2 a3⟩
noncomputable def bJ:List PV->PH->RV PV:=λxs h=>match xs with
 | [.tup ys]=>(match fD ys with
  | some ss=>if ss.length < 64 then .ok (.ref h.length) (h++[.lst ((di ss).map PV.str)]) else .no
  | none=> .no)
 | _=>dj xs h
theorem sC:cH X pg k-> ∃ r,aM X (.builtin "sorted") r/\vH X.K r bJ:=λA=>⟨_,oI.or (nL A.calm),fun ρ h H xs us Q v h' s r q P=>by
 unfold bJ at q;split at q
 . rename_i ys;split at q
   . rename_i ss es;split at q
     . rename_i hl;cases q;obtain⟨u,rfl,r1⟩:=bp r;rw[rel] at r1;obtain⟨a,vs,rfl,e1,e2⟩:=r1;rw[hX es,cM] at e2;subst e2;refine .inl ⟨a,ss,rfl,.of e1,hl,λl ss' hp pm so=>?_⟩;rw[kn pm so];exact cX s (cM.mpr rfl) P l hp
     . exact nomatch q
   . exact nomatch q
 . exact .inr (oV A ρ h H _ us Q v h' s r q P)⟩
end
noncomputable def fin(h:PH)(r:RV Fl):RV PV:=match r with
 | .ok (.rt v) h'=>settle h v h'
 | .ok (.nx _) h'=>settle h .non h'
 | .ok _ _=> .no
 | .ex c us h'=> .ex c us h'
 | .no=> .no
theorem run_eq{pg:Tb}{k:Nat}{f:String}{d:Df}{vs:List PV}{h:PH}(hf:pg.fns f=some d)(hn:vs.length=d.ps.length):run pg (k+1) f vs h=fin h (d.body (run pg k) (vs.map some++List.replicate d.nl none) h):=by
 rw[run,hf];simp only[if_pos hn];rfl
theorem d7{α β :Type}{a: α}{h:PH}{f: α ->PH->RV β}:(RV.ok a h).bind f=f a h:=(rfl)
theorem jT{h h':PH}{v:PV}:fin h (.ok (.rt v) h')=settle h v h':=(rfl)
theorem yv{h:PH}{c:Prop}[Decidable c]{a b:RV Fl}:fin h (if c then a else b)=if c then fin h a else fin h b:=by split<;>rfl
theorem jm{h:PH}{v:PV}:settle h v h= .ok v h:=by unfold settle;split<;>simp
theorem cL{h g:PH}{v:PV}(hv:v.flat=true):settle h v (h++g)= .ok v h:=by unfold settle;rw[hv,gI];simp
theorem eR{h h':PH}{v:PV}(hv:v.flat=false):settle h v h'= .ok v h':=by unfold settle;rw[hv];rfl
theorem pJ{h g:PH}{v:PV}{i:Nat}{o o':PO}(hv:v.flat=true)(e:h[i]?=some o)(m:o.ee=o'.ee)(hu:o'.gB h.length=true):settle h v (h.set i o'++g)= .ok v (h.set i o'):=by
 unfold settle;have:bC h.length h (h.set i o'++g)=true:=by
  have h1:=ku hu h (h++g) i o (gI _ h g) e m
  rwa[List.set_append_left _ _ (List.getElem?_eq_some_iff.mp e).1] at h1
 rw[hv,this];simp[List.take_append_of_le_length]
theorem jk{h:PH}{v:PV}{i:Nat}{o o':PO}:settle h v (h.set i o')= .ok v (h.set i o'):=by
 unfold settle;split
 . rw[<- List.length_set (as:=h) (i:=i) (a:=o'),List.take_length]
 . rfl
theorem bI{a b:String}:Str.ofString a=Str.ofString b↔a=b:=by
 refine⟨λe=>?_,λe=>by rw[e]⟩;rw[Str.ofString_eq_toList,Str.ofString_eq_toList] at e;have e1:a.toList.map Char.toNat=b.toList.map Char.toNat:=by
  have:=congrArg (λs:Str=>s.cps.toList) e;simpa using this
 have inj: ∀{l m:List Char},l.map Char.toNat=m.map Char.toNat->l=m:=by
  intro l
  induction l with
  | nil=>intro m h;cases m with | nil=>rfl | cons=>exact nomatch h
  | cons x r ih =>
   intro m h
   cases m with
   | nil=>exact nomatch h
   | cons y t =>
    simp only[List.cons.injEq,List.map_cons] at h
    have:x=y:=Char.toNat_inj.mp h.1
    rw[this,ih h.2]
 exact String.toList_inj.mp (inj e1)
section
variable{c:CF}{e e1:aq}{h h1:PH}{a b d:ME}{t u:MT}{r:MA}{x y v:PV}{f g:PV->PV->PH->RV PV}{s s':MS}{i n:Nat}
noncomputable def E4(f:PV->PV->PH->RV PV)(b:ME)(c:CF)(e:aq)(x:PV)(h1:PH):RV PV:=(b c e h1).bind λy h2=>f x y h2
theorem F4:ag f a b c e h=(a c e h).bind (E4 f b c e):=(rfl)
theorem Dj:E4 f b c e x h1=(b c e h1).bind (f x):=(rfl)
noncomputable def E5(o:Option (Option PV))(h:PH):RV PV:=match o with
 | some (some v)=> .ok v h
 | _=> .no
theorem BJ:ab i c e h=E5 (e[i]?) h:=(rfl)
theorem yJ:E5 (some (some v)) h= .ok v h:=(rfl)
theorem Gj:eC v c e h= .ok v h:=(rfl)
theorem Ek{p:Bool}:yT (.bl p) h= .ok p h:=(rfl)
noncomputable def Hs(b:ME)(c:CF)(e:aq)(x:Bool)(h1:PH):RV PV:=if x=true then .ok (.bl true) h1 else b c e h1
theorem FP:G7 a b c e h=((a c e h).bind yT).bind (Hs b c e):=(rfl)
theorem Bi:Hs b c e true h= .ok (.bl true) h:=(rfl)
theorem Dq:Hs b c e false h=b c e h:=(rfl)
noncomputable def GJ(x:Bool)(h1:PH):RV PV:= .ok (.bl (!x)) h1
theorem BY:CS a c e h=((a c e h).bind yT).bind GJ:=(rfl)
theorem xB{p:Bool}:GJ p h= .ok (.bl (!p)) h:=(rfl)
noncomputable def Fg(a b:ME)(c:CF)(e:aq)(x:Bool)(h1:PH):RV PV:=if x=true then a c e h1 else b c e h1
theorem E3:uc t a b c e h=(t c e h).bind (Fg a b c e):=(rfl)
theorem C0:Fg a b c e true h=a c e h:=(rfl)
theorem B1:Fg a b c e false h=b c e h:=(rfl)
theorem Ds{p:Prop}[Decidable p]:Fg a b c e (decide p) h=if p then a c e h else b c e h:=by unfold Fg;by_cases q:p<;>simp[q]
theorem Bf:aF a c e h=(a c e h).bind yT:=(rfl)
noncomputable def vb(u:MT)(c:CF)(e:aq)(x:Bool)(h1:PH):RV Bool:=if x=true then u c e h1 else .ok false h1
theorem yW:qz t u c e h=(t c e h).bind (vb u c e):=(rfl)
theorem vj:vb u c e true h=u c e h:=(rfl)
theorem xa:vb u c e false h= .ok false h:=(rfl)
noncomputable def Eg(u:MT)(c:CF)(e:aq)(x:Bool)(h1:PH):RV Bool:=if x=true then .ok true h1 else u c e h1
theorem CG:xv t u c e h=(t c e h).bind (Eg u c e):=(rfl)
theorem xo:Eg u c e true h= .ok true h:=(rfl)
theorem zm:Eg u c e false h=u c e h:=(rfl)
noncomputable def AD(x:Bool)(h1:PH):RV Bool:= .ok (!x) h1
theorem zV:yn t c e h=(t c e h).bind AD:=(rfl)
theorem xg{p:Bool}:AD p h= .ok (!p) h:=(rfl)
theorem ze:aV c e h= .ok true h:=(rfl)
theorem yN:ae c e h= .ok [] h:=(rfl)
noncomputable def CL(x:PV)(xs:List PV)(h2:PH):RV (List PV):= .ok (x::xs) h2
noncomputable def GB(r:MA)(c:CF)(e:aq)(x:PV)(h1:PH):RV (List PV):=(r c e h1).bind (CL x)
theorem vC:aa a r c e h=(a c e h).bind (GB r c e):=(rfl)
theorem sN:GB r c e x h=(r c e h).bind (CL x):=(rfl)
theorem tV{xs:List PV}:CL x xs h= .ok (x::xs) h:=(rfl)
theorem pM{α :Type}{n:Nat}{r:RV α}(hn:n<=16777216):iw n r=r:=by unfold iw;exact if_pos hn
noncomputable def Gw(xs:List PV)(h:PH):RV PV:=iw xs.length (.ok (.tup xs) h)
theorem Bs:av r c e h=(r c e h).bind Gw:=(rfl)
theorem xp{xs:List PV}:Gw xs h=iw xs.length (.ok (.tup xs) h):=(rfl)
noncomputable def Fm(xs:List PV)(h:PH):RV PV:=iw xs.length (.ok (.ref h.length) (h++[.lst xs]))
theorem Bd:ba r c e h=(r c e h).bind Fm:=(rfl)
theorem zL{xs:List PV}:Fm xs h=iw xs.length (.ok (.ref h.length) (h++[.lst xs])):=(rfl)
theorem xw{f:String}:ai f r c e h=(r c e h).bind (c f):=(rfl)
theorem HW{f:List PV->PH->RV PV}:eB f r c e h=(r c e h).bind f:=(rfl)
noncomputable def Il(f:PV->List PV->PH->RV PV)(ty:PV->PH->Bool)(r:MA)(c:CF)(e:aq)(x:PV)(h1:PH):RV PV:=if ty x h1=true then(r c e h1).bind (f x) else .no
theorem Ht{f:PV->List PV->PH->RV PV}{ty:PV->PH->Bool}:eM f ty a r c e h=(a c e h).bind (Il f ty r c e):=(rfl)
noncomputable def xq(s:MS)(c:CF)(f:Fl)(h1:PH):RV Fl:=match f with
 | .nx e1=>s c e1 h1
 | f=> .ok f h1
theorem wU:ah s s' c e h=(s c e h).bind (xq s' c):=(rfl)
theorem rE:xq s c (.nx e) h=s c e h:=(rfl)
theorem Ac:xq s c (.rt v) h= .ok (.rt v) h:=(rfl)
theorem Fc:eA c e h= .ok (.nx e) h:=(rfl)
noncomputable def IT(e:aq)(_:PV)(h1:PH):RV Fl:= .ok (.nx e) h1
theorem xZ:cj a c e h=(a c e h).bind (IT e):=(rfl)
theorem wq:IT e x h= .ok (.nx e) h:=(rfl)
noncomputable def GD(v:PV)(h1:PH):RV Fl:= .ok (.rt v) h1
theorem Bz:aN a c e h=(a c e h).bind GD:=(rfl)
theorem yV:GD v h= .ok (.rt v) h:=(rfl)
noncomputable def uU(s s':MS)(c:CF)(e:aq)(x:Bool)(h1:PH):RV Fl:=if x=true then s c e h1 else s' c e h1
theorem Bp:dU t s s' c e h=(t c e h).bind (uU s s' c e):=(rfl)
theorem yM:uU s s' c e true h=s c e h:=(rfl)
theorem x5:uU s s' c e false h=s' c e h:=(rfl)
theorem yt{p:Prop}[Decidable p]:uU s s' c e (!decide p) h=if p then s' c e h else s c e h:=by unfold uU;by_cases q:p<;>simp[q]
noncomputable def HS(e1:aq)(h2:PH):RV Fl:= .ok (.nx e1) h2
noncomputable def Fo(g:MG)(e:aq)(v:PV)(h1:PH):RV Fl:=(g v e h1).bind HS
theorem Cw{g:MG}:aA a g c e h=(a c e h).bind (Fo g e):=(rfl)
theorem xT:Fo (gN i) e v h= .ok (.nx (e.set i (some v))) h:=(rfl)
theorem wA:gN i v e h= .ok (e.set i (some v)) h:=(rfl)
theorem vv{gs:List PV->aq->PH->RV aq}{x1 x2:PV}:gT 2 gs (.tup [x1,x2]) e h=gs [x1,x2] e h:=(rfl)
theorem DM{gs:List PV->aq->PH->RV aq}{x1 x2 x3:PV}:gT 3 gs (.tup [x1,x2,x3]) e h=gs [x1,x2,x3] e h:=(rfl)
theorem vd:eL [] e h= .ok e h:=(rfl)
theorem ql{g:MG}{r:List PV->aq->PH->RV aq}{t:List PV}:aZ g r (v::t) e h=(g v e h).bind (r t):=(rfl)
noncomputable def v9(f:PV->PV->PV->PH->RV Unit)(e:aq)(v x y:PV)(h3:PH):RV Fl:=(f x y v h3).bind λ_ h4=> .ok (.nx e) h4
noncomputable def v8(f:PV->PV->PV->PH->RV Unit)(i:ME)(c:CF)(e:aq)(v x:PV)(h2:PH):RV Fl:=(i c e h2).bind (v9 f e v x)
noncomputable def AF(f:PV->PV->PV->PH->RV Unit)(o i:ME)(c:CF)(e:aq)(v:PV)(h1:PH):RV Fl:=(o c e h1).bind (v8 f i c e v)
theorem Ej{f:PV->PV->PV->PH->RV Unit}{o i:ME}:l8 f o i a c e h=(a c e h).bind (AF f o i c e):=(rfl)
theorem zu{f:PV->PV->PV->PH->RV Unit}{o i:ME}:AF f o i c e v h=(o c e h).bind (v8 f i c e v):=(rfl)
theorem xU{f:PV->PV->PV->PH->RV Unit}{i:ME}:v8 f i c e v x h=(i c e h).bind (v9 f e v x):=(rfl)
noncomputable def IS(e:aq)(_:Unit)(h:PH):RV Fl:= .ok (.nx e) h
theorem xR{f:PV->PV->PV->PH->RV Unit}:v9 f e v x y h=(f x y v h).bind (IS e):=(rfl)
theorem B4{u:Unit}:IS e u h= .ok (.nx e) h:=(rfl)
noncomputable def cg(g:MG)(s:MS)(c:CF)(x:PV)(e:aq)(h:PH):RV Fl:=(g x e h).bind (s c)
noncomputable def fork(g:MG)(s:MS)(c:CF)(e:aq)(it:js)(h1:PH):RV Fl:=bE it (cg g s c) it.items e h1
theorem vY{i:MI}{g:MG}:iG i g s c e h=(i c e h).bind (fork g s c e):=(rfl)
theorem qW{g:MG}{it:js}:fork g s c e it h=bE it (cg g s c) it.items e h:=(rfl)
theorem om{g:MG}:cg g s c x e h=(g x e h).bind (s c):=(rfl)
theorem DE:iJ a c e h=(a c e h).bind nc:=(rfl)
theorem Bv{xs:List PV}:nc (.tup xs) h= .ok ⟨none,xs⟩ h:=(rfl)
noncomputable def Hz(n:Nat)(h:PH)(o:Option PO):RV js:=match o with
 | some (.lst xs)=> .ok ⟨some n,xs⟩ h
 | some (.iu xs)=> .ok ⟨some n,xs⟩ h
 | _=> .no
theorem wk{n:Nat}:nc (.ref n) h=Hz n h (h[n]?):=by
 have e:nc (.ref n) h=(match bV h n with | some xs=> .ok ⟨some n,xs⟩ h | none=> .no):=rfl;rw[e];unfold bV Hz;generalize h[n]?=oo;cases oo with
 | none=>rfl
 | some o=>cases o<;>rfl
theorem uz{n:Nat}{xs:List PV}:Hz n h (some (.lst xs))= .ok ⟨some n,xs⟩ h:=(rfl)
noncomputable def Hg (vs:List PV) (h1:PH):RV js:=match vs with
 | [.int j]=>if -(2 ^ 62)<=j∧j < 2 ^ 62 then .ok ⟨none,ax 0 j.toNat⟩ h1 else .no
 | _=> .no
theorem vD : dw r c e h = (r c e h).bind Hg := by
  unfold dw;generalize r c e h = z;cases z with
  | ok a b =>
    rw [cm, cm]
    unfold Hg
    split
    . rfl
    . rename_i hx
      first
      | rfl
      | (split
         . exact absurd rfl (hx _)
         . rfl)
  | ex a b d => rfl
  | no => rfl
theorem qU {j:Int} (hj: -4611686018427387904<=j∧j < 4611686018427387904):Hg [.int j] h= .ok ⟨none,ax 0 j.toNat⟩ h:=by
 unfold Hg;exact if_pos (by omega)
noncomputable def G8 (it:js) (step:PV->aq->PH->RV Fl) (xs:List PV) (f:Fl) (h1:PH):RV Fl:=match f with
 | .nx e1=>bE it step xs e1 h1
 | .ct e1=>bE it step xs e1 h1
 | .bk e1=> .ok (.nx e1) h1
 | .rt v=> .ok (.rt v) h1
theorem iH{xs:List PV}{step:PV->aq->PH->RV Fl}:bE ⟨none,xs⟩ step [] e h= .ok (.nx e) h:=(rfl)
theorem jb{xs ys:List PV}{step:PV->aq->PH->RV Fl}:bE ⟨none,xs⟩ step (y::ys) e h=(step y e h).bind (G8 ⟨none,xs⟩ step ys):=(rfl)
theorem nF{it:js}{step:PV->aq->PH->RV Fl}(hf:it.gF h=true):bE it step [] e h= .ok (.nx e) h:=by rw[bE,if_pos hf]
theorem mC{it:js}{ys:List PV}{step:PV->aq->PH->RV Fl}(hf:it.gF h=true):bE it step (y::ys) e h=(step y e h).bind (G8 it step ys):=by rw[bE,if_pos hf];rfl
theorem dA{it:js}{xs:List PV}{step:PV->aq->PH->RV Fl}:G8 it step xs (.nx e) h=bE it step xs e h:=(rfl)
theorem qE{it:js}{xs:List PV}{step:PV->aq->PH->RV Fl}:G8 it step xs (.rt v) h= .ok (.rt v) h:=(rfl)
noncomputable def BH(ys:List PV)(h2:PH):RV PV:= .ok (.ref h2.length) (h2++[.lst ys])
noncomputable def GO(k:Nat)(g:MG)(t:MT)(a:ME)(c:CF)(e:aq)(it:js)(h1:PH):RV PV:=(eZ it (aY k g t a c e) it.items [] h1).bind BH
theorem GA{k:Nat}{i:MI}{g:MG}:jf k i g t a c e h=(i c e h).bind (GO k g t a c e):=(rfl)
theorem Cu{k:Nat}{g:MG}{it:js}:GO k g t a c e it h=(eZ it (aY k g t a c e) it.items [] h).bind BH:=(rfl)
theorem B2{ys:List PV}:BH ys h= .ok (.ref h.length) (h++[.lst ys]):=(rfl)
noncomputable def yy(y:PV)(h4:PH):RV (Option PV):= .ok (some y) h4
noncomputable def t8(a:ME)(c:CF)(e2:aq)(b:Bool)(h3:PH):RV (Option PV):=if b=true then(a c e2 h3).bind yy else .ok none h3
noncomputable def E6(t:MT)(a:ME)(c:CF)(e2:aq)(h2:PH):RV (Option PV):=(t c e2 h2).bind (t8 a c e2)
theorem FJ{k:Nat}{g:MG}:aY k g t a c e x h=(g x (e++List.replicate k none) h).bind (E6 t a c):=(rfl)
theorem DN:E6 t a c e h=(t c e h).bind (t8 a c e):=(rfl)
theorem zE:t8 a c e true h=(a c e h).bind yy:=(rfl)
theorem zo:t8 a c e false h= .ok none h:=(rfl)
theorem xS{p:Prop}[Decidable p]:t8 a c e (!decide p) h=if p then .ok none h else(a c e h).bind yy:=by unfold t8;by_cases q:p<;>simp[q]
theorem Eb:yy y h= .ok (some y) h:=(rfl)
theorem dY{α :Type}{it:js}(hf:it.gF h=true){step:PV->PH->RV (Option PV)}{f: α ->Option PV}{g: α ->PV}: ∀(l:List α)(ys:List PV),(∀ x∈l,step (g x) h= .ok (f x) h)->l.length+ys.length<=16777216->eZ it step (l.map g) ys h= .ok (ys++l.filterMap f) h
 | [],ys,_,_=>by rw[List.map_nil,eZ,if_pos hf];simp
 | x::xs,ys,hs,hl=>by
  have hl':ys.length < sizeLine:=by rw[List.length_cons] at hl;show ys.length < 16777216;omega
  rw[List.map_cons,eZ,if_pos ⟨hf,hl'⟩,hs x List.mem_cons_self,cm];cases q:f x with
  | none=>exact(dY hf xs ys (λy m=>hs y (List.mem_cons_of_mem _ m)) (by rw[List.length_cons] at hl;omega)).trans (by rw[List.filterMap_cons_none q])
  | some y=>exact(dY hf xs (ys++[y]) (λz m=>hs z (List.mem_cons_of_mem _ m)) (by rw[List.length_cons] at hl;simp;omega)).trans (by rw[List.filterMap_cons_some q];simp)
end
section
variable{h:PH}{i j:Int}{a b:Str}{x y z w u v:PV}{r xs ys:List PV}{p q:Bool}{n m:Nat}
theorem zW:qf (.int i) (.int j) h= .ok (.int (i - j)) h:=(rfl)
theorem Ak:bq (.int i) (.int j) h= .ok (.int (i+j)) h:=(rfl)
theorem jL(hl:xs.length+ys.length<=16777216):bq (.tup xs) (.tup ys) h= .ok (.tup (xs++ys)) h:=pM hl
theorem nj(e1:h[n]?=some (.lst xs))(e2:h[m]?=some (.lst ys))(hl:xs.length+ys.length<=16777216):bq (.ref n) (.ref m) h= .ok (.ref h.length) (h++[.lst (xs++ys)]):=by
 unfold bq;simp only[e1,e2];exact pM (by simpa using hl)
theorem yk(hj:0 < j):iY (.int i) (.int j) h= .ok (.int (i % j)) h:=by unfold iY p2;simp[hj,x8,cm]
theorem xc(hj:0 < j/\j < 1073741824):kq (.int i) (.int j) h= .ok (.int (i / j)) h:=by unfold kq p2;simp[hj,x8,cm]
theorem nz(hj:0<=j/\j<=1000000/\i.natAbs < 18446744073709551616):ym (.int i) (.int j) h= .ok (.int (i ^ j.toNat)) h:=by
 unfold ym p2;simp only;rw[if_pos (by exact⟨hj.1,hj.2.1,by have:=hj.2.2;omega⟩)];rfl
theorem y8(hi: -18446744073709551616 < i/\i < 18446744073709551616):cx (.int i) (.int j) h= .ok (.int (i*j)) h:=if_pos (.inl (by omega))
theorem mV(hj: -18446744073709551616 < j/\j < 18446744073709551616):cx (.int i) (.int j) h= .ok (.int (i*j)) h:=if_pos (.inr (by omega))
theorem Bt:yf (.int i) (.int j) h= .ok (.bl (decide (i < j))) h:=(rfl)
theorem jc:Gy (.int i) (.int j) h= .ok (.bl (decide (j < i))) h:=(rfl)
theorem pF:HI (.int i) (.int j) h= .ok (.bl (decide (j<=i))) h:=(rfl)
theorem xC:dh (.str a) (.str b) h= .ok (.bl (decide (a=b))) h:=by simp[dh,alike,gR]
theorem zR:dh (.int i) (.int j) h= .ok (.bl (decide (i=j))) h:=by simp[dh,alike,gR]
theorem xG:dh (.bl p) (.bl q) h= .ok (.bl (decide (p=q))) h:=by simp[dh,alike,gR]
theorem An:jD (.str a) (.str b) h= .ok (.bl (!decide (a=b))) h:=by simp[jD,alike,gR,fq]
theorem zO:jD (.int i) (.int j) h= .ok (.bl (!decide (i=j))) h:=by simp[jD,alike,gR,fq]
theorem Af:ao (.tup (x::r)) (.int 0) h= .ok x h:=by
 simp only[ao,cZ,lD];rw[if_pos (by decide),if_pos (by simp only[List.length_cons];omega)];rfl
theorem y9:ao (.tup (x::y::r)) (.int 1) h= .ok y h:=by
 simp only[ao,cZ,lD];rw[if_pos (by decide),if_pos (by simp only[List.length_cons];omega)];rfl
theorem Ck:ao (.tup (x::y::z::r)) (.int 2) h= .ok z h:=by
 simp only[ao,cZ,lD];rw[if_pos (by decide),if_pos (by simp only[List.length_cons];omega)];rfl
theorem Dp:ao (.tup (x::y::z::w::r)) (.int 3) h= .ok w h:=by
 simp only[ao,cZ,lD];rw[if_pos (by decide),if_pos (by simp only[List.length_cons];omega)];rfl
theorem FN:ao (.tup (x::y::z::w::u::r)) (.int 4) h= .ok u h:=by
 simp only[ao,cZ,lD];rw[if_pos (by decide),if_pos (by simp only[List.length_cons];omega)];rfl
theorem tF(e:cZ xs i=some v):ao (.tup xs) (.int i) h= .ok v h:=by simp only[ao,e]
theorem fZ{α :Type}{xs:List α}{i:Int}{n:Nat}(e:i=(n:Int)){v: α}(q:xs[n]?=some v):cZ xs i=some v:=by
 have hl:n < xs.length:=(List.getElem?_eq_some_iff.mp q).1;subst e;unfold cZ lD;rw[if_pos (by omega),if_pos (by omega)];simpa using q
noncomputable def Es(y:PV)(h:PH)(o:Option PO):RV PV:=match o with
 | some (.dct kvs)=>(match fO y with
  | some k=>(match bR kvs k with | some v=> .ok v h | none=> .no)
  | none=> .no)
 | some (.lst xs)=>(match y with
  | .int i=>(match cZ xs i with | some v=> .ok v h | none=> .no)
  | _=> .no)
 | some (.iu xs)=>(match y with
  | .int i=>(match cZ xs i with | some v=> .ok v h | none=> .no)
  | _=> .no)
 | none=> .no
theorem o8:ao (.ref n) y h=Es y h (h[n]?):=by
 unfold Es;simp only[ao]
 all_goals (generalize h[n]?=oo;rcases oo with _ | o<;>first | rfl | (cases o<;>rfl))
noncomputable def Hi(h:PH)(o:Option PV):RV PV:=match o with
 | some v=> .ok v h
 | none=> .no
theorem Gb{kvs:List (Key × PV)}:Es (.str a) h (some (.dct kvs))=Hi h (bR kvs (.inr a)):=(rfl)
theorem tf:Es (.int i) h (some (.lst xs))=Hi h (cZ xs i):=(rfl)
theorem E2:Es (.int i) h (some (.iu xs))=Hi h (cZ xs i):=(rfl)
theorem yg:Hi h (some v)= .ok v h:=(rfl)
theorem nv{k:Key}{kvs:List (Key × PV)}:bR ((k,v)::kvs) k=some v:=by simp[bR]
theorem ox{k k':Key}{kvs:List (Key × PV)}(ne:k'≠k):bR ((k',v)::kvs) k=bR kvs k:=by simp[bR,ne]
noncomputable def vP(n:Nat)(y v:PV)(h:PH)(o:Option PO):RV Unit:=match o with
 | some (.dct kvs)=>(match fO y with
  | some k=>if kvs.length < sizeLine then .ok () (h.set n (.dct (eF kvs k v))) else .no
  | none=> .no)
 | some (.lst xs)=>(match y with
  | .int i=>(match lD xs.length i with | some j=> .ok () (h.set n (.lst (xs.set j v))) | none=> .no)
  | _=> .no)
 | _=> .no
theorem Fn:kr (.ref n) y v h=vP n y v h (h[n]?):=by
 unfold vP;simp only[kr]
 all_goals (generalize h[n]?=oo;rcases oo with _ | o<;>first | rfl | (cases o<;>rfl))
theorem qP{kvs:List (Key × PV)}(hl:kvs.length < 16777216):vP n (.str a) v h (some (.dct kvs))= .ok () (h.set n (.dct (eF kvs (.inr a) v))):=if_pos hl
noncomputable def HQ(n:Nat)(v:PV)(h:PH)(o:Option PO):RV PV:=match o with
 | some (.lst xs)=>if xs.length < sizeLine then .ok .non (h.set n (.lst (xs++[v]))) else .no
 | _=> .no
theorem Hy:aQ (.ref n) [v] h=HQ n v h (h[n]?):=by
 unfold HQ;simp only[aQ]
 all_goals (generalize h[n]?=oo;rcases oo with _ | o<;>first | rfl | (cases o<;>rfl))
theorem kU(hl:xs.length < 16777216):HQ n v h (some (.lst xs))= .ok .non (h.set n (.lst (xs++[v]))):=if_pos hl
theorem len_T:bZ [.tup xs] h= .ok (.int xs.length) h:=(rfl)
theorem FK(e:h[n]?=some (.lst xs)):bZ [.ref n] h= .ok (.int xs.length) h:=by simp[bZ,itemsOf,bV,e]
theorem Fq(e:h[n]?=some (.iu xs)):bZ [.ref n] h= .ok (.int xs.length) h:=by simp[bZ,itemsOf,bV,e]
theorem FI:ph [.bl p] h= .ok (.int (if p then 1 else 0)) h:=(rfl)
section
variable{c:CF}{e:aq}{d k1 k2:ME}{rr:MA}{kvs:List (Key × PV)}{ff:PV->List PV->PH->RV PV}
noncomputable def Hu(a:Str)(z:PV)(h:PH)(o:Option PO):RV PV:=match o with
 | some (.dct kvs)=> .ok ((bR kvs (.inr a)).getD z) h
 | _=> .no
noncomputable def Hd(x y z:PV)(h3:PH):RV PV:=match x,fO y with
 | .ref n,some key=>(match h3[n]? with
  | some (.dct kvs)=> .ok ((bR kvs key).getD z) h3
  | _=> .no)
 | _,_=> .no
noncomputable def G5(b:ME)(c:CF)(e:aq)(x y:PV)(h2:PH):RV PV:=(b c e h2).bind (Hd x y)
noncomputable def HK(a b:ME)(c:CF)(e:aq)(x:PV)(h1:PH):RV PV:=if fq h1 x=true then(a c e h1).bind (G5 b c e x) else .no
noncomputable def Io(a b:ME)(c:CF)(e:aq)(n:Nat)(h:PH)(o:Option PO):RV PV:=match o with
 | some (.dct _)=>(a c e h).bind (G5 b c e (.ref n))
 | _=> .no
theorem DS:rh d k1 k2 c e h=(d c e h).bind (HK k1 k2 c e):=(rfl)
theorem zB:HK k1 k2 c e (.ref n) h=Io k1 k2 c e n h (h[n]?):=by
 unfold HK Io fq;cases q:h[n]? with
 | none=>simp[q]
 | some o=>cases o<;>simp[q]
theorem vU:Io k1 k2 c e n h (some (.dct kvs))=(k1 c e h).bind (G5 k2 c e (.ref n)):=(rfl)
theorem x9:G5 k2 c e x y h=(k2 c e h).bind (Hd x y):=(rfl)
theorem xD:Hd (.ref n) (.str a) z h=Hu a z h (h[n]?):=by
 unfold Hd Hu fO;simp only
theorem wC:Hu a z h (some (.dct kvs))= .ok ((bR kvs (.inr a)).getD z) h:=(rfl)
noncomputable def Ii(f:PV->List PV->PH->RV PV)(r:MA)(c:CF)(e:aq)(n:Nat)(h:PH)(o:Option PO):RV PV:=match o with
 | some (.lst _)=>(r c e h).bind (f (.ref n))
 | _=> .no
theorem E7:Il ff bN rr c e (.ref n) h=Ii ff rr c e n h (h[n]?):=by
 unfold Il Ii bN;cases q:h[n]? with
 | none=>simp[q]
 | some o=>cases o<;>simp[q]
theorem C8:Ii ff rr c e n h (some (.lst xs))=(rr c e h).bind (ff (.ref n)):=(rfl)
noncomputable def DG(ys:List PV)(h:PH)(o:Option (List (Key × PV))):RV PV:=match o with
 | some kvs=>if ys.length < sizeLine then .ok (.ref h.length) (h++[.dct (bG [] kvs)]) else .no
 | none=> .no
theorem CJ:oK [.tup ys] h=DG ys h (fK ys):=by
 unfold oK DG;cases q:fK ys<;>simp[q]
theorem ve(hl:ys.length < 16777216):DG ys h (some kvs)= .ok (.ref h.length) (h++[.dct (bG [] kvs)]):=if_pos hl
theorem uv:nq c e h= .ok (.ref h.length) (h++[.dct []]):=(rfl)
end
noncomputable def Hw(h:PH)(o:Option PO):RV PV:=match o with
 | some (.lst xs)=> .ok (.tup xs) h
 | some (.iu xs)=> .ok (.tup xs) h
 | _=> .no
theorem mQ:az [.ref n] h=Hw h (h[n]?):=by
 unfold Hw;cases q:h[n]? with
 | none=>simp[az,bV,q]
 | some o=>cases o<;>simp[az,bV,q]
theorem j5:Hw h (some (.lst xs))= .ok (.tup xs) h:=(rfl)
noncomputable def Im(h:PH)(o:Option PO):RV PV:=match o with
 | some (.lst xs)=> .ok (.int xs.length) h
 | some (.iu xs)=> .ok (.int xs.length) h
 | some (.dct kvs)=> .ok (.int kvs.length) h
 | _=> .no
theorem EC:bZ [.ref n] h=Im h (h[n]?):=by
 unfold Im;cases q:h[n]? with
 | none=>simp[bZ,itemsOf,bV,q]
 | some o=>cases o<;>simp[bZ,itemsOf,bV,q]
theorem DW:Im h (some (.lst xs))= .ok (.int xs.length) h:=(rfl)
theorem jZ{a:Str}: ∀{ss:List Str},((ss.map PV.str).any λz=>Et z (.str a))=decide (a∈ss)
 | []=>by simp
 | x::t=>by
  rw[List.map_cons,List.any_cons,jZ];by_cases e:x=a
  . subst e;simp[Et]
  . have e': ¬ a=x:=λz=>e z.symm;simp[Et,e,e']
theorem all_strs: ∀{ss:List Str},((ss.map PV.str).all dZ)=true
 | []=>rfl
 | x::t=>by rw[List.map_cons,List.all_cons,all_strs];rfl
theorem tq{ss:List Str}:nK (.str a) (.tup (ss.map PV.str)) h= .ok (.bl (decide (a∈ss))) h:=by
 have:isIn (.str a) (.tup (ss.map PV.str)) h=some (decide (a∈ss)):=by
  unfold isIn;simp only[itemsOf,all_strs,dZ,Bool.and_self,if_true,jZ]
 unfold nK;rw[this]
theorem yu{ss:List Str}:jU (.str a) (.tup (ss.map PV.str)) h= .ok (.bl (!decide (a∈ss))) h:=by
 have:isIn (.str a) (.tup (ss.map PV.str)) h=some (decide (a∈ss)):=by
  unfold isIn;simp only[itemsOf,all_strs,dZ,Bool.and_self,if_true,jZ]
 unfold jU;rw[this]
section
variable{c:CF}{e:aq}{d:ME}{l uu:MO}
noncomputable def Be(uu:MO)(c:CF)(e:aq)(x:PV)(lo:Option Int)(h:PH):RV PV:=(uu c e h).bind (AE x lo)
noncomputable def EY(l uu:MO)(c:CF)(e:aq)(x:PV)(h:PH):RV PV:=(l c e h).bind (Be uu c e x)
theorem EJ:vQ d l uu c e h=(d c e h).bind (EY l uu c e):=(rfl)
theorem DT:EY l uu c e x h=(l c e h).bind (Be uu c e x):=(rfl)
theorem BL{lo:Option Int}:Be uu c e x lo h=(uu c e h).bind (AE x lo):=(rfl)
theorem F1:ip c e h= .ok none h:=(rfl)
noncomputable def IC(v:PV)(h1:PH):RV (Option Int):=match v with
 | .int i=> .ok (some i) h1
 | _=> .no
theorem EG:eN d c e h=(d c e h).bind IC:=(rfl)
theorem Bk:IC (.int i) h= .ok (some i) h:=(rfl)
theorem Hv{lo hi:Option Int}:AE (.tup xs) lo hi h= .ok (.tup (ef xs lo hi)) h:=(rfl)
noncomputable def H9(lo hi:Option Int)(h:PH)(o:Option PO):RV PV:=match o with
 | some (.lst xs)=> .ok (.ref h.length) (h++[.lst (ef xs lo hi)])
 | some (.iu xs)=> .ok (.ref h.length) (h++[.lst (ef xs lo hi)])
 | _=> .no
theorem HB{lo hi:Option Int}:AE (.ref n) lo hi h=H9 lo hi h (h[n]?):=by
 unfold H9;cases q:h[n]? with
 | none=>simp[AE,bV,q]
 | some o=>cases o<;>simp[AE,bV,q]
theorem Gx{lo hi:Option Int}:H9 lo hi h (some (.lst xs))= .ok (.ref h.length) (h++[.lst (ef xs lo hi)]):=(rfl)
theorem oG{lo:Int}(h0:0<=lo):ef xs (some lo) none=xs.drop lo.toNat:=by
 have e:lo=((lo.toNat:Nat):Int):=by omega
 unfold ef;rw[e,HT.jJ,HT.gO];simp only[Int.toNat_natCast];rcases Nat.le_total lo.toNat xs.length with z | z
 . rw[Nat.min_eq_left z];exact List.take_of_length_le (by rw[List.length_drop];omega)
 . rw[Nat.min_eq_right z,List.drop_eq_nil_of_le (Nat.le_refl _),List.drop_eq_nil_of_le z];simp
theorem kL{hi:Int}(h0:0<=hi):ef xs none (some hi)=xs.take hi.toNat:=by
 have e:hi=((hi.toNat:Nat):Int):=by omega
 unfold ef;rw[e,HT.jJ,HT.gO];simp only[Int.toNat_natCast,List.drop_zero,Nat.sub_zero];rcases Nat.le_total hi.toNat xs.length with z | z
 . rw[Nat.min_eq_left z]
 . rw[Nat.min_eq_right z,List.take_of_length_le (Nat.le_refl _),List.take_of_length_le z]
end
variable{o o':PO}{g:PH}{k:Nat}
theorem cD:(h++(o::g))[h.length]?=some o:=by rw[List.getElem?_append_right (Nat.le_refl _)];simp
theorem aK:(h++g)[h.length+k]?=g[k]?:=by rw[List.getElem?_append_right (by omega)];congr 1;omega
theorem aC(hn:n < h.length):(h++g)[n]?=h[n]?:=List.getElem?_append_left hn
theorem gf:(h++g).set h.length o=h++g.set 0 o:=by rw[List.set_append_right _ _ (Nat.le_refl _)];simp
theorem qq:(h++g).set (h.length+k) o=h++g.set k o:=by rw[List.set_append_right _ _ (by omega)];congr 2;omega
theorem aW(e:h[n]?=some o):n < h.length:=(List.getElem?_eq_some_iff.mp e).1
end
section
variable{h:PH}{i j:Int}{a b:Str}{x y z w u v:PV}{r xs ys:List PV}{p q:Bool}{n m:Nat}
theorem Ea:wo [.tup xs,.ty "tuple"] h= .ok (.bl true) h:=(rfl)
theorem jP:cZ (x::r) 0=some x:=by simp only[cZ,lD];rw[if_pos (by decide),if_pos (by simp only[List.length_cons];omega)];rfl
theorem nZ:cZ (x::y::r) 1=some y:=by simp only[cZ,lD];rw[if_pos (by decide),if_pos (by simp only[List.length_cons];omega)];rfl
theorem tZ:cZ (x::y::z::r) 2=some z:=by simp only[cZ,lD];rw[if_pos (by decide),if_pos (by simp only[List.length_cons];omega)];rfl
theorem BZ:cZ (x::y::z::w::r) 3=some w:=by simp only[cZ,lD];rw[if_pos (by decide),if_pos (by simp only[List.length_cons];omega)];rfl
end
section
variable{c:CF}{e:aq}{h h1:PH}{a b:ME}{r:MP}{x y v:PV}{kvs:List (Key × PV)}{key:Key}{s:Str}{i:Int}{n:Nat}
noncomputable def Er(n:Nat)(kvs:List (Key × PV))(h1:PH):RV PV:=if h1[n]?=some (.dct [])/\kvs.length<=15 then .ok (.ref n) (h1.set n (.dct (bG [] kvs))) else .no
noncomputable def Ij(key:Key)(v:PV)(kvs:List (Key × PV))(h3:PH):RV (List (Key × PV)):= .ok ((key,v)::kvs) h3
noncomputable def HH(key:Key)(r:MP)(c:CF)(e:aq)(v:PV)(h2:PH):RV (List (Key × PV)):=(r c e h2).bind (Ij key v)
noncomputable def IW(b:ME)(r:MP)(c:CF)(e:aq)(x:PV)(h1:PH):RV (List (Key × PV)):=match fO x with
 | some key=>(b c e h1).bind (HH key r c e)
 | none=> .no
theorem hI:oy r c e h=(r c e (h++[.dct []])).bind (Er h.length):=(rfl)
theorem kQ:vW c e h= .ok [] h:=(rfl)
theorem jQ:df a b r c e h=(a c e h).bind (IW b r c e):=(rfl)
theorem gS:IW b r c e (.str s) h=(b c e h).bind (HH (.inr s) r c e):=(rfl)
theorem j9:HH key r c e v h=(r c e h).bind (Ij key v):=(rfl)
theorem jS:Ij key v kvs h= .ok ((key,v)::kvs) h:=(rfl)
theorem wO(h1:h[n]?=some (.dct []))(h2:kvs.length<=15):Er n kvs h= .ok (.ref n) (h.set n (.dct (bG [] kvs))):=if_pos ⟨h1,h2⟩
theorem rl(h2:kvs.length<=15):Er h.length kvs (h++[.dct []])= .ok (.ref h.length) (h++[.dct (bG [] kvs)]):=by
 rw[wO cD h2,gf];rfl
end
section
variable{α :Type}{p:List α ->Prop}
theorem Jl(h:p []): ∀ us:List α,us.length=0->p us:=λus e=>by rw[List.length_eq_zero_iff.mp e];exact h
theorem G4{n:Nat}(h: ∀ a: α,∀ us:List α,us.length=n->p (a::us)): ∀ us:List α,us.length=n+1->p us:=λus e=>by
 cases us with
 | nil=>simp at e
 | cons a r=>exact h a r (by simpa using e)
theorem Br(h: ∀ a,p [a]): ∀ us:List α,us.length=1->p us:=G4 λa=>Jl (h a)
theorem ub(h: ∀ a b,p [a,b]): ∀ us:List α,us.length=2->p us:=G4 λa=>Br (h a)
theorem Ew(h: ∀ a b c,p [a,b,c]): ∀ us:List α,us.length=3->p us:=G4 λa=>ub (h a)
theorem Iy(h: ∀ a b c d,p [a,b,c,d]): ∀ us:List α,us.length=4->p us:=G4 λa=>Ew (h a)
end
section
variable{X:Cx}{pg:Tb}{k:Nat}{e iter:Expr}{ma:ME}{mt:MT}{mI:MI}{scope:Scope}{ifs:List Expr}{pos spos py vp wp tp:Pos}{y v w:Str}{i j m n:Nat}
theorem GC.of{K:PySem.W.Frag}(h:Nat.ble n i=true):GC K n (dH i) (gN i):=xY (Nat.le_of_ble_eq_true h)
theorem CB(hi:JI X pg k (.Name v vp) iter mI)
  (hb: ∀ cl C s₀ H₀ ex pn,(cH X pg k->QG (dS X [v] scope cl C s₀ H₀ ex pn) (.Name v vp) (dH m))/\JF (dS X [v] scope cl C s₀ H₀ ex pn) pg k ifs mt/\JE (dS X [v] scope cl C s₀ H₀ ex pn) pg k e ma)
  (hm:Nat.ble X.N.length m=true:=by rfl) (hkind:scope.kind= .function:=by rfl) (hlc:fu scope.names X.env.scope.names X.N [v]=true:=by rfl) (hs: ∀ x,foldedSetIterable iter X.env x=pure x:=by intro _;rfl) :
  JE X pg k (.ListComp e [⟨.Name v vp,iter,ifs,0⟩] scope pos) (jf 1 mI (gN m) mt ma):=oS [v] hkind hlc hi hb (GC.of hm) hs
theorem Dx(hi:JI X pg k (.Tuple [.Name v vp,.Name w wp] j tp) iter mI)
  (hb: ∀ cl C s₀ H₀ ex pn,(cH X pg k->QG (dS X [v,w] scope cl C s₀ H₀ ex pn) (.Tuple [.Name v vp,.Name w wp] j tp) (rY X.K 2 (ji (dH m) (ji (dH n) sO))))/\JF (dS X [v,w] scope cl C s₀ H₀ ex pn) pg k ifs mt/\JE (dS X [v,w] scope cl C s₀ H₀ ex pn) pg k e ma)
  (hm:Nat.ble X.N.length m=true:=by rfl) (hn:Nat.ble X.N.length n=true:=by rfl) (hkind:scope.kind= .function:=by rfl) (hlc:fu scope.names X.env.scope.names X.N [v,w]=true:=by rfl) (hs: ∀ x,foldedSetIterable iter X.env x=pure x:=by intro _;rfl) :
  JE X pg k (.ListComp e [⟨.Tuple [.Name v vp,.Name w wp] j tp,iter,ifs,0⟩] scope pos) (jf 2 mI (gT 2 (aZ (gN m) (aZ (gN n) eL))) mt ma):=oS [v,w] hkind hlc hi hb (wK (gZ (GC.of hm) (gZ (GC.of hn) qS))) hs
theorem B6(hN:X.N.Nodup)(hi:JI X pg k (.Name v vp) iter mI)
  (hb: ∀ cl C s₀ H₀ ex pn,(cH X pg k->QG (dS X [v] scope cl C s₀ H₀ ex pn) (.Name v vp) (dH m))/\JF (dS X [v] scope cl C s₀ H₀ ex pn) pg k ifs mt/\JE (dS X [v] scope cl C s₀ H₀ ex pn) pg k e ma)
  (hm:Nat.ble X.N.length m=true:=by rfl) (hiy:X.N[i]?=some y:=by rfl) (hy:Loc X.env.scope y:=by first | exact Or.inl rfl | exact Or.inr rfl) (hkind:scope.kind= .function:=by rfl) (hlc:fu scope.names X.env.scope.names X.N [v]=true:=by rfl)
  (hsw:swapsWith (.ListComp e [⟨.Name v vp,iter,ifs,0⟩] scope pos) (some (.Name y py)) spos.line X.env=pure true:=by rfl) (hs: ∀ x,foldedSetIterable iter X.env x=pure x:=by intro _;rfl)
  (hf:X.fn y=true\/X.env.scope.names.lookup y=some .local:=by first | exact .inl rfl | exact .inr rfl | assumption) :
  JS X pg k (.Assign [.Name y py] (.ListComp e [⟨.Name v vp,iter,ifs,0⟩] scope pos) spos) (aA (jf 1 mI (gN m) mt ma) (gN i)):=oH [v] i hkind hlc hN hiy hy hi hb (GC.of hm) hsw hs hf
theorem Dd(hN:X.N.Nodup)(hi:JI X pg k (.Tuple [.Name v vp,.Name w wp] j tp) iter mI)
  (hb: ∀ cl C s₀ H₀ ex pn,(cH X pg k->QG (dS X [v,w] scope cl C s₀ H₀ ex pn) (.Tuple [.Name v vp,.Name w wp] j tp) (rY X.K 2 (ji (dH m) (ji (dH n) sO))))/\JF (dS X [v,w] scope cl C s₀ H₀ ex pn) pg k ifs mt/\JE (dS X [v,w] scope cl C s₀ H₀ ex pn) pg k e ma)
  (hm:Nat.ble X.N.length m=true:=by rfl) (hn:Nat.ble X.N.length n=true:=by rfl) (hiy:X.N[i]?=some y:=by rfl) (hy:Loc X.env.scope y:=by first | exact Or.inl rfl | exact Or.inr rfl) (hkind:scope.kind= .function:=by rfl) (hlc:fu scope.names X.env.scope.names X.N [v,w]=true:=by rfl)
  (hsw:swapsWith (.ListComp e [⟨.Tuple [.Name v vp,.Name w wp] j tp,iter,ifs,0⟩] scope pos) (some (.Name y py)) spos.line X.env=pure true:=by rfl) (hs: ∀ x,foldedSetIterable iter X.env x=pure x:=by intro _;rfl)
  (hf:X.fn y=true\/X.env.scope.names.lookup y=some .local:=by first | exact .inl rfl | exact .inr rfl | assumption) :
  JS X pg k (.Assign [.Name y py] (.ListComp e [⟨.Tuple [.Name v vp,.Name w wp] j tp,iter,ifs,0⟩] scope pos) spos) (aA (jf 2 mI (gT 2 (aZ (gN m) (aZ (gN n) eL))) mt ma) (gN i)):=oH [v,w] i hkind hlc hN hiy hy hi hb (wK (gZ (GC.of hm) (gZ (GC.of hn) qS))) hsw hs hf
end
end P3
end
section
open PySem PySem.W PyProof.Rows
namespace L2
open PySem PySem.Spec PyProof.Rows
end L2
namespace P3
open PySem PySem.Spec PyProof.Rows L2
section
variable{X:Cx}{pg:Tb}{k:Nat}
noncomputable def EM(K:PySem.W.Frag):List V->Hp->VK->Prop:=λxs H Q=> ∃ p d,xs=[.ref p]/\bo K H d (.ref p)/\d.showable=true/\d.hasDict=false/\d.depth<=64/\d.shown.length<=sizeLine/\Q (.str d.shown) H
theorem wg(gd:X.A.guards=some [])(hu:X.A.units+66 < cLine):aM X (.builtin "repr") (EM X.K):=by
 intro pins s σ H xs us Q I r h;obtain⟨p,d,rfl,hd,h1,h2,h3,h4,q⟩:=h;obtain⟨u,rfl,ru⟩:=vals1 r;cases(show u=Value.ref p from ru);obtain⟨as,ra⟩:=bo.reads I d _ _ hd ru;exact repr_of_reads' ra h1 (λz=>by rw[h2] at z;exact nomatch z) gd (by omega) (λ_ _ z=>z) (λh' u tk kp=>⟨.str d.shown,H,I.kept kp,⟨u,rfl⟩,q⟩) h4
noncomputable def dc:List PV->PH->RV PV:=λxs h=>match xs with
 | [.tup ys]=>(match dat 6 h (.tup ys) with
  | some d=>if d.showable=true/\d.hasDict=false/\d.depth<=64/\d.shown.length<=sizeLine then .ok (.str d.shown) h else .no
  | none=> .no)
 | _=> .no
theorem DU:cH X pg k-> ∃ r,aM X (.builtin "repr") r/\vH X.K r dc:=λA=>⟨_,wg A.room.gd (by have:=A.room.un;omega),fun ρ h H xs us Q v h' s r q P=>by
 unfold dc at q;split at q
 . split at q
   . rename_i ys d e;split at q
     . rename_i c;cases q;obtain⟨u,rfl,r1⟩:=bp r;have dv:=dat.v s 6 _ _ _ e r1;have r1':=r1;rw[rel] at r1';obtain⟨a,vs,rfl,_,_⟩:=r1';exact⟨a,d,rfl,dv,c.1,c.2.1,c.2.2.1,c.2.2.2,P _ ρ H (.refl _ _) s (by rw[rel])⟩
     . exact nomatch q
   . exact nomatch q
 . exact nomatch q⟩
theorem rJ: ∀(n b:Nat)(vs:List Value),vs.length=n->(∀ j v,vs[j]?=some v-> ∃ t,v=Value.int ((b+j:Nat):Int) t)->Vals ((List.range' b n).map λi:Nat=>V.int (i:Int)) vs
 | 0,b,vs,hl,_=>by
  cases vs with
  | nil=>exact .nil
  | cons v r=>exact nomatch hl
 | n+1,b,vs,hl,h=>by
  cases vs with
  | nil=>exact nomatch hl
  | cons v r =>
   rw[List.range'_succ,List.map_cons]
   refine .cons ?_ (rJ n (b+1) r (by simpa using hl) λj v e=>?_)
   . obtain⟨t,rfl⟩:=h 0 v rfl;exact⟨t,rfl⟩
   . obtain⟨t,rfl⟩:=h (j+1) v e;exact⟨t,by congr 2;omega⟩
variable{a:Expr}{ta:TA}{mr:MA}{p p2 p3 pos:Pos}
noncomputable def Jh(ta:TA):TE:=fun σ H Q=>ta σ H λvs H1=> ∃ n:Nat,vs=[.int n]/\n<=100000/\ ∀ l,H1 l=none->Q (.ref l) (upd H1 l (.lst ((List.range n).map λi:Nat=>V.int (i:Int))))
theorem sL(hL:Gl X "list")(mL:X.mg "list" =none)(hR:Gl X "range")(mR:X.mg "range" =none)(hd:X.A.handled=none)(ha:PA X [a] ta)(hs:starEach [a] X.env=[(false,eval a X.env)])(hs2:starEach [.Call (.Name "range" p2) [a] [] p3] X.env=[(false,eval (.Call (.Name "range" p2) [a] [] p3) X.env)]) :
  PE X (.Call (.Name "list" p) [.Call (.Name "range" p2) [a] [] p3] [] pos) (Jh ta):=by
 intro pins s σ H Q I h;refine Call_ (iO I hL mL boot_list (PyProof.Rows.callWith_type1 ?_ hs2 rfl));rw[hs2];refine Calls.spliced_cons ?_;refine Call_ (iO I hR mR boot_range (PyProof.Rows.callWith_type1 (cA (ha p3 pins s σ H _ I h) λus s1 ⟨vs,H1,I1,r1,q1⟩=>?_) hs rfl));obtain⟨n,e,hn,q⟩:=q1;subst e;cases r1 with
 | cons r rr =>
  cases rr
  obtain⟨t,rfl⟩:=r
  refine call_range_1 (Calls.spliced_nil ?_)
  have rs:Builtin.Range.rangeSize 0 (n:Int) 1=(n:Nat):=by rw[rangeSize_one];split<;>omega
  refine call_list_range hd (IsRange.new ..) (small_one (by omega) (by omega) (by omega) (by omega)) rs (by omega) λh' tk acc c' kp e it=>?_
  have I2:=I1.kept (t':=s1.toks+1+1) λb o e=>Heap.get?_push_of_some { cls:=Value.type "range",data:=Data.fields #[Value.int 0 s1.toks,Value.int (n:Int) t,Value.int 1 (s1.toks+1)] } e
  refine⟨.ref _,_,I2.laid (t':=tk) kp (Nat.le_refl _) (show aP X.prog X.w _ h' _ (.lst ((List.range n).map λi:Nat=>V.int (i:Int))) from⟨?_,acc.toList,c',?_,by rw[e]⟩),rfl,q _ (I2.bc.fresh (Nat.le_refl _))⟩
  . rw[List.length_map,List.length_range];exact Nat.le_trans hn (by decide)
  . rw[List.range_eq_range'];refine rJ n 0 acc.toList (by rw[Array.length_toList];exact it.1) λj v e=>?_;obtain⟨t,rfl⟩:=it.2 j v (by rw[<- e,Array.getElem?_toList]);exact⟨t,by congr 1;omega⟩
theorem qM{K:PySem.W.Frag}{ρ :List Addr}{H:Hp}: ∀ l:List Nat,aj K ρ H (l.map λi:Nat=>PV.int (0+(i:Int))) (l.map λi:Nat=>V.int (i:Int))
 | []=>by rw[List.map_nil,List.map_nil,aj]
 | i::l=>by rw[List.map_cons,List.map_cons];exact au.mpr ⟨_,_,rfl,by rw[rel,Int.zero_add],qM l⟩
noncomputable def Ip(mr:MA):ME:=λc e h=>(mr c e h).bind λvs h1=>match vs with
 | [.int j]=>if 0<=j/\j<=100000 then .ok (.ref h1.length) (h1++[.lst (ax 0 j.toNat)]) else .no
 | _=> .no
theorem sQ(hL:Gl X "list")(hR:Gl X "range")(ha:JA X pg k [a] mr)(hs:starEach [a] X.env=[(false,eval a X.env)]:=by rfl):JE X pg k (.Call (.Name "list" p) [.Call (.Name "range" p2) [a] [] p3] [] pos) (Ip mr):=⟨λA=>by
 obtain⟨_,q1,s1⟩:=ha.h A;refine⟨_,⟨sL hL (A.blt _ (by decide +kernel)) hR (A.blt _ (by decide +kernel)) A.room.hd q1.h hs rfl⟩,fun ρ h H e σ Q v h' s r q P=>?_⟩;obtain⟨vs,h1,e1,q⟩:=bind_eq.mp q;refine s1 ρ h H e σ _ vs h1 s r e1 λus ρ1 H1 g1 z1 r1=>?_;split at q
 . rename_i j;split at q
   . rename_i hj;cases q;obtain⟨u,rfl,r2⟩:=bp r1;rw[rel] at r2;subst r2;obtain⟨n,rfl⟩:=Int.eq_ofNat_of_zero_le hj.1;refine⟨n,rfl,by omega,λl hl=>?_⟩;exact cX z1 (qM (List.range n)) (P.gr g1) l hl
   . exact nomatch q
 . exact nomatch q⟩
end
section
variable{c:CF}{e:aq}{h:PH}{r:MA}
noncomputable def IH(vs:List PV)(h1:PH):RV PV:=match vs with
 | [.int j]=>if 0<=j/\j<=100000 then .ok (.ref h1.length) (h1++[.lst (ax 0 j.toNat)]) else .no
 | _=> .no
theorem Ge:Ip r c e h=(r c e h).bind IH:=(rfl)
theorem C6{j:Int}(hj:0<=j/\j<=100000):IH [.int j] h= .ok (.ref h.length) (h++[.lst (ax 0 j.toNat)]):=if_pos hj
end
end P3
end
section
open PySem PySem.W PyProof.Rows
set_option maxHeartbeats 5000000
namespace K19
open PySem L2 P3 PyProof.Rows
noncomputable def top(i:Nat):Stmt:=PySem.Challenge.pw_leastrecord_k19_first_stands.main.body.getD i (.Pass ⟨0,0,0,0⟩)
noncomputable def gc:MS :=
  (ah (aA (ag ao (ab 0) (eC (.int 0))) (gN 2))
  (ah (dU (aF (ag dh (ab 2) (eC (.str "num")))) (aN (ag ao (ab 0) (eC (.int 1)))) eA)
  (ah (dU (aF (ag dh (ab 2) (eC (.str "of")))) (aN (rh (eB oK (aa (ab 1) ae)) (ag ao (ab 0) (eC (.int 1))) (eC (.int 0)))) eA)
  (ah (aA (ai "worth" (aa (ag ao (ab 0) (eC (.int 1))) (aa (ab 1) ae))) (gN 3))
  (ah (dU (aF (ag dh (ab 2) (eC (.str "not")))) (aN (uc (aF (ag dh (ab 3) (eC (.int 0)))) (eC (.int 1)) (eC (.int 0)))) eA)
  (aN (ai "joined_worth" (aa (ab 2) (aa (ab 3) (aa (ai "worth" (aa (ag ao (ab 0) (eC (.int 2))) (aa (ab 1) ae))) ae))))))))))
noncomputable def d9:Df:=⟨["tree", "pockets"],2,gc⟩
noncomputable def dP:MS :=
  (ah (dU (aF (ag dh (ab 0) (eC (.str "add")))) (aN (ag iY (ag bq (ab 1) (ab 2)) (eC (.int 1000)))) eA)
  (ah (dU (aF (ag dh (ab 0) (eC (.str "sub")))) (aN (ag iY (ag qf (ab 1) (ab 2)) (eC (.int 1000)))) eA)
  (ah (dU (aF (ag dh (ab 0) (eC (.str "mul")))) (aN (ag iY (ag cx (ab 1) (ab 2)) (eC (.int 1000)))) eA)
  (ah (dU (aF (ag dh (ab 0) (eC (.str "less")))) (aN (uc (aF (ag yf (ab 1) (ab 2))) (eC (.int 1)) (eC (.int 0)))) eA)
  (aN (uc (aF (ag dh (ab 1) (ab 2))) (eC (.int 1)) (eC (.int 0))))))))
noncomputable def bQ:Df:=⟨["word", "one", "other"],0,dP⟩
noncomputable def iW:MS :=
  (aN (ag ao (ag ao (ag ao (ab 0) (eC (.int 4))) (ab 1)) (eC (.int 1))))
noncomputable def eG:Df:=⟨["program", "hand"],0,iW⟩
noncomputable def eT:MS :=
  (aN (ai "rested" (aa (ab 0) (aa (ab 1) (aa (av (aa (eC (.int 0)) (aa (av ae) (aa (av ae) ae)))) ae)))))
noncomputable def cE:Df:=⟨["program", "hand"],0,eT⟩
noncomputable def kj:MS :=
  (ah (aA (ai "rows_of" (aa (ab 0) (aa (ab 1) ae))) (gN 3))
  (ah (aA (ab 2) (gN 4))
  (ah (iG (dw (aa (eC (.int 200)) ae)) (gN 5) (ah (dU (aF (ai "is_rested" (aa (ab 3) (aa (ab 4) ae)))) (aN (ab 4)) eA)
  (aA (ai "behind_own_row" (aa (ag ao (ab 3) (ag ao (ab 4) (eC (.int 0)))) (aa (ab 4) ae))) (gN 4))))
  (ah (dU (aF (ai "is_rested" (aa (ab 3) (aa (ab 4) ae)))) (aN (ab 4)) eA)
  (aN (av (aa (eB bZ (aa (ab 3) ae)) (aa (ag ao (ab 4) (eC (.int 1))) (aa (ag ao (ab 4) (eC (.int 2))) ae)))))))))
noncomputable def fQ:Df:=⟨["program", "hand", "seat"],3,kj⟩
noncomputable def d6:MS :=
  (aN (G7 (ag dh (ag ao (ab 1) (eC (.int 0))) (eB bZ (aa (ab 0) ae))) (CS (ai "is_own_row" (aa (ag ao (ab 0) (ag ao (ab 1) (eC (.int 0)))) (aa (ag ao (ab 1) (eC (.int 2))) ae))))))
noncomputable def cy:Df:=⟨["rows", "seat"],0,d6⟩
noncomputable def fe:MS :=
  (ah (dU (aF (ag dh (ag ao (ab 0) (eC (.int 0))) (eC (.str "take")))) (aN (ag nK (ag ao (ab 0) (eC (.int 1))) (ab 1))) eA)
  (ah (dU (aF (ag dh (ag ao (ab 0) (eC (.int 0))) (eC (.str "free")))) (aN (ag jU (ag ao (ab 0) (eC (.int 1))) (ab 1))) eA)
  (aN (G7 (ag dh (ag ao (ab 0) (eC (.int 0))) (eC (.str "let"))) (ag dh (ag ao (ab 0) (eC (.int 0))) (eC (.str "leap")))))))
noncomputable def cB:Df:=⟨["row", "held"],0,fe⟩
noncomputable def bA:MS :=
  (ah (aA (ag bq (ag ao (ab 1) (eC (.int 0))) (eC (.int 1))) (gN 2))
  (ah (dU (aF (ag dh (ag ao (ab 0) (eC (.int 0))) (eC (.str "let")))) (aN (av (aa (ab 2) (aa (ai "laid" (aa (ag ao (ab 1) (eC (.int 1))) (aa (ag ao (ab 0) (eC (.int 1))) (aa (ai "worth" (aa (ag ao (ab 0) (eC (.int 2))) (aa (ag ao (ab 1) (eC (.int 1))) ae))) ae)))) (aa (ag ao (ab 1) (eC (.int 2))) ae))))) eA)
  (ah (dU (qz (aF (ag dh (ag ao (ab 0) (eC (.int 0))) (eC (.str "leap")))) (aF (ag jD (ai "worth" (aa (ag ao (ab 0) (eC (.int 2))) (aa (ag ao (ab 1) (eC (.int 1))) ae))) (eC (.int 0))))) (aN (av (aa (ag ao (ab 0) (eC (.int 1))) (aa (ag ao (ab 1) (eC (.int 1))) (aa (ag ao (ab 1) (eC (.int 2))) ae))))) eA)
  (aN (av (aa (ab 2) (aa (ag ao (ab 1) (eC (.int 1))) (aa (ag ao (ab 1) (eC (.int 2))) ae))))))))
noncomputable def aT:Df:=⟨["row", "seat"],1,bA⟩
noncomputable def mN:MS :=
  (ah (aA (jf 1 (iJ (ab 0)) (gN 4) (aF (ag jD (ag ao (ab 4) (eC (.int 0))) (ab 1))) (ab 4)) (gN 3))
  (ah (dU (aF (ag jD (ab 2) (eC (.int 0)))) (cj (eM aQ bN (ab 3) (aa (av (aa (ab 1) (aa (ab 2) ae))) ae))) eA)
  (aN (eB az (aa (eB bJ (aa (ab 3) ae)) ae)))))
noncomputable def iU:Df:=⟨["pockets", "name", "value"],1,mN⟩
noncomputable def eu:MS :=
  (ah (aA (ai "hands_of" (aa (ab 0) ae)) (gN 1))
  (aN (av (aa (eB az (aa (jf 1 (iJ (ab 1)) (gN 2) aV (eC (.int 0))) ae)) (aa (eB az (aa (jf 1 (iJ (ab 1)) (gN 2) aV (ai "first_seat" (aa (ab 0) (aa (ab 2) ae)))) ae)) (aa (eB az (aa (jf 1 (iJ (ag ao (ab 0) (eC (.int 0)))) (gN 2) aV (av (aa (ag ao (ab 2) (eC (.int 1))) (aa (eC .non) ae)))) ae)) (aa (eB az (aa (jf 1 (iJ (ag ao (ab 0) (eC (.int 1)))) (gN 2) aV (av (aa (eC .non) (aa (eC .non) ae)))) ae)) (aa (eB az (aa (jf 1 (iJ (ag ao (ab 0) (eC (.int 2)))) (gN 2) aV (av (aa (eC (.int 0)) (aa (eC (.int 0)) (aa (av ae) ae))))) ae)) (aa (eB az (aa (jf 1 (iJ (ag ao (ab 0) (eC (.int 3)))) (gN 2) aV (eC (.int 0))) ae)) ae)))))))))
noncomputable def cb:Df:=⟨["program"],1,eu⟩
noncomputable def gH:MS :=
  (aN (Ip (aa (eB bZ (aa (ag ao (ab 0) (eC (.int 4))) ae)) ae)))
noncomputable def dJ:Df:=⟨["program"],0,gH⟩
noncomputable def eS:MS :=
  (ah (aA (ag cx (eC (.int 7919)) (ab 1)) (gN 2))
  (ah (dU (aF (ag Gy (eB bZ (aa (ab 0) ae)) (eC (.int 0)))) (aA (ag bq (ag ao (ab 0) (ag iY (ab 1) (eB bZ (aa (ab 0) ae)))) (ag cx (eC (.int 1009)) (ag kq (ab 1) (eB bZ (aa (ab 0) ae))))) (gN 2)) eA)
  (aN (ba (aa (ag cx (ab 2) (eB ph (aa (ag HI (ab 2) (ag ym (eC (.int 10)) (eC (.int 18)))) ae))) (aa (ab 2) (aa (eC (.int 0)) ae)))))))
noncomputable def cU:Df:=⟨["_law_script", "_law_k"],1,eS⟩
noncomputable def d8:MS :=
  (ah (l8 kr (ab 0) (eC (.int 2)) (ag bq (ag ao (ab 0) (eC (.int 2))) (eC (.int 1))))
  (ah (dU (aF (ag Gy (ag ao (ab 0) (eC (.int 0))) (eC (.int 0)))) (ah (aA (ag iY (ag ao (ab 0) (eC (.int 0))) (ab 1)) (gN 2))
  (ah (l8 kr (ab 0) (eC (.int 0)) (ag kq (ag ao (ab 0) (eC (.int 0))) (ab 1)))
  (aN (ab 2)))) eA)
  (ah (aA (ag iY (ag cx (ag bq (ag iY (ag ao (ab 0) (eC (.int 1))) (eC (.int 2147483647))) (ag cx (eC (.int 31)) (ag ao (ab 0) (eC (.int 2))))) (eC (.int 48271))) (eC (.int 2147483629))) (gN 3))
  (ah (aA (ag iY (ag cx (ag bq (ag kq (ab 3) (eC (.int 11))) (ag cx (eC (.int 17)) (ag ao (ab 0) (eC (.int 2))))) (eC (.int 69621))) (eC (.int 2147483587))) (gN 3))
  (aN (ag iY (ag kq (ab 3) (eC (.int 7))) (ab 1)))))))
noncomputable def cw:Df:=⟨["_law_box_here", "_law_many"],2,d8⟩
noncomputable def cq:MS :=
  (ah (aA (ai "_law_take" (aa (ab 0) (aa (eC (.int 8)) ae))) (gN 3))
  (ah (dU (xv (aF (ag dh (ab 2) (eC (.int 0)))) (aF (ag yf (ab 3) (eC (.int 2))))) (aN (av (aa (eC (.str "num")) (aa (ag ao (ba (aa (eC (.int 0)) (aa (eC (.int 1)) (aa (eC (.int 2)) (aa (eC (.int 3)) (aa (eC (.int 7)) (aa (eC (.int 500)) (aa (eC (.int 999)) ae)))))))) (ai "_law_take" (aa (ab 0) (aa (eC (.int 7)) ae)))) ae)))) eA)
  (ah (dU (aF (ag yf (ab 3) (eC (.int 5)))) (aN (av (aa (eC (.str "of")) (aa (ag ao (ab 1) (ai "_law_take" (aa (ab 0) (aa (eB bZ (aa (ab 1) ae)) ae)))) ae)))) eA)
  (ah (dU (aF (ag dh (ab 3) (eC (.int 5)))) (aN (av (aa (eC (.str "not")) (aa (ai "_law_sum" (aa (ab 0) (aa (ab 1) (aa (ag qf (ab 2) (eC (.int 1))) ae)))) ae)))) eA)
  (ah (aA (ag ao (ba (aa (eC (.str "add")) (aa (eC (.str "sub")) (aa (eC (.str "mul")) (aa (eC (.str "less")) (aa (eC (.str "same")) ae)))))) (ai "_law_take" (aa (ab 0) (aa (eC (.int 5)) ae)))) (gN 4))
  (aN (av (aa (ab 4) (aa (ai "_law_sum" (aa (ab 0) (aa (ab 1) (aa (ag qf (ab 2) (eC (.int 1))) ae)))) (aa (ai "_law_sum" (aa (ab 0) (aa (ab 1) (aa (ag qf (ab 2) (eC (.int 1))) ae)))) ae))))))))))
noncomputable def bH:Df:=⟨["_law_box_here", "_law_pockets", "_law_deep"],2,cq⟩
noncomputable def aU:MS :=
  (ah (aA (ag ao (ab 3) (ai "_law_take" (aa (ab 0) (aa (eB bZ (aa (ab 3) ae)) ae)))) (gN 4))
  (ah (aA (ag ao (ab 2) (ai "_law_take" (aa (ab 0) (aa (eB bZ (aa (ab 2) ae)) ae)))) (gN 5))
  (ah (dU (aF (ag nK (ab 4) (av (aa (eC (.str "clock")) (aa (eC (.str "lot")) ae))))) (aN (uc (aF (ag dh (ab 4) (eC (.str "clock")))) (av (aa (eC (.str "clock")) (aa (ab 5) ae))) (av (aa (eC (.str "lot")) (aa (ab 5) (aa (ag ao (ba (aa (eC (.int 2)) (aa (eC (.int 3)) (aa (eC (.int 7)) (aa (eC (.int 1000)) ae))))) (ai "_law_take" (aa (ab 0) (aa (eC (.int 4)) ae)))) ae)))))) eA)
  (ah (aA (ag ao (oy (df (eC (.str "get")) (eC (.int 0)) (df (eC (.str "put")) (eC (.int 0)) (df (eC (.str "take")) (eC (.int 1)) (df (eC (.str "free")) (eC (.int 1)) (df (eC (.str "send")) (eC (.int 2)) (df (eC (.str "fetch")) (eC (.int 2)) (df (eC (.str "say")) (eC (.int 3)) (df (eC (.str "hear")) (eC (.int 3)) vW))))))))) (ab 4)) (gN 6))
  (ah (aA (ag ao (ag ao (ab 1) (ab 6)) (ai "_law_take" (aa (ab 0) (aa (eB bZ (aa (ag ao (ab 1) (ab 6)) ae)) ae)))) (gN 7))
  (ah (dU (aF (ag nK (ab 4) (av (aa (eC (.str "get")) (aa (eC (.str "fetch")) (aa (eC (.str "hear")) ae)))))) (aN (av (aa (ab 4) (aa (ab 5) (aa (ab 7) ae))))) eA)
  (aN (uc (aF (ag nK (ab 4) (av (aa (eC (.str "take")) (aa (eC (.str "free")) ae))))) (av (aa (ab 4) (aa (ab 7) ae))) (av (aa (ab 4) (aa (ab 7) (aa (ai "_law_sum" (aa (ab 0) (aa (ab 2) (aa (eC (.int 2)) ae)))) ae))))))))))))
noncomputable def aI:Df:=⟨["_law_box_here", "_law_names", "_law_pockets", "_law_kinds"],4,aU⟩
noncomputable def fF:MS :=
  (ah (aA (ba (aa (eC (.str "clock")) (aa (eC (.str "lot")) ae))) (gN 3))
  (ah (iG (iJ (ba (aa (av (aa (eC (.int 0)) (aa (ba (aa (eC (.str "get")) (aa (eC (.str "put")) ae))) ae))) (aa (av (aa (eC (.int 1)) (aa (ba (aa (eC (.str "take")) (aa (eC (.str "free")) ae))) ae))) (aa (av (aa (eC (.int 2)) (aa (ba (aa (eC (.str "send")) (aa (eC (.str "fetch")) ae))) ae))) (aa (av (aa (eC (.int 3)) (aa (ba (aa (eC (.str "say")) (aa (eC (.str "hear")) ae))) ae))) ae)))))) (gT 2 (aZ (gN 4) (aZ (gN 5) eL))) (dU (aF (ag jD (ag ao (ab 1) (ab 4)) (ba ae))) (aA (ag bq (ag bq (ab 3) (ab 5)) (ab 5)) (gN 3)) eA))
  (ah (aA (ag ao (ba (aa (ai "_law_take" (aa (ab 0) (aa (eC (.int 4)) ae))) (aa (ag bq (eC (.int 3)) (ai "_law_take" (aa (ab 0) (aa (eC (.int 8)) ae)))) ae))) (eB ph (aa (ag Gy (ai "_law_take" (aa (ab 0) (aa (eC (.int 6)) ae))) (eC (.int 0))) ae))) (gN 6))
  (ah (aA (ba ae) (gN 7))
  (ah (iG (dw (aa (ab 6) ae)) (gN 8) (ah (aA (ai "_law_take" (aa (ab 0) (aa (eC (.int 8)) ae))) (gN 9))
  (dU (aF (ag dh (ab 9) (eC (.int 0)))) (cj (eM aQ bN (ab 7) (aa (av (aa (eC (.str "let")) (aa (ag ao (ab 2) (ai "_law_take" (aa (ab 0) (aa (eB bZ (aa (ab 2) ae)) ae)))) (aa (ai "_law_sum" (aa (ab 0) (aa (ab 2) (aa (eC (.int 2)) ae)))) ae)))) ae))) (dU (aF (ag dh (ab 9) (eC (.int 1)))) (cj (eM aQ bN (ab 7) (aa (av (aa (eC (.str "leap")) (aa (ai "_law_take" (aa (ab 0) (aa (ag bq (ab 6) (eC (.int 1))) ae))) (aa (ai "_law_sum" (aa (ab 0) (aa (ab 2) (aa (eC (.int 2)) ae)))) ae)))) ae))) (cj (eM aQ bN (ab 7) (aa (ai "_law_touch_row" (aa (ab 0) (aa (ab 1) (aa (ab 2) (aa (ab 3) ae))))) ae)))))))
  (aN (eB az (aa (ab 7) ae))))))))
noncomputable def c7:Df:=⟨["_law_box_here", "_law_names", "_law_pockets"],7,fF⟩
noncomputable def bO:MS :=
  (ah (aA (ba (aa (eC (.str "a")) (aa (eC (.str "ab")) (aa (eC (.str "putter")) (aa (eC (.str "b")) (aa (eC (.str "getx")) (aa (eC (.str "abc")) (aa (eC (.str "locked")) (aa (eC (.str "sayer")) (aa (eC (.str "c")) (aa (eC (.str "hands")) (aa (eC (.str "fetched")) (aa (eC (.str "abcdefgh")) ae))))))))))))) (gN 1))
  (ah (aA (ai "_law_take" (aa (ab 0) (aa (eC (.int 12)) ae))) (gN 2))
  (ah (aA (ag bq (vQ (ab 1) (eN (ab 2)) ip) (vQ (ab 1) ip (eN (ab 2)))) (gN 1))
  (ah (aA (ba ae) (gN 3))
  (ah (iG (dw (aa (eC (.int 4)) ae)) (gN 4) (ah (aA (ag ao (ba (aa (eC (.int 1)) (aa (eC (.int 2)) (aa (eC (.int 1)) (aa (eC (.int 0)) (aa (eC (.int 2)) ae)))))) (ai "_law_take" (aa (ab 0) (aa (eC (.int 5)) ae)))) (gN 5))
  (cj (eM aQ bN (ab 3) (aa (vQ (ab 1) (eN (ag cx (eC (.int 2)) (ab 4))) (eN (ag bq (ag cx (eC (.int 2)) (ab 4)) (ab 5)))) ae)))))
  (ah (aA (eB az (aa (jf 1 (iJ (ag ao (ab 3) (eC (.int 0)))) (gN 10) aV (av (aa (ab 10) (aa (ag ao (ba (aa (eC (.int 0)) (aa (eC (.int 5)) (aa (eC (.int 999)) (aa (eC (.int 1)) ae))))) (ai "_law_take" (aa (ab 0) (aa (eC (.int 4)) ae)))) ae)))) ae)) (gN 6))
  (ah (aA (ba ae) (gN 7))
  (ah (iG (dw (aa (ag ao (ba (aa (eC (.int 2)) (aa (eC (.int 2)) (aa (eC (.int 3)) (aa (eC (.int 4)) (aa (eC (.int 1)) (aa (eC (.int 2)) ae))))))) (ai "_law_take" (aa (ab 0) (aa (eC (.int 6)) ae)))) ae)) (gN 8) (ah (aA (vQ (ba (aa (eC (.str "p")) (aa (uc (aF (ag jD (ag ao (ab 3) (eC (.int 0))) (ba ae))) (ag ao (ag ao (ab 3) (eC (.int 0))) (eC (.int 0))) (eC (.str "q"))) (aa (eC (.str "pp")) (aa (ag ao (ab 1) (ag bq (eC (.int 8)) (ab 8))) ae))))) ip (eN (ag bq (eC (.int 1)) (ai "_law_take" (aa (ab 0) (aa (eC (.int 4)) ae)))))) (gN 9))
  (cj (eM aQ bN (ab 7) (aa (av (aa (ag ao (ab 1) (ag bq (eC (.int 8)) (ab 8))) (aa (ai "_law_rows" (aa (ab 0) (aa (ab 3) (aa (ab 9) ae)))) ae))) ae)))))
  (aN (av (aa (ab 6) (aa (eB az (aa (ag ao (ab 3) (eC (.int 1))) ae)) (aa (eB az (aa (ag ao (ab 3) (eC (.int 2))) ae)) (aa (eB az (aa (ag ao (ab 3) (eC (.int 3))) ae)) (aa (eB az (aa (ab 7) ae)) ae)))))))))))))))
noncomputable def cF:Df:=⟨["_law_box_here"],9,bO⟩
noncomputable def aR:MS :=
  (ah (dU (aF (ag dh (ag ao (ab 0) (eC (.int 0))) (eC (.str "num")))) (aN (ag ao (ab 0) (eC (.int 1)))) eA)
  (ah (dU (aF (ag dh (ag ao (ab 0) (eC (.int 0))) (eC (.str "of")))) (aN (rh (ab 1) (ag ao (ab 0) (eC (.int 1))) (eC (.int 0)))) eA)
  (ah (aA (ai "_law_worth" (aa (ag ao (ab 0) (eC (.int 1))) (aa (ab 1) ae))) (gN 2))
  (ah (dU (aF (ag dh (ag ao (ab 0) (eC (.int 0))) (eC (.str "not")))) (aN (eB ph (aa (ag dh (ab 2) (eC (.int 0))) ae))) eA)
  (ah (aA (ai "_law_worth" (aa (ag ao (ab 0) (eC (.int 2))) (aa (ab 1) ae))) (gN 3))
  (ah (dU (aF (ag nK (ag ao (ab 0) (eC (.int 0))) (av (aa (eC (.str "less")) (aa (eC (.str "same")) ae))))) (aN (uc (aF (ag dh (ag ao (ab 0) (eC (.int 0))) (eC (.str "less")))) (eB ph (aa (ag yf (ab 2) (ab 3)) ae)) (eB ph (aa (ag dh (ab 2) (ab 3)) ae)))) eA)
  (aN (ag iY (ag ao (oy (df (eC (.str "add")) (ag bq (ab 2) (ab 3)) (df (eC (.str "sub")) (ag qf (ab 2) (ab 3)) (df (eC (.str "mul")) (ag cx (ab 2) (ab 3)) vW)))) (ag ao (ab 0) (eC (.int 0)))) (eC (.int 1000))))))))))
noncomputable def aH:Df:=⟨["_law_e", "_law_pockets"],2,aR⟩
noncomputable def b7:MS :=
  (ah (dU (xv (aF (ag dh (ag ao (ab 0) (eC (.int 0))) (eC (.str "take")))) (aF (ag dh (ag ao (ab 0) (eC (.int 0))) (eC (.str "free"))))) (aN (ag dh (ag nK (ag ao (ab 0) (eC (.int 1))) (ab 1)) (ag dh (ag ao (ab 0) (eC (.int 0))) (eC (.str "take"))))) eA)
  (aN (ag nK (ag ao (ab 0) (eC (.int 0))) (av (aa (eC (.str "let")) (aa (eC (.str "leap")) ae))))))
noncomputable def bu:Df:=⟨["_law_row", "_law_held"],0,b7⟩
noncomputable def d4:MS :=
  (ah (aA (eC (.int 0)) (gN 4))
  (ah (pW (qz (aF (ag yf (ab 1) (eB bZ (aa (ab 0) ae)))) (aF (ai "_law_is_own" (aa (ag ao (ab 0) (ab 1)) (aa (ab 3) ae))))) (ah (dU (aF (ag dh (ab 4) (eC (.int 200)))) (aN (eB bZ (aa (ab 0) ae))) eA)
  (ah (aA (ag ao (ab 0) (ab 1)) (gN 5))
  (ah (aA (ag bq (ab 4) (eC (.int 1))) (gN 4))
  (ah (aA (ag bq (ab 1) (eC (.int 1))) (gN 1))
  (ah (dU (aF (ag dh (ag ao (ab 5) (eC (.int 0))) (eC (.str "let")))) (l8 kr (ab 2) (ag ao (ab 5) (eC (.int 1))) (ai "_law_worth" (aa (ag ao (ab 5) (eC (.int 2))) (aa (ab 2) ae)))) eA)
  (dU (qz (aF (ag dh (ag ao (ab 5) (eC (.int 0))) (eC (.str "leap")))) (aF (ag jD (ai "_law_worth" (aa (ag ao (ab 5) (eC (.int 2))) (aa (ab 2) ae))) (eC (.int 0))))) (aA (ag ao (ab 5) (eC (.int 1))) (gN 1)) eA)))))))
  (aN (ab 1))))
noncomputable def cv:Df:=⟨["_law_rows_here", "_law_at", "_law_pockets", "_law_held"],2,d4⟩
noncomputable def dq:MS :=
  (ah (aA (oy (df (eC (.str "counts")) (ba ae) (df (eC (.str "seats")) (ba ae) (df (eC (.str "doors")) (jf 1 (iJ (ag ao (ab 0) (eC (.int 3)))) (gN 5) aV (eC (.int 0))) vW)))) (gN 1))
  (ah (l8 kr (ab 1) (eC (.str "boxes")) (jf 1 (iJ (ag ao (ab 0) (eC (.int 0)))) (gN 5) aV (av (aa (ag ao (ab 5) (eC (.int 1))) (aa (eC .non) ae)))))
  (ah (l8 kr (ab 1) (eC (.str "locks")) (jf 1 (iJ (ag ao (ab 0) (eC (.int 1)))) (gN 5) aV (av (aa (eC .non) (aa (eC .non) ae)))))
  (ah (l8 kr (ab 1) (eC (.str "lanes")) (jf 1 (iJ (ag ao (ab 0) (eC (.int 2)))) (gN 5) aV (av (aa (eC (.int 0)) (aa (eC (.int 0)) (aa (av ae) ae))))))
  (ah (iG (iJ (ag ao (ab 0) (eC (.int 4)))) (gN 2) (ah (aA nq (gN 3))
  (ah (aA (ai "_law_rest" (aa (ag ao (ab 2) (eC (.int 1))) (aa (eC (.int 0)) (aa (ab 3) (aa (ba ae) ae))))) (gN 4))
  (ah (cj (eM aQ bN (ag ao (ab 1) (eC (.str "counts"))) (aa (eC (.int 0)) ae)))
  (cj (eM aQ bN (ag ao (ab 1) (eC (.str "seats"))) (aa (av (aa (ab 4) (aa (ab 3) (aa (ba ae) ae)))) ae)))))))
  (aN (ab 1)))))))
noncomputable def dz:Df:=⟨["_law_program_here"],4,dq⟩
noncomputable def fc:MS :=
  (ah (aA (ba ae) (gN 1))
  (ah (iG (iJ (ag ao (ab 0) (eC (.str "seats")))) (gT 3 (aZ (gN 2) (aZ (gN 3) (aZ (gN 4) eL)))) (ah (aA (eB az (aa (jf 1 (iJ (eB bJ (aa (ab 3) ae))) (gN 7) (aF (ag jD (ag ao (ab 3) (ab 7)) (eC (.int 0)))) (av (aa (ab 7) (aa (ag ao (ab 3) (ab 7)) ae)))) ae)) (gN 5))
  (cj (eM aQ bN (ab 1) (aa (av (aa (ab 2) (aa (ab 5) (aa (eB az (aa (eB bJ (aa (ab 4) ae)) ae)) ae)))) ae)))))
  (ah (aA (av (aa (eB az (aa (ag ao (ab 0) (eC (.str "counts"))) ae)) (aa (eB az (aa (ab 1) ae)) (aa (eB az (aa (ag ao (ab 0) (eC (.str "boxes"))) ae)) (aa (eB az (aa (ag ao (ab 0) (eC (.str "locks"))) ae)) ae))))) (gN 6))
  (aN (ag bq (ab 6) (av (aa (eB az (aa (ag ao (ab 0) (eC (.str "lanes"))) ae)) (aa (eB az (aa (ag ao (ab 0) (eC (.str "doors"))) ae)) ae))))))))
noncomputable def cC:Df:=⟨["_law_state"],6,fc⟩
noncomputable def cT:MS :=
  (ah (aA (ba ae) (gN 2))
  (ah (iG (iJ (ag ao (ab 1) (eC (.int 4)))) (gT 2 (aZ (gN 3) (aZ (gN 4) eL))) (ah (aA (av (aa (eC (.str "less")) (aa (av (aa (eC (.str "of")) (aa (eC (.str "p")) ae))) (aa (av (aa (eC (.str "num")) (aa (ai "_law_take" (aa (ab 0) (aa (eC (.int 250)) ae))) ae))) ae)))) (gN 5))
  (ah (aA (ba (aa (av (aa (eC (.str "let")) (aa (eC (.str "p")) (aa (av (aa (eC (.str "add")) (aa (av (aa (eC (.str "of")) (aa (eC (.str "p")) ae))) (aa (av (aa (eC (.str "num")) (aa (eC (.int 1)) ae))) ae)))) ae)))) (aa (av (aa (eC (.str "leap")) (aa (eC (.int 0)) (aa (ab 5) ae)))) ae))) (gN 6))
  (ah (aA (ag ao (ba (aa (vQ (ab 6) ip (eN (eC (.int 1)))) (aa (ab 6) (aa (ba ae) ae)))) (ai "_law_take" (aa (ab 0) (aa (eC (.int 3)) ae)))) (gN 6))
  (ah (aA (eB az (aa (jf 1 (iJ (ab 4)) (gN 8) aV (uc (aF (ag dh (ag ao (ab 8) (eC (.int 0))) (eC (.str "leap")))) (av (aa (eC (.str "leap")) (aa (ag bq (ag ao (ab 8) (eC (.int 1))) (eB bZ (aa (ab 6) ae))) (aa (ag ao (ab 8) (eC (.int 2))) ae)))) (ab 8))) ae)) (gN 7))
  (cj (eM aQ bN (ab 2) (aa (av (aa (ab 3) (aa (ag bq (eB az (aa (ab 6) ae)) (ab 7)) ae))) ae))))))))
  (aN (ag bq (vQ (ab 1) ip (eN (eC (.int 4)))) (av (aa (eB az (aa (ab 2) ae)) ae))))))
noncomputable def bD:Df:=⟨["_law_box_here", "_law_program_here"],6,cT⟩
noncomputable def qN:MS :=
  (ah (aA (ai "_law_box" (aa (ab 0) (aa (eC (.int 0)) ae))) (gN 1))
  (ah (aA (jf 1 (dw (aa (eC (.int 2)) ae)) (gN 7) aV (ai "_law_own_first" (aa (ab 1) (aa (ai "_law_program" (aa (ab 1) ae)) ae)))) (gN 2))
  (ah (aA (jf 1 (iJ (ab 2)) (gN 7) aV (ai "_law_stand" (aa (ai "_law_first" (aa (ab 7) ae)) ae))) (gN 3))
  (ah (iG (iJ (ba (aa (eC (.int 0)) (aa (eC (.int 1)) (aa (eC (.int 0)) (aa (eC (.int 1)) ae)))))) (gN 4) (ah (aA (eB dc (aa (ag ao (ab 2) (ab 4)) ae)) (gN 5))
  (ah (aA (ai "first_stand" (aa (ag ao (ab 2) (ab 4)) ae)) (gN 6))
  (dU (xv (yn (aF (eB wo (aa (ab 6) (aa (eC (.ty "tuple")) ae))))) (xv (aF (ag jD (eB dc (aa (ab 6) ae)) (eB dc (aa (ag ao (ab 3) (ab 4)) ae)))) (aF (ag jD (eB dc (aa (ag ao (ab 2) (ab 4)) ae)) (ab 5))))) (aN (eC (.bl false))) eA))))
  (aN (eC (.bl true)))))))
noncomputable def qV:Df:=⟨["_law_script"],6,qN⟩
structure dm(pg:Tb):Prop where
 jI:pg.fns "worth" =some d9
 ke:pg.fns "joined_worth" =some bQ
 tK:pg.fns "rows_of" =some eG
 m6:pg.fns "first_seat" =some cE
 vk:pg.fns "rested" =some fQ
 oh:pg.fns "is_rested" =some cy
 mK:pg.fns "is_own_row" =some cB
 iQ:pg.fns "behind_own_row" =some aT
 BC:pg.fns "laid" =some iU
 k5:pg.fns "first_stand" =some cb
 pA:pg.fns "hands_of" =some dJ
 km:pg.fns "_law_box" =some cU
 jv:pg.fns "_law_take" =some cw
 dG:pg.fns "_law_sum" =some bH
 bB:pg.fns "_law_touch_row" =some aI
 oF:pg.fns "_law_rows" =some c7
 kD:pg.fns "_law_program" =some cF
 du:pg.fns "_law_worth" =some aH
 la:pg.fns "_law_is_own" =some bu
 oQ:pg.fns "_law_rest" =some cv
 nH:pg.fns "_law_first" =some dz
 m7:pg.fns "_law_stand" =some cC
 iE:pg.fns "_law_own_first" =some bD
 AU:pg.fns "law" =some qV
 ER:pg.con "WORTHS" =some (.int 1000)
 uf:pg.con "MOST_OWN_ROWS" =some (.int 200)
noncomputable def gL:List (String × Df):=[("worth",d9),("joined_worth",bQ),("rows_of",eG),("first_seat",cE),("rested",fQ),("is_rested",cy),("is_own_row",cB),("behind_own_row",aT),("laid",iU),("first_stand",cb),("hands_of",dJ),("_law_box",cU),("_law_take",cw),("_law_sum",bH),("_law_touch_row",aI),("_law_rows",c7),("_law_program",cF),("_law_worth",aH),("_law_is_own",bu),("_law_rest",cv),("_law_first",dz),("_law_stand",cC),("_law_own_first",bD),("law",qV)]
noncomputable def conT:List (Str × PV):=[("WORTHS",(.int 1000)),("MOST_OWN_ROWS",(.int 200))]
noncomputable def dcT:List (Str × List (Key × PV)):=[]
noncomputable def tb:Tb:=⟨λf=>(gL.find? λp=>p.1 == f).map (·.2),λx=>(conT.find? λp=>decide (p.1=x)).map (·.2),λx=>(dcT.find? λp=>decide (p.1=x)).map (·.2)⟩
theorem has:dm tb:=⟨by simp[tb,gL],by simp[tb,gL],by simp[tb,gL],by simp[tb,gL],by simp[tb,gL],by simp[tb,gL],by simp[tb,gL],by simp[tb,gL],by simp[tb,gL],by simp[tb,gL],by simp[tb,gL],by simp[tb,gL],by simp[tb,gL],by simp[tb,gL],by simp[tb,gL],by simp[tb,gL],by simp[tb,gL],by simp[tb,gL],by simp[tb,gL],by simp[tb,gL],by simp[tb,gL],by simp[tb,gL],by simp[tb,gL],by simp[tb,gL],rfl,rfl⟩
local macro_rules
 | `(tactic| array_get_dec)=> do
  let tm (x:String):Lean.MacroM Lean.Term:=match x with
   | "?"=>`(?_)
   | "_"=>`(_)
   | "A"=>`(by assumption)
   | "R"=>`(rfl)
   | "F"=>`(λ_ _=>rfl)
   | "K"=>`(by decide +kernel)
   | "D"=>`(by decide)
   | "Q"=>`(⟨rfl,rfl,rfl,rfl⟩)
   | "L"=>`(λ_ _ _ _ _ _=>⟨λ_=>?_,?_,?_⟩)
   | "O"=>`(by first | exact Or.inl rfl | exact Or.inr rfl)
   | "Z"=>`(by intro z;cases z)
   | "w"=>`(u6 _)
   | x=>pure (Lean.mkIdent x.toName)
  let al (a:String):Lean.MacroM (Lean.TSyntax `tactic):=do
   match a.splitOn " " with
   | ["p",q,n]=>`(tactic| refine $(Lean.mkIdent q.toName) ($(Lean.mkIdent n.toName) ?_ ?_))
   | [n]=>`(tactic| refine $(Lean.mkIdent n.toName))
   | n::r=>do
     let ts ← r.toArray.mapM tm
     `(tactic| refine $(Lean.mkIdent n.toName) $ts*)
   | []=>Lean.Macro.throwUnsupported
  let fs (x:List (Lean.TSyntax `tactic)):Lean.MacroM (Lean.TSyntax `tactic):=do
   let e ← `(tactic| fail)
   x.foldrM (λa b=>`(tactic| first | $a:tactic | $b:tactic)) e
  let gr (g:String):Lean.MacroM (Lean.TSyntax `tactic):=do
   match g.splitOn ":" with
   | [h,b]=>do
     let y ← fs (← (b.splitOn "|").mapM al)
     match h.splitOn " " with
     | [n,k]=>do
       let hs ← (Array.range k.toNat!).mapM λ_=>`(_)
       `(tactic| (show $(Lean.mkIdent n.toName) $hs*;$y:tactic))
     | _=>Lean.Macro.throwUnsupported
   | _=>Lean.Macro.throwUnsupported
  let a ← ("JE 5:DF _|BP|DP|DJ|F6|ED Iq ? ? F|yi A R ?|FG ? ? ?|sQ R R ?|BO ?|Eh ?|uJ ? ? ? w|uJ ? ? ? R|Cq ?|FA ? ?|DX ?|uR ? ? ?|uX ? ? ?|vG|zp ? R R Z D|yR ? ? ? Q|CB ? L|Dx ? L|Cv A R|Ah GV R K PySem.boot_len ?|Ah F5 R K boot_isinstance ?|Ah sC R K boot_sorted ?|D5 GI R K boot_int ?|D5 yH R K boot_tuple ?|D5 CM R K boot_dict ?|Ah DU R K boot_repr ?|wb R K boot_int|wb R K boot_tuple|wb R K boot_dict|HN PySem.F.plainAttrs_list PySem.F.slot_list_append PySem.F.type_list_append vF ? ?#JA 5:De|xu ? ?#tJ 5:yU|xV ?|vo ? ?#JS 5:B6 A ? L|Dd A ? L|Bh A R O ?|GQ ? ? ?|Cn ?|yo ?|DK EV ? ? ?|Ca ? ? ? PassesOwn.never|wI ? ? PassesOwn.never#JT 5:wy ? ? ? w|wy ? ? ? R|p JW.pt wa|p JW.pt AH|CN ?|Cg ?#JW 5:wa ? ?|AH ? ?|zc ?|Ce ?#JO 5:yD|Am ?#JP 7:Cp|xW ? ? ?#JG 5:zZ A R O|DQ ?#EX 5:yz|wJ ? ?#JI 6:tI R ?|Dg ?#JF 5:BX|BN ?#QG 3:qF A R O".splitOn "#").mapM gr
  let b ← ("F8|C4|FL|CY|Gv|E1|Ho|HL|Ia|Hq|Hx|Ih|xA".splitOn "|").mapM al
  let t ← fs (a++b)
  `(tactic| repeat' first | $t:tactic | fail)
section
variable {P:Program} {w:World} {K:PySem.W.Frag} {mg:Str->Option Value} {pg:Tb}
abbrev q8:List Str:=["tree", "pockets", "word", "one"]
theorem yF (T:dm pg) (a:At K mg "worth" (top 2)):aS P w K mg pg "worth" d9 (top 2) q8:=by
 have S:aw q8 d9.ps (af (top 2)):=⟨rfl,rfl,rfl,by decide +kernel,rfl,by decide +kernel,by decide +kernel⟩
 have z:=S.nd;obtain ⟨⟩:=T;refine aS.of gc rfl a S rfl (λ_ _ _ _ _ _=>ub λ_ _=>rfl) λ_ _ _ _ _ _ _ _ _=>?_
 array_get_dec
abbrev fM:List Str:=["word", "one", "other"]
theorem kR (T:dm pg) (a:At K mg "joined_worth" (top 3)):aS P w K mg pg "joined_worth" bQ (top 3) fM:=by
 have S:aw fM bQ.ps (af (top 3)):=⟨rfl,rfl,rfl,by decide +kernel,rfl,by decide +kernel,by decide +kernel⟩
 have z:=S.nd;obtain ⟨⟩:=T;refine aS.of dP rfl a S rfl (λ_ _ _ _ _ _=>Ew λ_ _ _=>rfl) λ_ _ _ _ _ _ _ _ _=>?_
 array_get_dec
abbrev lO:List Str:=["program", "hand"]
theorem r9 (T:dm pg) (a:At K mg "rows_of" (top 5)):aS P w K mg pg "rows_of" eG (top 5) lO:=by
 have S:aw lO eG.ps (af (top 5)):=⟨rfl,rfl,rfl,by decide +kernel,rfl,by decide +kernel,by decide +kernel⟩
 have z:=S.nd;obtain ⟨⟩:=T;refine aS.of iW rfl a S rfl (λ_ _ _ _ _ _=>ub λ_ _=>rfl) λ_ _ _ _ _ _ _ _ _=>?_
 array_get_dec
abbrev hV:List Str:=["program", "hand"]
theorem ny (T:dm pg) (a:At K mg "first_seat" (top 8)):aS P w K mg pg "first_seat" cE (top 8) hV:=by
 have S:aw hV cE.ps (af (top 8)):=⟨rfl,rfl,rfl,by decide +kernel,rfl,by decide +kernel,by decide +kernel⟩
 have z:=S.nd;obtain ⟨⟩:=T;refine aS.of eT rfl a S rfl (λ_ _ _ _ _ _=>ub λ_ _=>rfl) λ_ _ _ _ _ _ _ _ _=>?_
 array_get_dec
abbrev pb:List Str:=["program", "hand", "seat", "rows", "here", "turn"]
theorem u7 (T:dm pg) (a:At K mg "rested" (top 9)):aS P w K mg pg "rested" fQ (top 9) pb:=by
 have S:aw pb fQ.ps (af (top 9)):=⟨rfl,rfl,rfl,by decide +kernel,rfl,by decide +kernel,by decide +kernel⟩
 have z:=S.nd;obtain ⟨⟩:=T;refine aS.of kj rfl a S rfl (λ_ _ _ _ _ _=>Ew λ_ _ _=>rfl) λ_ _ _ _ _ _ _ _ _=>?_
 array_get_dec
abbrev jl:List Str:=["rows", "seat"]
theorem oX (T:dm pg) (a:At K mg "is_rested" (top 10)):aS P w K mg pg "is_rested" cy (top 10) jl:=by
 have S:aw jl cy.ps (af (top 10)):=⟨rfl,rfl,rfl,by decide +kernel,rfl,by decide +kernel,by decide +kernel⟩
 have z:=S.nd;obtain ⟨⟩:=T;refine aS.of d6 rfl a S rfl (λ_ _ _ _ _ _=>ub λ_ _=>rfl) λ_ _ _ _ _ _ _ _ _=>?_
 array_get_dec
abbrev ic:List Str:=["row", "held"]
theorem l9 (T:dm pg) (a:At K mg "is_own_row" (top 11)):aS P w K mg pg "is_own_row" cB (top 11) ic:=by
 have S:aw ic cB.ps (af (top 11)):=⟨rfl,rfl,rfl,by decide +kernel,rfl,by decide +kernel,by decide +kernel⟩
 have z:=S.nd;obtain ⟨⟩:=T;refine aS.of fe rfl a S rfl (λ_ _ _ _ _ _=>ub λ_ _=>rfl) λ_ _ _ _ _ _ _ _ _=>?_
 array_get_dec
abbrev eK:List Str:=["row", "seat", "onward"]
theorem iC (T:dm pg) (a:At K mg "behind_own_row" (top 12)):aS P w K mg pg "behind_own_row" aT (top 12) eK:=by
 have S:aw eK aT.ps (af (top 12)):=⟨rfl,rfl,rfl,by decide +kernel,rfl,by decide +kernel,by decide +kernel⟩
 have z:=S.nd;obtain ⟨⟩:=T;refine aS.of bA rfl a S rfl (λ_ _ _ _ _ _=>ub λ_ _=>rfl) λ_ _ _ _ _ _ _ _ _=>?_
 array_get_dec
abbrev qu:List Str:=["pockets", "name", "value", "others"]
theorem BV (T:dm pg) (a:At K mg "laid" (top 13)):aS P w K mg pg "laid" iU (top 13) qu:=by
 have S:aw qu iU.ps (af (top 13)):=⟨rfl,rfl,rfl,by decide +kernel,rfl,by decide +kernel,by decide +kernel⟩
 have z:=S.nd;have z0:(nG qu ["pocket"]).Nodup:=by decide +kernel
 obtain ⟨⟩:=T;refine aS.of mN rfl a S rfl (λ_ _ _ _ _ _=>Ew λ_ _ _=>rfl) λ_ _ _ _ _ _ _ _ _=>?_
 array_get_dec
abbrev bw:List Str:=["program", "hands"]
theorem lu (T:dm pg) (a:At K mg "first_stand" (top 15)):aS P w K mg pg "first_stand" cb (top 15) bw:=by
 have S:aw bw cb.ps (af (top 15)):=⟨rfl,rfl,rfl,by decide +kernel,rfl,by decide +kernel,by decide +kernel⟩
 have z:=S.nd;have z0:(nG bw ["hand"]).Nodup:=by decide +kernel
 have z1:(nG bw ["box"]).Nodup:=by decide +kernel
 have z2:(nG bw ["lock"]).Nodup:=by decide +kernel
 have z3:(nG bw ["lane"]).Nodup:=by decide +kernel
 have z4:(nG bw ["door"]).Nodup:=by decide +kernel
 obtain⟨⟩:=T;refine aS.of eu rfl a S rfl (λ_ _ _ _ _ _=>Br λ_=>rfl) λ_ _ _ _ _ _ _ _ _=>?_
 array_get_dec
abbrev kI:List Str:=["program"]
theorem pj(T:dm pg)(a:At K mg "hands_of" (top 16)):aS P w K mg pg "hands_of" dJ (top 16) kI:=by
 have S:aw kI dJ.ps (af (top 16)):=⟨rfl,rfl,rfl,by decide +kernel,rfl,by decide +kernel,by decide +kernel⟩
 have z:=S.nd;obtain ⟨⟩:=T;refine aS.of gH rfl a S rfl (λ_ _ _ _ _ _=>Br λ_=>rfl) λ_ _ _ _ _ _ _ _ _=>?_
 array_get_dec
abbrev j7:List Str:=["_law_script", "_law_k", "_law_cell"]
theorem p4 (T:dm pg) (a:At K mg "_law_box" (top 18)):aS P w K mg pg "_law_box" cU (top 18) j7:=by
 have S:aw j7 cU.ps (af (top 18)):=⟨rfl,rfl,rfl,by decide +kernel,rfl,by decide +kernel,by decide +kernel⟩
 have z:=S.nd;obtain ⟨⟩:=T;refine aS.of eS rfl a S rfl (λ_ _ _ _ _ _=>ub λ_ _=>rfl) λ_ _ _ _ _ _ _ _ _=>?_
 array_get_dec
abbrev jq:List Str:=["_law_box_here", "_law_many", "_law_found", "_law_mixed"]
theorem nU (T:dm pg) (a:At K mg "_law_take" (top 19)):aS P w K mg pg "_law_take" cw (top 19) jq:=by
 have S:aw jq cw.ps (af (top 19)):=⟨rfl,rfl,rfl,by decide +kernel,rfl,by decide +kernel,by decide +kernel⟩
 have z:=S.nd;obtain ⟨⟩:=T;refine aS.of d8 rfl a S rfl (λ_ _ _ _ _ _=>ub λ_ _=>rfl) λ_ _ _ _ _ _ _ _ _=>?_
 array_get_dec
abbrev kf:List Str:=["_law_box_here", "_law_pockets", "_law_deep", "_law_way", "_law_word"]
theorem pP (T:dm pg) (a:At K mg "_law_sum" (top 20)):aS P w K mg pg "_law_sum" bH (top 20) kf:=by
 have S:aw kf bH.ps (af (top 20)):=⟨rfl,rfl,rfl,by decide +kernel,rfl,by decide +kernel,by decide +kernel⟩
 have z:=S.nd;obtain ⟨⟩:=T;refine aS.of cq rfl a S rfl (λ_ _ _ _ _ _=>Ew λ_ _ _=>rfl) λ_ _ _ _ _ _ _ _ _=>?_
 array_get_dec
abbrev eO:List Str:=["_law_box_here", "_law_names", "_law_pockets", "_law_kinds", "_law_kind", "_law_pocket", "_law_sort", "_law_thing"]
theorem iS (T:dm pg) (a:At K mg "_law_touch_row" (top 21)):aS P w K mg pg "_law_touch_row" aI (top 21) eO:=by
 have S:aw eO aI.ps (af (top 21)):=⟨rfl,rfl,rfl,by decide +kernel,rfl,by decide +kernel,by decide +kernel⟩
 have z:=S.nd;obtain ⟨⟩:=T;refine aS.of aU rfl a S rfl (λ_ _ _ _ _ _=>Iy λ_ _ _ _=>rfl) λ_ _ _ _ _ _ _ _ _=>?_
 array_get_dec
abbrev jn:List Str:=["_law_box_here", "_law_names", "_law_pockets", "_law_kinds", "_law_sort", "_law_more", "_law_many", "_law_rows_here", "_law_k", "_law_way"]
theorem oZ (T:dm pg) (a:At K mg "_law_rows" (top 22)):aS P w K mg pg "_law_rows" c7 (top 22) jn:=by
 have S:aw jn c7.ps (af (top 22)):=⟨rfl,rfl,rfl,by decide +kernel,rfl,by decide +kernel,by decide +kernel⟩
 have z:=S.nd;obtain ⟨⟩:=T;refine aS.of fF rfl a S rfl (λ_ _ _ _ _ _=>Ew λ_ _ _=>rfl) λ_ _ _ _ _ _ _ _ _=>?_
 array_get_dec
abbrev dN:List Str:=["_law_box_here", "_law_pool", "_law_turn", "_law_names", "_law_sort", "_law_many", "_law_boxes", "_law_hands", "_law_k", "_law_pockets"]
theorem jY (T:dm pg) (a:At K mg "_law_program" (top 23)):aS P w K mg pg "_law_program" cF (top 23) dN:=by
 have S:aw dN cF.ps (af (top 23)):=⟨rfl,rfl,rfl,by decide +kernel,rfl,by decide +kernel,by decide +kernel⟩
 have z:=S.nd;have z0:(nG dN ["_law_name"]).Nodup:=by decide +kernel
 obtain ⟨⟩:=T;refine aS.of bO rfl a S rfl (λ_ _ _ _ _ _=>Br λ_=>rfl) λ_ _ _ _ _ _ _ _ _=>?_
 array_get_dec
abbrev hU:List Str:=["_law_e", "_law_pockets", "_law_one", "_law_other"]
theorem mX (T:dm pg) (a:At K mg "_law_worth" (top 24)):aS P w K mg pg "_law_worth" aH (top 24) hU:=by
 have S:aw hU aH.ps (af (top 24)):=⟨rfl,rfl,rfl,by decide +kernel,rfl,by decide +kernel,by decide +kernel⟩
 have z:=S.nd;obtain ⟨⟩:=T;refine aS.of aR rfl a S rfl (λ_ _ _ _ _ _=>ub λ_ _=>rfl) λ_ _ _ _ _ _ _ _ _=>?_
 array_get_dec
abbrev gz:List Str:=["_law_row", "_law_held"]
theorem lx (T:dm pg) (a:At K mg "_law_is_own" (top 25)):aS P w K mg pg "_law_is_own" bu (top 25) gz:=by
 have S:aw gz bu.ps (af (top 25)):=⟨rfl,rfl,rfl,by decide +kernel,rfl,by decide +kernel,by decide +kernel⟩
 have z:=S.nd;obtain ⟨⟩:=T;refine aS.of b7 rfl a S rfl (λ_ _ _ _ _ _=>ub λ_ _=>rfl) λ_ _ _ _ _ _ _ _ _=>?_
 array_get_dec
abbrev jo:List Str:=["_law_rows_here", "_law_at", "_law_pockets", "_law_held", "_law_gone_over", "_law_row"]
theorem nP (T:dm pg) (a:At K mg "_law_rest" (top 26)):aS P w K mg pg "_law_rest" cv (top 26) jo:=by
 have S:aw jo cv.ps (af (top 26)):=⟨rfl,rfl,rfl,by decide +kernel,rfl,by decide +kernel,by decide +kernel⟩
 have z:=S.nd;obtain ⟨⟩:=T;refine aS.of d4 rfl a S rfl (λ_ _ _ _ _ _=>Iy λ_ _ _ _=>rfl) λ_ _ _ _ _ _ _ _ _=>?_
 array_get_dec
abbrev dt:List Str:=["_law_program_here", "_law_state", "_law_hand", "_law_pockets", "_law_at"]
theorem mJ (T:dm pg) (a:At K mg "_law_first" (top 27)):aS P w K mg pg "_law_first" dz (top 27) dt:=by
 have S:aw dt dz.ps (af (top 27)):=⟨rfl,rfl,rfl,by decide +kernel,rfl,by decide +kernel,by decide +kernel⟩
 have z:=S.nd;have z0:(nG dt ["_law_name"]).Nodup:=by decide +kernel
 have z1:(nG dt ["_law_one"]).Nodup:=by decide +kernel
 obtain ⟨⟩:=T;refine aS.of dq rfl a S rfl (λ_ _ _ _ _ _=>Br λ_=>rfl) λ_ _ _ _ _ _ _ _ _=>?_
 array_get_dec
abbrev eY:List Str:=["_law_state", "_law_seats", "_law_at", "_law_pockets", "_law_held", "_law_some", "_law_found"]
theorem mH (T:dm pg) (a:At K mg "_law_stand" (top 28)):aS P w K mg pg "_law_stand" cC (top 28) eY:=by
 have S:aw eY cC.ps (af (top 28)):=⟨rfl,rfl,rfl,by decide +kernel,rfl,by decide +kernel,by decide +kernel⟩
 have z:=S.nd;have z0:(nG eY ["_law_name"]).Nodup:=by decide +kernel
 obtain ⟨⟩:=T;refine aS.of fc rfl a S rfl (λ_ _ _ _ _ _=>Br λ_=>rfl) λ_ _ _ _ _ _ _ _ _=>?_
 array_get_dec
abbrev cQ:List Str:=["_law_box_here", "_law_program_here", "_law_hands", "_law_name", "_law_rows_here", "_law_test", "_law_ahead", "_law_later"]
theorem jd (T:dm pg) (a:At K mg "_law_own_first" (top 29)):aS P w K mg pg "_law_own_first" bD (top 29) cQ:=by
 have S:aw cQ bD.ps (af (top 29)):=⟨rfl,rfl,rfl,by decide +kernel,rfl,by decide +kernel,by decide +kernel⟩
 have z:=S.nd;have z0:(nG cQ ["_law_row"]).Nodup:=by decide +kernel
 obtain ⟨⟩:=T;refine aS.of cT rfl a S rfl (λ_ _ _ _ _ _=>ub λ_ _=>rfl) λ_ _ _ _ _ _ _ _ _=>?_
 array_get_dec
abbrev qD:List Str:=["_law_script", "_law_box_here", "_law_programs", "_law_due", "_law_k", "_law_kept", "_law_found"]
theorem Av (T:dm pg) (a:At K mg "law" (top 30)):aS P w K mg pg "law" qV (top 30) qD:=by
 have S:aw qD qV.ps (af (top 30)):=⟨rfl,rfl,rfl,by decide +kernel,rfl,by decide +kernel,by decide +kernel⟩
 have z:=S.nd;have z0:(nG qD ["_law_k"]).Nodup:=by decide +kernel
 have z1:(nG qD ["_law_program_here"]).Nodup:=by decide +kernel
 obtain⟨⟩:=T;refine aS.of qN rfl a S rfl (λ_ _ _ _ _ _=>Br λ_=>rfl) λ_ _ _ _ _ _ _ _ _=>?_
 array_get_dec
end
end K19
end
section
open PySem L2 P3
local macro_rules
 | `(tactic| simp? [$ls,*])=> `(tactic| simp? (disch:=omega) only [$ls,*])
 | `(tactic| simp? (disch:= $t) only [$ls,*])=> do
  let xs ← ("↓F4 Dj ↓BJ yJ ↓Gj Ek ↓FP Bi Dq ↓BY xB ↓E3 C0 B1 Ds ↓Bf ↓yW vj xa ↓CG xo zm ↓zV xg ↓ze ↓yN ↓vC sN tV ↓Bs xp ↓Bd zL pM ↓xw ↓HW ↓Ht ↓wU rE Ac ↓Fc ↓xZ wq ↓Bz yV ↓Bp yM x5 yt ↓Cw xT wA vv DM vd ql ↓Ej zu xU xR B4 ↓vY qW om ↓DE Bv wk uz ↓vD qU ↓GA Cu B2 FJ DN zE zo xS Eb d7 uO jT yv jm List.getElem?_cons_zero List.getElem?_cons_succ List.set_cons_zero List.set_cons_succ List.map_cons List.map_nil List.cons_append List.nil_append List.replicate_succ List.replicate_zero List.length_cons List.length_nil zW Ak jL yk xc nz y8 Bt jc pF xC zR xG An zO Af y9 Ck Dp FN o8 Gb tf E2 yg nv Fn Hy len_T FI ↓DS zB vU x9 xD wC E7 C8 kU CJ ve ↓uv cD aK gf qq mQ j5 EC DW ↓EJ DT BL ↓F1 ↓EG Bk Hv HB Gx List.append_assoc List.length_append tq yu bI decide_true decide_false Bool.not_true Bool.not_false if_true if_false reduceIte ite_self Bool.false_eq_true String.reduceEq String.reduceNe reduceCtorEq Int.reduceEq Int.reduceNe Int.reduceLT Int.reduceLE Int.reduceSub Int.reduceAdd Int.reduceMul Int.reduceToNat Int.reduceNeg".splitOn " ").toArray.mapM λw=>if w.startsWith "↓" then `(Lean.Parser.Tactic.simpLemma| ↓$(Lean.mkIdent (w.drop 1).toName):term) else `(Lean.Parser.Tactic.simpLemma| $(Lean.mkIdent w.toName):term)
  let ys : Lean.TSyntaxArray [`Lean.Parser.Tactic.simpStar,`Lean.Parser.Tactic.simpErase,`Lean.Parser.Tactic.simpLemma] := ls.getElems ++ xs.map (λx=>⟨x.raw⟩)
  `(tactic| simp (disch:= $t) only [$ys,*])
section
set_option maxHeartbeats 1000000
namespace K19
inductive Bo where | add | sub | mul | less | same
 deriving DecidableEq
noncomputable def Bo.w:Bo->Str
 | .add=> "add" | .sub=> "sub" | .mul=> "mul" | .less=> "less" | .same=> "same"
noncomputable def Bo.f:Bo->Int->Int->Int
 | .add,a,b=>(a+b) % 1000
 | .sub,a,b=>(a - b) % 1000
 | .mul,a,b=>a*b % 1000
 | .less,a,b=>if a < b then 1 else 0
 | .same,a,b=>if a=b then 1 else 0
inductive Sm where
 | num (n:Int) | of (x:Str) | un (a:Sm) | bin (o:Bo) (a b:Sm)
noncomputable def cW:Sm->PV
 | .num n=> .tup [.str "num",.int n]
 | .of x=> .tup [.str "of",.str x]
 | .un a=> .tup [.str "not",cW a]
 | .bin o a b=> .tup [.str o.w,cW a,cW b]
noncomputable def Sm.dp:Sm->Nat
 | .num _=>1 | .of _=>1 | .un a=>a.dp+1 | .bin _ a b=>max a.dp b.dp+1
noncomputable def Sm.ok:Sm->Prop
 | .num n=>0<=n/\n<=999 | .of _=>True | .un a=>a.ok | .bin _ a b=>a.ok/\b.ok
noncomputable def Sm.val(f:Str->Int):Sm->Int
 | .num n=>n
 | .of x=>f x
 | .un a=>if a.val f=0 then 1 else 0
 | .bin o a b=>o.f (a.val f) (b.val f)
theorem Sm.mn {f : Str -> Int} (hf : ∀ x, 0 <= f x /\ f x <= 999) : ∀ e : Sm, e.ok -> 0 <= e.val f /\ e.val f <= 999
  | .num n, h => h
  | .of x, _ => hf x
  | .un a, _ => by unfold Sm.val; split <;> omega
  | .bin o a b, _ => by
    unfold Sm.val Bo.f;cases o <;> simp only <;> first
      | (split <;> omega)
      | exact ⟨Int.emod_nonneg _ (by decide), by have := Int.emod_lt_of_pos (Sm.val f a + Sm.val f b) (show (0 : Int) < 1000 by decide); omega⟩
      | exact ⟨Int.emod_nonneg _ (by decide), by have := Int.emod_lt_of_pos (Sm.val f a - Sm.val f b) (show (0 : Int) < 1000 by decide); omega⟩
      | exact ⟨Int.emod_nonneg _ (by decide), by have := Int.emod_lt_of_pos (Sm.val f a * Sm.val f b) (show (0 : Int) < 1000 by decide); omega⟩
theorem c8: ∀ e:Sm,(cW e).flat=true
 | .num n=>rfl
 | .of x=>rfl
 | .un a=>by simp[cW,PV.flat,PV.bF,c8 a]
 | .bin o a b=>by simp[cW,PV.flat,PV.bF,c8 a,c8 b]
abbrev Pk:=List (Str × Int)
noncomputable def uQ(ps:Pk):PV:= .tup (ps.map bW)
noncomputable def fP:Pk->Str->Int
 | [],_=>0
 | q::r,x=>if q.1=x then q.2 else fP r x
structure Jf(ps:Pk):Prop where
 G9:(ps.map (·.1)).Pairwise gj
 mem: ∀ q∈ps,1<=q.2/\q.2<=999
 len:ps.length<=20
theorem uA: ∀{ps:Pk},(∀ q∈ps,1<=q.2/\q.2<=999)-> ∀ x,0<=fP ps x/\fP ps x<=999
 | [],_,x=>by simp[fP]
 | q::r,h,x=>by
  unfold fP;split
  . have:=h q List.mem_cons_self;omega
  . exact uA (λz hz=>h z (List.mem_cons_of_mem _ hz)) x
theorem dQ: ∀(ps:Pk),PV.bF (ps.map bW)=true
 | []=>rfl
 | q::r=>by simp[PV.bF,bW,PV.flat,dQ r]
noncomputable def de(ps:Pk):List (Key × PV):=ps.map λq=>(.inr q.1,.int q.2)
theorem o4: ∀(ps:Pk),fK (ps.map bW)=some (de ps)
 | []=>rfl
 | q::r=>by simp[fK,bW,pairP?,fO,o4 r,de]
theorem pN: ∀(ps:Pk)(x:Str),(bR (de ps) (.inr x)).getD (.int 0)= .int (fP ps x)
 | [],x=>rfl
 | q::r,x=>by
  unfold fP de;rw[List.map_cons];by_cases e:q.1=x
  . rw[if_pos e,e,nv];rfl
  . rw[if_neg e,ox (by simpa using e)];exact pN r x
theorem yb: ∀{kvs:List (Key × PV)}{k:Key}{v:PV},k ∉ kvs.map (λkv:Key × PV=>kv.1)->eF kvs k v=kvs++[(k,v)]:=by
 intro kvs k v h;unfold eF;rw[if_neg];simp only[List.any_eq_true,decide_eq_true_eq,not_exists,not_and];exact λx hx e=>h (List.mem_map.mpr ⟨x,hx,e⟩)
theorem oJ: ∀(more acc:List (Key × PV)),((acc++more).map (λkv:Key × PV=>kv.1)).Nodup->bG acc more=acc++more
 | [],acc,_=>by simp[bG]
 | p::r,acc,h=>by
  have h2:p.1 ∉ acc.map (λkv:Key × PV=>kv.1):=by
   rw[List.map_append,List.nodup_append] at h;intro m;exact h.2.2 p.1 m p.1 (by simp) rfl
  show bG (eF acc p.1 p.2) r=_;rw [yb h2,oJ r _ (by simpa using h)];simp
theorem vT {ps : Pk} (nd : (ps.map (·.1)).Nodup) : bG [] (de ps) = de ps := by
  rw [oJ _ _ ?_]; · rfl
  have e : ([] ++ de ps).map (λkv : Key × PV => kv.1) = (ps.map (·.1)).map (Sum.inr (α := Int)) := by unfold de; rw [List.nil_append, List.map_map, List.map_map]; rfl
  rw [e];exact List.Pairwise.map _ (λa b z e => z (Sum.inr.inj e)) nd
section
variable {pg:Tb} (T:dm pg)
include T
theorem FY(k:Nat)(o:Bo)(a b:Int)(h:PH)(ha:0<=a/\a<=999):run pg (k+1) "joined_worth" [.str o.w,.int a,.int b] h= .ok (.int (o.f a b)) h:=by
 rw[run_eq T.ke rfl];cases o<;>simp? [bQ,dP,Bo.w,Bo.f]
 all_goals split<;>rfl
theorem gP(h:PH){ps:Pk}(nd:(ps.map (·.1)).Nodup)(hm: ∀ q∈ps,1<=q.2/\q.2<=999)(hl:ps.length<=1000): ∀(e:Sm)(k:Nat),e.ok->e.dp<=k->run pg (k+1) "worth" [cW e,uQ ps] h= .ok (.int (e.val (fP ps))) h
 | .num n,k,ho,hk=>by
  rw[run_eq T.jI rfl];simp? [d9,gc,cW,Sm.val]
 | .of x,k,ho,hk=>by
  rw[run_eq T.jI rfl];have hz:(ps.map bW).length < 16777216:=by rw[List.length_map];omega
  simp? [d9,gc,cW,uQ,Sm.val,o4,vT nd,pN,ve hz];exact cL rfl
 | .un a,k,ho,hk=>by
  obtain⟨k,rfl⟩: ∃ j,k=j+1:=⟨k - 1,by unfold Sm.dp at hk;omega⟩
  have ih:=gP h nd hm hl a k ho (by unfold Sm.dp at hk;omega);rw[run_eq T.jI rfl];simp? [d9,gc,cW,Sm.val,ih];split<;>rfl
 | .bin o a b,k,ho,hk=>by
  obtain⟨k,rfl⟩: ∃ j,k=j+1:=⟨k - 1,by unfold Sm.dp at hk;omega⟩
  have ih1:=gP h nd hm hl a k ho.1 (by unfold Sm.dp at hk;omega);have ih2:=gP h nd hm hl b k ho.2 (by unfold Sm.dp at hk;omega);have ij:=FY T k o (a.val (fP ps)) (b.val (fP ps)) h (Sm.mn (uA hm) a ho.1);rw[run_eq T.jI rfl];cases o<;>(simp only[Bo.w] at ij;simp? [d9,gc,cW,Sm.val,ih1,ih2,ij,Bo.w])
end
theorem jW{h:PH}{n:Nat}{os:Pk}(e:h[n]?=some (.lst (os.map bW)))(hl:os.length < 64)(nd:(os.map (·.1)).Nodup):bJ [.ref n] h= .ok (.ref h.length) (h++[.lst ((ig os).map bW)]):=by
 have hi:itemsOf h (.ref n)=some (os.map bW):=by simp[itemsOf,bV,e]
 show dj [.ref n] h=_;unfold dj;simp only[hi];cases os with
 | nil=>simp[fD,di,ig]
 | cons q r =>
  have e1:fD ((q::r).map bW)=none:=rfl
  rw[e1]
  simp only[oO]
  rw[if_pos ⟨hl,nd⟩]
noncomputable def lay(ps:Pk)(x:Str)(v:Int):Pk:=ig (ps.filter (λq=> !decide (q.1=x))++if v=0 then[] else[(x,v)])
theorem eV(ps:Pk):(ig ps).Perm ps:=List.mergeSort_perm ps _
theorem tM{ps:Pk}(nd:(ps.map (·.1)).Nodup):((ig ps).map (·.1)).Pairwise gj:=by
 have h1:(ig ps).Pairwise λa b=>jH a.1 b.1=true:=List.pairwise_mergeSort (λa b c=>eI a.1 b.1 c.1) (λa b=>by simpa using fX a.1 b.1) ps;have h2:((ig ps).map (·.1)).Nodup:=((eV ps).map _).nodup_iff.mpr nd
 rw[List.pairwise_map];rw[List.nodup_iff_pairwise_ne,List.pairwise_map] at h2;refine h1.imp₂ (λa b z1 z2=>?_) h2;rcases ja z2 with z | z
 . exact z
 . unfold jH at z1;simp[z] at z1
theorem jg{ps:Pk}(nd:(ps.map (·.1)).Nodup): ∀ q∈ps,fP ps q.1=q.2:=by
 induction ps with
 | nil=>intro q m;cases m
 | cons p r ih =>
  intro q m
  rw[List.map_cons] at nd;rw[List.nodup_cons] at nd
  unfold fP
  rcases List.mem_cons.mp m with e | m
  . rw[if_pos (by rw[e]),e]
  . rw[if_neg (λz=>nd.1 (by rw[z];exact List.mem_map.mpr ⟨q,m,rfl⟩))];exact ih nd.2 q m
theorem gJ{ps:Pk}{x:Str}(h:x ∉ ps.map (·.1)):fP ps x=0:=by
 induction ps with
 | nil=>rfl
 | cons p r ih =>
  rw[List.map_cons,List.mem_cons,not_or] at h
  unfold fP
  rw[if_neg (λz=>h.1 z.symm)]
  exact ih h.2
theorem yp{ps qs:Pk}(p:ps.Perm qs)(nd:(qs.map (·.1)).Nodup)(x:Str):fP ps x=fP qs x:=by
 by_cases hx:x∈qs.map (·.1)
 . obtain⟨q,m,rfl⟩:=List.mem_map.mp hx;rw[jg nd q m,jg ((p.map (·.1)).nodup_iff.mpr nd) q (p.mem_iff.mpr m)]
 . rw[gJ hx,gJ λz=>hx ((p.map (·.1)).mem_iff.mp z)]
theorem pv{ps:Pk}(nd:(ps.map (·.1)).Nodup)(x:Str)(v:Int):((ps.filter (λq=> !decide (q.1=x))++if v=0 then[] else[(x,v)]).map (·.1)).Nodup:=by
 rw[List.map_append];refine List.nodup_append.mpr ⟨(List.Sublist.map _ List.filter_sublist).nodup nd,?_,λa ha b hb e=>?_⟩
 . split<;>simp
 . split at hb
   . cases hb
   . obtain⟨q,m,rfl⟩:=List.mem_map.mp ha;have hb':b=x:=by simpa using hb
     have:=(List.mem_filter.mp m).2;simp only[Bool.not_eq_true',decide_eq_false_iff_not] at this;exact this (e.trans hb')
theorem C1{ps:Pk}(nd:(ps.map (·.1)).Nodup)(x:Str)(v:Int)(y:Str):fP (lay ps x v) y=if y=x then v else fP ps y:=by
 rw[lay,yp (eV _) (pv nd x v)];have app: ∀(l m:Pk)(y:Str),fP (l++m) y=if y∈l.map (·.1) then fP l y else fP m y:=by
  intro l m y
  induction l with
  | nil=>rfl
  | cons q r ih =>
   rw[List.cons_append,fP,fP,ih]
   by_cases e:q.1=y
   . rw[if_pos e,if_pos e,if_pos (by rw[List.map_cons,e];exact List.mem_cons_self)]
   . have e': ¬ y=q.1:=λz=>e z.symm;rw[if_neg e,if_neg e];simp only[List.map_cons,List.mem_cons,e',false_or]
 have fil: ∀ l:Pk,¬ y=x->fP (l.filter λq=> !decide (q.1=x)) y=fP l y:=by
  intro l ne
  induction l with
  | nil=>rfl
  | cons q r ih =>
   by_cases e:q.1=x
   . rw[List.filter_cons_of_neg (by simp[e]),fP,if_neg (λz=>ne (z.symm.trans e)),ih]
   . rw[List.filter_cons_of_pos (by simp[e]),fP,fP,ih]
 rw[app];by_cases e:y=x
 . rw[if_pos e,if_neg]
   . split
     . rename_i z;rw[z];rfl
     . rw[fP,if_pos e.symm]
   . intro z;obtain⟨q,m,rfl⟩:=List.mem_map.mp z;have:=(List.mem_filter.mp m).2;simp[e] at this
 . rw[if_neg e,fil ps e];split
   . rfl
   . rename_i z;have h0:fP ps y=0:=by
      rw[<- fil ps e];exact gJ z
     rw[h0];split
     . rfl
     . rw[fP,if_neg (λz=>e z.symm)];rfl
structure gn(L:List Str)(ps:Pk):Prop where
 G9:(ps.map (·.1)).Pairwise gj
 mem: ∀ q∈ps,q.1∈L/\1<=q.2/\q.2<=999
theorem gn.nd{L:List Str}{ps:Pk}(h:gn L ps):(ps.map (·.1)).Nodup:=h.G9.imp λ{a b} z e=>by subst e;exact gG _ z
theorem gn.len{L:List Str}{ps:Pk}(h:gn L ps):ps.length<=L.length:=by
 have:=List.Nodup.length_le_of_subset h.nd (l₂ :=L) (λx hx=>by obtain⟨q,hq,rfl⟩:=List.mem_map.mp hx;exact(h.mem q hq).1);simpa using this
theorem gn.nil{L:List Str}:gn L []:=⟨.nil,λq m=>by cases m⟩
theorem BQ{L:List Str}{ps:Pk}{x:Str}{v:Int}(h:gn L ps)(hx:x∈L)(h0:0<=v)(h9:v<=999):gn L (lay ps x v):=by
 refine⟨tM (pv h.nd x v),λq m=>?_⟩;rcases List.mem_append.mp ((eV _).mem_iff.mp m) with m | m
 . exact h.mem q (List.mem_filter.mp m).1
 . split at m
   . cases m
   . rw[List.mem_singleton.mp m];exact⟨hx,show 1<=v by omega,h9⟩
theorem Ee{L:List Str}{ps qs:Pk}(h1:gn L ps)(h2:gn L qs)(e: ∀ x,fP ps x=fP qs x):ps=qs:=by
 have key: ∀{ps qs:Pk},gn L ps->gn L qs->(∀ x,fP ps x=fP qs x)-> ∀ q∈ps,q∈qs:=λ{ps qs} h1 h2 e q m=>by
  have h:=jg h1.nd q m;have hx:q.1∈qs.map (·.1):=Decidable.byContradiction λz=>by
   have:=(h1.mem q m).2.1;rw[e,gJ z] at h;omega
  obtain⟨q',m',e'⟩:=List.mem_map.mp hx;have h':=jg h2.nd q' m';rw[e',<- e,h] at h';have:q'=q:=Prod.ext e' h'.symm;rw[<- this];exact m'
 refine gb (le:=λa b=>gj a.1 b.1) (λa _ b _ z1 z2=>absurd z2 (iK z1)) ?_ (by simpa [List.pairwise_map] using h1.G9) (by simpa [List.pairwise_map] using h2.G9);have n1:ps.Nodup:=List.Pairwise.of_map (R:=(· ≠ ·)) (·.1) (λa b z e=>z (by rw[e])) h1.nd
 have n2:qs.Nodup:=List.Pairwise.of_map (R:=(· ≠ ·)) (·.1) (λa b z e=>z (by rw[e])) h2.nd
 exact(List.perm_ext_iff_of_nodup n1 n2).mpr λq=>⟨key h1 h2 e q,key h2 h1 (λx=>(e x).symm) q⟩
theorem iM(x:Str): ∀ ps:Pk,(ps.filterMap λq=>if q.1=x then none else some (bW q))=(ps.filter (λq=> !decide (q.1=x))).map bW
 | []=>rfl
 | q::r=>by
  by_cases z:q.1=x
  . rw[List.filterMap_cons_none (by simp[z]),List.filter_cons_of_neg (by simp[z]),iM x r]
  . rw[List.filterMap_cons_some (by rw[if_neg z]),List.filter_cons_of_pos (by simp[z]),List.map_cons,iM x r]
section
variable{pg:Tb}(T:dm pg)
include T
theorem Aa(k:Nat)(h:PH){ps:Pk}(nd:(ps.map (·.1)).Nodup)(x:Str)(v:Int)(hl:(lay ps x v).length<=20)(hp:ps.length<=1000):run pg (k+1) "laid" [uQ ps,.str x,.int v] h= .ok (uQ (lay ps x v)) h:=by
 rw[run_eq T.BC rfl];have e1:eZ ⟨none,ps.map bW⟩ (aY 1 (gN 4) (aF (ag jD (ag ao (ab 4) (eC (.int 0))) (ab 1))) (ab 4) (run pg k) [some (.tup (ps.map bW)),some (.str x),some (.int v),none]) (ps.map bW) [] h= .ok ([]++ps.filterMap λq=>if q.1=x then none else some (bW q)) h:=by
  refine dY rfl ps [] (λq m=>?_) (by simp;omega);simp? [bW];by_cases z:q.1=x<;>simp[z]
 rw[iM,List.nil_append] at e1;have hl':(ps.filter (λq=> !decide (q.1=x))++if v=0 then[] else[(x,v)]).length<=20:=by rw[<- (eV _).length_eq];exact hl
 have nd':=pv nd x v;have hz:((ps.filter (λq=> !decide (q.1=x))).map bW).length < 16777216:=by
  rw[List.length_map];have:=List.length_filter_le (λq:Str × Int=> !decide (q.1=x)) ps;omega
 by_cases hv:v=0
 . subst hv;rw[if_pos rfl,List.append_nil] at hl' nd';have s1:=jW (h:=h++[.lst ((ps.filter (λq=> !decide (q.1=x))).map bW)]) (n:=h.length) cD (Nat.lt_of_le_of_lt hl' (by decide)) nd';simp? [iU,mN,uQ,e1,s1];rw[cL (v:= .tup _) (dQ _),lay,if_pos rfl,List.append_nil]
 . rw[if_neg hv] at hl' nd';have s1:=jW (h:=h++[.lst ((ps.filter (λq=> !decide (q.1=x))++[(x,v)]).map bW)]) (n:=h.length) cD (Nat.lt_of_le_of_lt hl' (by decide)) nd';rw[List.map_append] at s1;simp? [iU,mN,uQ,e1,hv,kU hz];rw[show List.map bW [(x,v)]=[PV.tup [PV.str x,PV.int v]] from rfl] at s1;simp? [s1,List.map_cons,List.map_nil];rw[cL (v:= .tup _) (dQ _),lay,if_neg hv]
end
inductive Rw where
 | let_ (x:Str) (e:Sm) | leap (k:Int) (e:Sm) | take (l:Str) | free (l:Str) | get (x b:Str) | put (b:Str) (e:Sm)
 | send (l:Str) (e:Sm) | fetch (x l:Str) | say (d:Str) (e:Sm) | clock (x:Str) | lot (x:Str) (n:Int) | hear (x d:Str)
noncomputable def Rw.w:Rw->Str
 | .let_ _ _=> "let" | .leap _ _=> "leap" | .take _=> "take" | .free _=> "free" | .get _ _=> "get" | .put _ _=> "put"
 | .send _ _=> "send" | .fetch _ _=> "fetch" | .say _ _=> "say" | .clock _=> "clock" | .lot _ _=> "lot" | .hear _ _=> "hear"
noncomputable def Rw.ps:Rw->List PV
 | .let_ x e=>[.str x,cW e] | .leap k e=>[.int k,cW e] | .take l=>[.str l] | .free l=>[.str l] | .get x b=>[.str x,.str b] | .put b e=>[.str b,cW e]
 | .send l e=>[.str l,cW e] | .fetch x l=>[.str x,.str l] | .say d e=>[.str d,cW e] | .clock x=>[.str x] | .lot x n=>[.str x,.int n] | .hear x d=>[.str x,.str d]
noncomputable def bt(r:Rw):PV:= .tup (.str r.w::r.ps)
noncomputable def aJ(rs:List Rw):PV:= .tup (rs.map bt)
structure c9 where
 row:Nat
 ps:Pk
 held:List Str
noncomputable def qR(hs:List Str):PV:= .tup (hs.map PV.str)
noncomputable def bf(s:c9):PV:= .tup [.int s.row,uQ s.ps,qR s.held]
noncomputable def own(held:List Str):Rw->Bool
 | .take l=>decide (l∈held)
 | .free l=> !decide (l∈held)
 | .let_ _ _=>true
 | .leap _ _=>true
 | _=>false
noncomputable def nt(e:Sm):Prop:=e.ok/\e.dp<=7
noncomputable def dI(L:List Str)(n:Nat):Rw->Prop
 | .let_ x e=>x∈L/\nt e
 | .leap k e=>0<=k/\k<=n/\nt e
 | .put _ e=>nt e
 | .send _ e=>nt e
 | .say _ e=>nt e
 | .get x _=>x∈L
 | .fetch x _=>x∈L
 | .clock x=>x∈L
 | .lot x m=>x∈L/\2<=m/\m<=1000
 | .hear x _=>x∈L
 | _=>True
noncomputable def behind(s:c9):Rw->c9
 | .let_ x e=>⟨s.row+1,lay s.ps x (e.val (fP s.ps)),s.held⟩
 | .leap k e=>if e.val (fP s.ps)=0 then⟨s.row+1,s.ps,s.held⟩ else⟨k.toNat,s.ps,s.held⟩
 | _=>⟨s.row+1,s.ps,s.held⟩
structure er(L:List Str)(rs:List Rw)(s:c9):Prop where
 pk:gn L s.ps
 le:s.row<=rs.length
theorem lQ: ∀ hs:List Str,PV.bF (hs.map PV.str)=true
 | []=>rfl
 | x::r=>by rw[List.map_cons,PV.bF,lQ r];rfl
theorem qh(s:c9):(bf s).flat=true:=by
 simp[bf,PV.flat,PV.bF,uQ,dQ,qR,lQ]
theorem uH(r:Rw):(bt r).flat=true:=by
 cases r<;>simp[bt,Rw.ps,PV.flat,PV.bF,c8]
theorem iy: ∀ rs:List Rw,PV.bF (rs.map bt)=true
 | []=>rfl
 | x::r=>by rw[List.map_cons,PV.bF,iy r,uH];rfl
noncomputable def bz(rs:List Rw)(s:c9):Bool:=match rs[s.row]? with
 | none=>true
 | some r=> !own s.held r
noncomputable def br(rs:List Rw):Nat->c9->c9
 | 0,s=>if bz rs s then s else⟨rs.length,s.ps,s.held⟩
 | n+1,s=>if bz rs s then s else match rs[s.row]? with
  | none=>s
  | some r=>br rs n (behind s r)
theorem fY{L:List Str}{rs:List Rw}{s:c9}{r:Rw}(h:er L rs s)(hr:dI L rs.length r)(e:rs[s.row]?=some r):er L rs (behind s r):=by
 have hlt:s.row < rs.length:=(List.getElem?_eq_some_iff.mp e).1;cases r with
 | let_ x e0 =>
  have hv:=Sm.mn (uA λq m=>(h.pk.mem q m).2) e0 hr.2.1
  exact⟨BQ h.pk hr.1 hv.1 hv.2,hlt⟩
 | leap j e0 =>
  show er L rs (if e0.val (fP s.ps)=0 then⟨s.row+1,s.ps,s.held⟩ else⟨j.toNat,s.ps,s.held⟩)
  split
  . exact ⟨h.pk,hlt⟩
  . exact ⟨h.pk,by have:=hr.2.1;have:=hr.1;show Int.toNat _<=rs.length;omega⟩
 | _=>exact ⟨h.pk,hlt⟩
theorem ky {L : List Str} {rs : List Rw} (hr : ∀ r ∈ rs, dI L rs.length r) : ∀ (n : Nat) (s : c9), er L rs s -> er L rs (br rs n s)
  | 0, s, h => by unfold br; split; · exact h
                  . exact ⟨h.pk, Nat.le_refl _⟩
  | n + 1, s, h => by
    unfold br; split
    . exact h
    . split
      . exact h
      . rename_i r e; exact ky hr n _ (fY h (hr r (List.mem_of_getElem? e)) e)
theorem fR{rs:List Rw}{s:c9}{r:Rw}(e:rs[s.row]?=some r):cZ (rs.map bt) (s.row:Int)=some (bt r):=P3.fZ rfl (by rw[List.getElem?_map,e];rfl)
section
variable{pg:Tb}(T:dm pg)
include T
theorem B8(k:Nat)(h:PH)(r:Rw)(held:List Str):run pg (k+1) "is_own_row" [bt r,qR held] h= .ok (.bl (own held r)) h:=by
 rw[run_eq T.mK rfl];cases r<;>simp? [cB,fe,bt,Rw.w,Rw.ps,qR,own]
theorem sP(k:Nat)(h:PH){L:List Str}(hL:L.length<=20){rs:List Rw}{s:c9}{r:Rw}(hs:er L rs s)(hr:dI L rs.length r)(hrow:rs[s.row]?=some r):run pg (k+9) "behind_own_row" [bt r,bf s] h= .ok (bf (behind s r)) h:=by
 have nd:=hs.pk.nd;have hm: ∀ q∈s.ps,1<=q.2/\q.2<=999:=λq m=>(hs.pk.mem q m).2;have hl:=hs.pk.len;have w: ∀ e:Sm,nt e->run pg (k+8) "worth" [cW e,uQ s.ps] h= .ok (.int (e.val (fP s.ps))) h:=λe he=>gP T h nd hm (by omega) e (k+7) he.1 (by have:=he.2;omega);rw[run_eq T.iQ rfl];cases r with
 | let_ x e =>
  have hb:=(fY hs hr hrow).pk.len
  have l1:=Aa T (k+7) h nd x (e.val (fP s.ps)) (Nat.le_trans hb hL) (by omega)
  simp? [aT,bA,bt,Rw.w,Rw.ps,bf,behind,w e hr.2,l1]
  rfl
 | leap j e =>
  simp? [aT,bA,bt,Rw.w,Rw.ps,bf,behind,w e hr.2.2]
  by_cases z:e.val (fP s.ps)=0
  . simp only[z,if_true];rfl
  . have:((j.toNat:Nat):Int)=j:=by have:=hr.1;omega
    simp only[z,if_false,this]
 | _ =>
  simp? [aT,bA,bt,Rw.w,Rw.ps,bf,behind]
  rfl
theorem ia(k:Nat)(h:PH){rs:List Rw}{s:c9}(hs:s.row<=rs.length):run pg (k+2) "is_rested" [aJ rs,bf s] h= .ok (.bl (bz rs s)) h:=by
 rw[run_eq T.oh rfl];cases e:rs[s.row]? with
 | none =>
  have:s.row=rs.length:=by have:=List.getElem?_eq_none_iff.mp e;omega
  have r1:bz rs s=true:=by unfold bz;rw[e]
  simp? [cy,d6,aJ,bf,r1,this,List.length_map]
 | some r =>
  have hlt:s.row < rs.length:=(List.getElem?_eq_some_iff.mp e).1
  have ne: ¬ (s.row:Int)=(rs.length:Int):=by omega
  have ix:=tF (h:=h) (fR e)
  have o1:=B8 T k h r s.held
  simp? [cy,d6,aJ,bf,bz,e,ne,ix,o1,List.length_map]
noncomputable def mE(p:PV)(j:Int)(rs:List Rw):Prop:= ∃ a b c d hs nm,p= .tup [a,b,c,d,.tup hs]/\cZ hs j=some (.tup [nm,aJ rs])
theorem pH(k:Nat)(h:PH){p:PV}{j:Int}{rs:List Rw}(hp:mE p j rs):run pg (k+1) "rows_of" [p,.int j] h= .ok (aJ rs) h:=by
 obtain⟨a,b,c,d,hs,nm,rfl,e⟩:=hp;rw[run_eq T.tK rfl];simp? [eG,iW,tF e]
theorem t9(k:Nat)(h:PH){L:List Str}(hL:L.length<=20){p:PV}{j:Int}{rs:List Rw}(hp:mE p j rs)(hr: ∀ r∈rs,dI L rs.length r){s:c9}(hs:er L rs s):run pg (k+10) "rested" [p,.int j,bf s] h= .ok (bf (br rs 200 s)) h:=by
 have rest: ∀(xs xs0:List PV)(s0 s:c9)(tv:Option PV),er L rs s ->
   ((bE ⟨none,xs0⟩ (cg (gN 5) (ah (dU (aF (ai "is_rested" (aa (ab 3) (aa (ab 4) ae)))) (aN (ab 4)) eA) (aA (ai "behind_own_row" (aa (ag ao (ab 3) (ag ao (ab 4) (eC (.int 0)))) (aa (ab 4) ae))) (gN 4))) (run pg (k+9))) xs
    [some p,some (.int j),some (bf s0),some (aJ rs),some (bf s),tv] h).bind
    (xq (ah (dU (aF (ai "is_rested" (aa (ab 3) (aa (ab 4) ae)))) (aN (ab 4)) eA) (aN (av (aa (eB bZ (aa (ab 3) ae)) (aa (ag ao (ab 4) (eC (.int 1))) (aa (ag ao (ab 4) (eC (.int 2))) ae)))))) (run pg (k+9))))= .ok (.rt (bf (br rs xs.length s))) h:=by
  intro xs xs0 s0
  induction xs with
  | nil =>
   intro s tv hs
   have q:=ia T (k+7) h hs.le
   simp? [iH,br,List.length_nil,q]
   cases bz rs s<;>simp? [bf,aJ,List.length_map,br]
  | cons x xs ih =>
   intro s tv hs
   have q:=ia T (k+7) h hs.le
   rw[jb]
   simp? [br,List.length_cons,q]
   cases e:rs[s.row]? with
   | none =>
    have r1:bz rs s=true:=by unfold bz;rw[e]
    simp? [r1,qE]
   | some r =>
    cases r1:bz rs s with
    | true=>simp? [r1,qE]
    | false =>
     have hm:=hr r (List.mem_of_getElem? e)
     have ix:=tF (h:=h) (fR e)
     have be:=sP T k h hL hs hm e
     have i0:ao (bf s) (.int 0) h= .ok (.int s.row) h:=rfl
     have ix':ao (aJ rs) (.int s.row) h= .ok (bt r) h:=ix
     simp? [r1,i0,ix',be,dA,ih _ _ (fY hs hm e)]
 rw[run_eq T.vk rfl];have ro:=pH T (k+8) h hp;simp? [fQ,kj,ro];have hh:=rest (ax 0 200) (ax 0 200) s s none hs;have len:(ax 0 200).length=200:=rfl;rw[len] at hh;exact(congrArg (fin h) hh).trans (by rw[jT,jm])
end
section
variable{pg:Tb}(T:dm pg)
include T
theorem kZ(k:Nat)(h:PH){L:List Str}(hL:L.length<=20){p:PV}{j:Int}{rs:List Rw}(hp:mE p j rs)(hr: ∀ r∈rs,dI L rs.length r):run pg (k+11) "first_seat" [p,.int j] h= .ok (bf (br rs 200 ⟨0,[],[]⟩)) h:=by
 have:=t9 T k h hL hp hr (s:=⟨0,[],[]⟩) ⟨.nil,Nat.zero_le _⟩;rw[run_eq T.m6 rfl];have e:PV.tup [.int 0,.tup [],.tup []]=bf ⟨0,[],[]⟩:=rfl;simp? [cE,eT,e,this]
end
structure tR(L:List Str)(D:Pk):Prop where
 nd:(D.map (·.1)).Nodup
 mem: ∀ q∈D,q.1∈L/\0<=q.2/\q.2<=999
noncomputable def putD(D:Pk)(x:Str)(v:Int):Pk:=if x∈D.map (·.1) then D.map (λq=>if q.1=x then(q.1,v) else q) else D++[(x,v)]
theorem pL(D:Pk)(x:Str)(v:Int):(D.map (λq=>if q.1=x then(q.1,v) else q)).map (·.1)=D.map (·.1):=by
 rw[List.map_map];refine List.map_congr_left λq _=>?_;show(if q.1=x then(q.1,v) else q).1=q.1;split<;>rfl
theorem yG(D:Pk)(x:Str)(v:Int):eF (de D) (.inr x) (.int v)=de (putD D x v):=by
 unfold eF putD;have e:((de D).any λkv=>decide (kv.1= .inr x))=decide (x∈D.map (·.1)):=by
  rw[Bool.eq_iff_iff];simp only[List.any_eq_true,decide_eq_true_eq,de,List.mem_map];constructor
  . rintro ⟨kv,⟨q,m,rfl⟩,e⟩;exact⟨q,m,Sum.inr.inj e⟩
  . rintro ⟨q,m,rfl⟩;exact⟨_,⟨q,m,rfl⟩,rfl⟩
 rw[e];by_cases h:x∈D.map (·.1)
 . rw[if_pos (by simpa only[decide_eq_true_eq] using h),if_pos h];unfold de;rw[List.map_map];rw[List.map_map];refine List.map_congr_left λq _=>?_;show(if (Sum.inr q.1:Key)=Sum.inr x then((Sum.inr q.1:Key),PV.int v) else(Sum.inr q.1,PV.int q.2))=_;by_cases z:q.1=x
   . rw[if_pos (by rw[z])];simp[z]
   . rw[if_neg (λe=>z (Sum.inr.inj e))];simp[z]
 . rw[if_neg (by simpa only[decide_eq_true_eq] using h),if_neg h];unfold de;rw[List.map_append];rfl
theorem pD(x:Str)(v:Int)(y:Str): ∀ D:Pk,x∈D.map (·.1)->fP (D.map (λq=>if q.1=x then(q.1,v) else q)) y=if y=x then v else fP D y
 | q::r,h=>by
  rw[List.map_cons,fP,fP];by_cases z:q.1=x
  . rw[if_pos z];by_cases w:y=x
    . subst w;rw[if_pos z,if_pos rfl]
    . rw[if_neg (λe=>w (e.symm.trans z)),if_neg w,if_neg (λe=>w (e.symm.trans z))];by_cases hr:x∈r.map (·.1)
      . rw[pD x v y r hr,if_neg w]
      . congr 1;refine(List.map_congr_left λp m=>?_).trans (List.map_id _);show(if p.1=x then(p.1,v) else p)=p;rw[if_neg (λe=>hr (List.mem_map.mpr ⟨p,m,e⟩))]
  . rw[if_neg z];have hr:x∈r.map (·.1):=by
     rcases List.mem_cons.mp h with e | m
     . exact absurd e.symm z
     . exact m
    rw[pD x v y r hr];by_cases w:q.1=y
    . rw[if_pos w,if_pos w,if_neg (λe=>z (w.trans e))]
    . rw[if_neg w,if_neg w]
theorem uI(x:Str)(v:Int)(y:Str): ∀ D:Pk,x ∉ D.map (·.1)->fP (D++[(x,v)]) y=if y=x then v else fP D y
 | [],_=>by
  rw[List.nil_append,fP,fP];by_cases w:y=x
  . rw[if_pos w,if_pos w.symm]
  . rw[if_neg w,if_neg (λe=>w e.symm)];rfl
 | q::r,h=>by
  rw[List.map_cons,List.mem_cons,not_or] at h;rw[List.cons_append,fP,fP,uI x v y r h.2];by_cases w:q.1=y
  . rw[if_pos w,if_pos w,if_neg (λe=>h.1 (e.symm.trans w.symm))]
  . rw[if_neg w,if_neg w]
theorem yZ(D:Pk)(x:Str)(v:Int)(y:Str):fP (putD D x v) y=if y=x then v else fP D y:=by
 unfold putD;split
 . rename_i h;exact pD x v y D h
 . rename_i h;exact uI x v y D h
theorem zt{L:List Str}{D:Pk}{x:Str}{v:Int}(h:tR L D)(hx:x∈L)(h0:0<=v)(h9:v<=999):tR L (putD D x v):=by
 unfold putD;split
 . refine⟨by rw[pL];exact h.nd,λq m=>?_⟩;obtain⟨p,mp,rfl⟩:=List.mem_map.mp m;by_cases z:p.1=x
   . rw[if_pos z];exact⟨(h.mem p mp).1,h0,h9⟩
   . rw[if_neg z];exact h.mem p mp
 . rename_i hn;refine⟨?_,λq m=>?_⟩
   . rw[List.map_append];refine List.nodup_append.mpr ⟨h.nd,by simp,λa ha b hb e=>?_⟩;have hb':b=x:=by simpa using hb
     exact hn (by rw[<- hb',<- e];exact ha)
   . rcases List.mem_append.mp m with m | m
     . exact h.mem q m
     . rw[List.mem_singleton.mp m];exact⟨hx,h0,h9⟩
theorem tR.xl{L:List Str}{D:Pk}(h:tR L D): ∀ x,0<=fP D x/\fP D x<=999:=λx=>by
 by_cases hx:x∈D.map (·.1)
 . obtain⟨q,m,rfl⟩:=List.mem_map.mp hx;rw[jg h.nd q m];exact(h.mem q m).2
 . rw[gJ hx];decide
theorem za{t:aq->PH->RV Bool}{b:aq->PH->RV Fl}{f:Nat}{e:aq}{h h1:PH}(ht:t e h= .ok false h1):cn t b (f+1) e h= .ok (.nx e) h1:=by
 rw[cn,ht,cm];rfl
theorem F2{t:aq->PH->RV Bool}{b:aq->PH->RV Fl}{f:Nat}{e e1:aq}{h h1 h2:PH}(ht:t e h= .ok true h1)(hb:b e h1= .ok (.nx e1) h2):cn t b (f+1) e h=cn t b f e1 h2:=by
 rw[cn,ht,cm,if_pos rfl,hb,cm]
theorem tR.len{L:List Str}{D:Pk}(h:tR L D):D.length<=L.length:=by
 have:=List.Nodup.length_le_of_subset h.nd (l₂ :=L) (λx hx=>by obtain⟨q,hq,rfl⟩:=List.mem_map.mp hx;exact(h.mem q hq).1);simpa using this
theorem jw(s:c9)(r:Rw):(behind s r).held=s.held:=by
 cases r with
 | leap j e0=>show(if e0.val (fP s.ps)=0 then(⟨s.row+1,s.ps,s.held⟩:c9) else⟨j.toNat,s.ps,s.held⟩).held=s.held;split<;>rfl
 | _=>rfl
theorem j0{rs:List Rw}{s:c9}(h:bz rs s=false): ∃ r,rs[s.row]?=some r/\own s.held r=true:=by
 unfold bz at h;cases e:rs[s.row]? with
 | none=>rw[e] at h;exact nomatch h
 | some r=>rw[e] at h;exact⟨r,rfl,by simpa using h⟩
theorem bY{a b:MS}{c:CF}{e e1:aq}{h h1:PH}(q:a c e h= .ok (.nx e1) h1):ah a b c e h=b c e1 h1:=by rw[wU,q,d7,rE]
theorem AV{t:MT}{b:MS}{c:CF}{e:aq}{h:PH}:pW t b c e h=cn (t c) (b c) 100000 e h:=(rfl)
theorem dE(ss:List Str):(di ss).Perm ss:=List.mergeSort_perm ss _
theorem sT{ss:List Str}(nd:ss.Nodup):(di ss).Pairwise gj:=by
 have h1:(di ss).Pairwise λa b=>jH a b=true:=List.pairwise_mergeSort eI (λa b=>by simpa using fX a b) ss;have h2:(di ss).Pairwise (· ≠ ·):=(dE ss).nodup_iff.mpr nd
 refine h1.imp₂ (λa b z1 z2=>?_) h2;rcases ja z2 with z | z
 . exact z
 . unfold jH at z1;simp[z] at z1
theorem uj{D:Pk}{f:Key × PV->PV}(hf: ∀ q:Str × Int,f (.inr q.1,.int q.2)= .str q.1):(de D).map f=(D.map (·.1)).map PV.str:=by
 unfold de;rw[List.map_map,List.map_map];exact List.map_congr_left λq _=>hf q
theorem xr{h:PH}{n:Nat}{D:Pk}(e:h[n]?=some (.dct (de D)))(hl:D.length < 64):bJ [.ref n] h= .ok (.ref h.length) (h++[.lst ((di (D.map (·.1))).map PV.str)]):=by
 have i0:itemsOf h (.ref n)=none:=by simp[itemsOf,bV,e]
 show dj [.ref n] h=_;unfold dj;simp only[i0,e];rw[uj,P3.iI]
 . simp only[List.length_map,if_pos hl]
 . exact λq=>rfl
theorem AS{D:Pk}{x:Str}: ∀{D:Pk},x∈D.map (·.1)->bR (de D) (.inr x)=some (.int (fP D x))
 | q::r,m=>by
  unfold fP de;rw[List.map_cons];by_cases e:q.1=x
  . rw[if_pos e,e,nv]
  . rw[if_neg e,ox (by simpa using e)];rcases List.mem_cons.mp m with m | m
    . exact absurd m.symm e
    . exact AS (D:=D) m
theorem j8{rs:List Rw}: ∀(n:Nat)(s:c9),(br rs n s).held=s.held
 | 0,s=>by unfold br;split<;>rfl
 | n+1,s=>by
  unfold br;split
  . rfl
  . split
    . rfl
    . rw[j8 n,jw]
noncomputable def tell(D:Pk)(ns:List Str):Pk:=(ns.filter λx=>decide (0 < fP D x)).map λx=>(x,fP D x)
theorem mM(D:Pk): ∀ ns:List Str,(ns.filterMap λx=>if 0 < fP D x then some (bW (x,fP D x)) else none)=(tell D ns).map bW
 | []=>rfl
 | x::r=>by
  unfold tell;by_cases z:0 < fP D x
  . rw[List.filterMap_cons_some (by rw[if_pos z]),List.filter_cons_of_pos (by simpa using z),List.map_cons,List.map_cons,mM D r];rfl
  . rw[List.filterMap_cons_none (by rw[if_neg z]),List.filter_cons_of_neg (by simpa using z),mM D r];rfl
theorem kM(D:Pk)(ns:List Str):(tell D ns).map (·.1)=ns.filter λx=>decide (0 < fP D x):=by
 unfold tell;rw[List.map_map];exact List.map_id _
theorem zN{L:List Str}{D ps:Pk}(h:tR L D)(hp:gn L ps)(e: ∀ x,fP D x=fP ps x):tell D (di (D.map (·.1)))=ps:=by
 have hin:gn L (tell D (di (D.map (·.1)))):=by
  refine⟨?_,λq m=>?_⟩
  . rw[kM];exact(sT h.nd).sublist List.filter_sublist
  . unfold tell at m;obtain⟨x,mx,rfl⟩:=List.mem_map.mp m;obtain⟨m1,m2⟩:=List.mem_filter.mp mx;obtain⟨q,mq,rfl⟩:=List.mem_map.mp ((dE _).mem_iff.mp m1);have:=h.xl q.1;have m3:0 < fP D q.1:=by simpa using m2
    exact⟨(h.mem q mq).1,by show 1<=fP D q.1;omega,by show fP D q.1<=999;omega⟩
 refine Ee hin hp λx=>?_;rw[<- e];by_cases hx:x∈(tell D (di (D.map (·.1)))).map (·.1)
 . obtain⟨q,m,rfl⟩:=List.mem_map.mp hx;rw[jg hin.nd q m];unfold tell at m;obtain⟨y,_,rfl⟩:=List.mem_map.mp m;rfl
 . rw[gJ hx];rw[kM] at hx;have:=h.xl x;by_cases hy:x∈D.map (·.1)
   . have: ¬ 0 < fP D x:=λz=>hx (List.mem_filter.mpr ⟨(dE _).mem_iff.mpr hy,by simpa using z⟩);omega
   . rw[gJ hy]
noncomputable def mY(ns:List Int):PO:= .iu (ns.map PV.int)
noncomputable def bj(q:Int × Int × Int):PO:= .lst [.int q.1,.int q.2.1,.int q.2.2]
theorem BR{q:Int × Int × Int}{n:Nat}:(bj q).gB n=true:=rfl
section
variable{h:PH}{n:Nat}{x y z v:PV}{fr:PO}{q q':Int × Int × Int}{g g':PH}
theorem Ff:vP n (.int 0) v h (some (.lst [x,y,z]))= .ok () (h.set n (.lst [v,y,z])):=rfl
theorem AL:vP n (.int 2) v h (some (.lst [x,y,z]))= .ok () (h.set n (.lst [x,y,v])):=rfl
theorem cY(hv:v.flat=true):P3.settle (fr::bj q::g) v (fr::bj q'::(g++g'))= .ok v (fr::bj q'::g) :=
 pJ (h:=fr::bj q::g) (g:=g') (i:=1) (o:=bj q) (o':=bj q') hv rfl rfl BR
theorem iq:P3.settle (fr::bj q::g) v (fr::bj q'::g)= .ok v (fr::bj q'::g):=jk (h:=fr::bj q::g) (i:=1) (o:=bj q) (o':=bj q')
end
theorem Ec{xs:List PV}{c:Int}(c0:0<=c)(c1:c < xs.length): ∃ x∈xs,cZ xs c=some x:=by
 obtain⟨n,rfl⟩:=Int.eq_ofNat_of_zero_le c0;exact⟨xs[n]'(by omega),List.getElem_mem _,P3.fZ rfl (List.getElem?_eq_getElem (by omega))⟩
theorem iL{ss:List Str}{v:Int}(h0:0<=v)(h1:v < ss.length): ∃ x∈ss,cZ (ss.map PV.str) v=some (.str x):=by
 obtain⟨n,en⟩:=Int.eq_ofNat_of_zero_le h0;subst en;have hn:n < ss.length:=by omega
 exact⟨ss[n],List.getElem_mem hn,P3.fZ rfl (by rw[List.getElem?_map,List.getElem?_eq_getElem hn];rfl)⟩
section
variable{pg:Tb}(T:dm pg)
include T
theorem bT(j:Nat)(fr:PO)(q:Int × Int × Int)(m:Int)(m0:0 < m)(m9:m<=1000000): ∃(v:Int)(q':Int × Int × Int),0<=v/\v < m/\ ∀ g,run pg (j+1) "_law_take" [.ref 1,.int m] (fr::bj q::g)= .ok (.int v) (fr::bj q'::g):=by
 obtain⟨a,b,c⟩:=q;have b0: ∀{q q':Int × Int × Int}{g:PH}{v:PV},P3.settle (fr::bj q::g) v (fr::bj q'::g)= .ok v (fr::bj q'::g):=iq;simp only[bj] at b0 ⊢;by_cases z:0 < a
 . refine⟨a % m,(a / m,b,c+1),Int.emod_nonneg _ (by omega),Int.emod_lt_of_pos _ m0,λg=>?_⟩;rw[run_eq T.jv rfl];have mm:0 < m/\m < 1073741824:=by omega
   simp? (disch:=first | omega | exact mm) only[cw,d8,Ff,AL,jP,tZ,z,jc];exact b0 (q:=(a,b,c)) (q':=(a / m,b,c+1))
 . let x:Int:=(b % 2147483647+31*(c+1))*48271 % 2147483629
   let y:Int:=(x / 11+17*(c+1))*69621 % 2147483587
   refine⟨y / 7 % m,(a,b,c+1),Int.emod_nonneg _ (by omega),Int.emod_lt_of_pos _ m0,λg=>?_⟩;rw[run_eq T.jv rfl];have m1: ∀(i:Int) h,cx (.int i) (.int 48271) h= .ok (.int (i*48271)) h:=λi h=>mV (by omega);have m2: ∀(i:Int) h,cx (.int i) (.int 69621) h= .ok (.int (i*69621)) h:=λi h=>mV (by omega);simp? [cw,d8,AL,jP,nZ,tZ,z,m1,m2,jc];exact b0 (q:=(a,b,c)) (q':=(a,b,c+1))
theorem Ei(j:Nat)(ns:List Int)(hn:ns.length<=63): ∃ q,run pg (j+1) "_law_box" [.ref 0,.int 0] [mY ns]= .ok (.ref 1) [mY ns,bj q]:=by
 have ln:bZ [.ref 0] [mY ns]= .ok (.int ns.length) [mY ns]:=by rw[Fq (xs:=ns.map PV.int) rfl,List.length_map]
 have t18:(10:Int) ^ Int.toNat 18=1000000000000000000:=by decide +kernel
 have mB: ∀(i:Int)(p:Bool) h,cx (.int i) (.int (if p=true then 1 else 0)) h= .ok (.int (i*if p=true then 1 else 0)) h:=λi p h=>mV (by split<;>omega);by_cases z:0 < (ns.length:Int)
 . obtain⟨x,xm,ex⟩:=Ec (xs:=ns.map PV.int) (c:=0 % (ns.length:Int)) (Int.emod_nonneg _ (by omega)) (by rw[List.length_map];exact Int.emod_lt_of_pos _ z);obtain⟨i,_,rfl⟩:=List.mem_map.mp xm;have ix:ao (.ref 0) (.int (0 % (ns.length:Int))) [mY ns]= .ok (.int i) [mY ns]:=by rw[o8];show Es _ _ (some (.iu _))=_;rw[E2,ex];rfl
   refine⟨((i+1009*(0 / (ns.length:Int)))*(if decide (1000000000000000000<=i+1009*(0 / (ns.length:Int)))=true then 1 else 0),i+1009*(0 / (ns.length:Int)),0),?_⟩;rw[run_eq T.km rfl];simp? [cU,eS,ln,z,ix,jc,pF,nz,mB,t18];exact eR rfl
 . refine⟨(0,0,0),?_⟩;rw[run_eq T.km rfl];simp? [cU,eS,ln,z,jc,pF,nz,mB,t18];exact eR rfl
end
theorem zF{v:Int}(h0:0<=v)(h1:v < 5): ∃ o:Bo,cZ [PV.str "add",.str "sub",.str "mul",.str "less",.str "same"] v=some (.str o.w):=by
 have:v=0\/v=1\/v=2\/v=3\/v=4:=by omega
 rcases this with rfl | rfl | rfl | rfl | rfl
 . exact⟨.add,rfl⟩
 . exact⟨.sub,rfl⟩
 . exact⟨.mul,rfl⟩
 . exact⟨.less,rfl⟩
 . exact⟨.same,rfl⟩
theorem Al{v:Int}(h0:0<=v)(h1:v < 7): ∃ n:Int,0<=n/\n<=999/\cZ [PV.int 0,.int 1,.int 2,.int 3,.int 7,.int 500,.int 999] v=some (.int n):=by
 have:v=0\/v=1\/v=2\/v=3\/v=4\/v=5\/v=6:=by omega
 rcases this with rfl | rfl | rfl | rfl | rfl | rfl | rfl<;>exact⟨_,by decide,by decide,rfl⟩
noncomputable def Sm.As(P:Str->Prop):Sm->Prop
 | .num _=>True
 | .of x=>P x
 | .un e=>e.As P
 | .bin _ a b=>a.As P/\b.As P
theorem of_imp{P Q:Str->Prop}(h: ∀ x,P x->Q x)(e:Sm):e.As P->e.As Q:=by
 induction e with
 | num _=>exact id
 | of x=>exact h x
 | un a ih=>exact ih
 | bin o a b i1 i2=>exact λz=>⟨i1 z.1,i2 z.2⟩
section
variable{pg:Tb}(T:dm pg)
include T
theorem qj(j:Nat)(fr:PO){np:Nat}{ps:List Str}(p0:0 < ps.length)(p9:ps.length<=1000): ∀(d:Nat)(q:Int × Int × Int)(g:PH),g[np]?=some (.lst (ps.map PV.str)) ->
  ∃(e:Sm)(q':Int × Int × Int),e.ok/\e.dp<=d+1/\e.As (· ∈ps)/\run pg (j+d+2) "_law_sum" [.ref 1,.ref (np+1+1),.int d] (fr::bj q::g)= .ok (cW e) (fr::bj q'::g):=by
 have num: ∀(k:Nat)(d:Int)(q:Int × Int × Int)(g:PH)(w:Int),d=0\/w < 2-> ∃(e:Sm)(q':Int × Int × Int)(G:PH),e.ok/\e.dp=1/\e.As (· ∈ps)/\ ∀ rest:MS,∀ u:Option PV,
   ah (dU (xv (aF (ag dh (ab 2) (eC (.int 0)))) (aF (ag yf (ab 3) (eC (.int 2))))) (aN (av (aa (eC (.str "num")) (aa (ag ao (ba (aa (eC (.int 0)) (aa (eC (.int 1)) (aa (eC (.int 2)) (aa (eC (.int 3)) (aa (eC (.int 7)) (aa (eC (.int 500)) (aa (eC (.int 999)) ae)))))))) (ai "_law_take" (aa (ab 0) (aa (eC (.int 7)) ae)))) ae)))) eA) rest (run pg (k+1)) [some (.ref 1),some (.ref (np+1+1)),some (.int d),some (.int w),u] (fr::bj q::g)= .ok (.rt (cW e)) (fr::bj q'::(g++G)):=λk d q g w hw=>by
  obtain⟨a,q',a0,a1,ea⟩:=bT T k fr q 7 (by decide) (by decide);obtain⟨n,n0,n1,en⟩:=Al a0 a1;refine⟨.num n,q',[.lst [.int 0,.int 1,.int 2,.int 3,.int 7,.int 500,.int 999]],⟨n0,n1⟩,rfl,trivial,λrest u=>?_⟩;by_cases z:d=0
  . simp? [z,ea,en,cW]
  . have z2:w < 2:=hw.resolve_left z;simp? [z,z2,ea,en,cW]
 intro d
 induction d with
 | zero =>
  intro q g hp
  obtain⟨w,q1,w0,w1,ew⟩:=bT T j fr q 8 (by decide) (by decide)
  obtain⟨e,q',G,h1,h2,h3,h4⟩:=num j (((0:Nat):Int)) q1 g w (.inl rfl)
  refine⟨e,q',h1,by omega,h3,?_⟩
  rw[Nat.add_zero,run_eq T.dG rfl]
  simp? [bH,cq,ew,↓h4,cY (c8 e)]
 | succ d ih =>
  intro q g hp
  have dd:((d+1:Nat):Int) - 1=(d:Int):=by omega
  have dn: ¬ ((d+1:Nat):Int)=0:=by omega
  have hlt:=aW hp
  obtain⟨w,q1,w0,w1,ew⟩:=bT T (j+d+1) fr q 8 (by decide) (by decide)
  rw[show j+(d+1)+2=(j+d+2)+1 by omega]
  by_cases c1:w < 2
  . obtain⟨e,q',G,h1,h2,h3,h4⟩:=num (j+d+1) ((d+1:Nat):Int) q1 g w (.inr c1);refine⟨e,q',h1,by omega,h3,?_⟩;rw[run_eq T.dG rfl];simp? [bH,cq,ew,↓h4,cY (c8 e)]
  . by_cases c2:w < 5
    . obtain⟨a,q2,a0,a1,ea⟩:=bT T (j+d+1) fr q1 ps.length (by omega) (by omega);obtain⟨x,hx,ex⟩:=iL a0 a1;refine⟨.of x,q2,trivial,by simp[Sm.dp],hx,?_⟩;rw[run_eq T.dG rfl];simp? [bH,cq,ew,dn,c1,c2,hp,ea,ex,cW,List.length_map];exact iq (v:=cW (.of x))
    . by_cases c3:w=5
      . obtain⟨e,q2,h1,h2,h3,h4⟩:=ih q1 g hp;refine⟨.un e,q2,h1,by unfold Sm.dp;omega,h3,?_⟩;subst c3;rw[run_eq T.dG rfl];simp? [bH,cq,ew,dn,dd,h4];exact iq (v:=cW (.un e))
      . let W:PH:=[.lst [.str "add",.str "sub",.str "mul",.str "less",.str "same"]]
        obtain⟨a,q2,a0,a1,ea⟩:=bT T (j+d+1) fr q1 5 (by decide) (by decide);obtain⟨o,eo⟩:=zF a0 a1;have hp':(g++W)[np]?=some (.lst (ps.map PV.str)):=by rw[aC hlt];exact hp
        obtain⟨e,q3,h1,h2,h3,h4⟩:=ih q2 (g++W) hp';obtain⟨f,q4,i1,i2,i3,i4⟩:=ih q3 (g++W) hp';refine⟨.bin o e f,q4,⟨h1,i1⟩,by unfold Sm.dp;omega,⟨h3,i3⟩,?_⟩;rw[run_eq T.dG rfl];simp only[W] at h4 i4;simp? [bH,cq,ew,dn,dd,c1,c2,c3,ea,eo,h4,i4];exact cY (v:=cW (.bin o e f)) (c8 _)
end
noncomputable def fw(x:Str):Bool:=decide (x.cps.size<=20)&&x.cps.toList.all λc=>decide (c < 16 ^ 8)
mutual
def ju:PV->Bool
 | .non=>true
 | .int i=>decide (0<=i/\i<=1000000)
 | .str x=>fw x
 | .tup xs=>cR xs
 | _=>false
def cR:List PV->Bool
 | []=>true
 | x::r=>ju x&&cR r
end
mutual
def kW:PV->Nat
 | .str x=>x.cps.size
 | .tup xs=>kS xs
 | _=>0
def kS:List PV->Nat
 | []=>0
 | x::r=>kW x+1+kS r
end
mutual
def kY:PV->Nat
 | .tup xs=>dC xs+1
 | _=>0
def dC:List PV->Nat
 | []=>0
 | x::r=>max (kY x) (dC r)
end
theorem oM{i:Int}(h0:0<=i)(h9:i<=1000000):(PyData.int i).shown.length<=13:=PyData.shown_int_le (by omega)
theorem sR{i:Int}(h0:0<=i)(h9:i<=1000000):i.natAbs.log2 < 1920:=by
 by_cases z:i.natAbs=0
 . rw[z];decide
 . rw[Nat.log2_lt z];exact Nat.lt_of_lt_of_le (show i.natAbs < 2 ^ 20 by omega) (Nat.pow_le_pow_right (by decide) (by decide))
mutual
theorem ju.d: ∀(v:PV),ju v=true-> ∃ d:PyData,(∀ sub,g8 sub v=some d)/\d.showable=true/\d.hasDict=false/\d.depth=kY v/\d.bulk=kW v/\PyData.leavesShort 13 d=true
 | .non,_=>⟨.none,λ_=>rfl,rfl,rfl,rfl,rfl,rfl⟩
 | .int i,h=>by
  rw[ju,decide_eq_true_eq] at h;exact⟨.int i,λ_=>rfl,by rw[PyData.showable,decide_eq_true_eq];exact sR h.1 h.2,rfl,rfl,rfl,by rw[PyData.leavesShort,decide_eq_true_eq];exact oM h.1 h.2⟩
 | .str x,h=>by
  rw[ju,fw,Bool.and_eq_true] at h;exact⟨.str x,λ_=>rfl,rfl,rfl,rfl,rfl,by rw[PyData.leavesShort];exact h.2⟩
 | .tup xs,h=>by
  rw[ju] at h;obtain⟨ds,e,h1,h2,h3,h4,h5⟩:=cR.d xs h;exact⟨.tuple ds,λsub=>by rw[g8,e];rfl,by rw[PyData.showable];exact h1,by rw[PyData.hasDict];exact h2,by rw[PyData.depth,h3,kY],by rw[PyData.bulk,h4,kW],by rw[PyData.leavesShort];exact h5⟩
theorem cR.d: ∀(xs:List PV),cR xs=true-> ∃ ds:List PyData,(∀ sub,bP sub xs=some ds)/\PyData.showableAll ds=true/\PyData.hasDictAll ds=false/\PyData.depthAll ds=dC xs/\PyData.bulkAll ds=kS xs/\PyData.leavesShortAll 13 ds=true
 | [],_=>⟨[],λ_=>rfl,rfl,rfl,rfl,rfl,rfl⟩
 | x::r,h=>by
  rw[cR,Bool.and_eq_true] at h;obtain⟨d,e,h1,h2,h3,h4,h5⟩:=ju.d x h.1;obtain⟨ds,e',i1,i2,i3,i4,i5⟩:=cR.d r h.2;exact⟨d::ds,λsub=>by rw[bP,e,e'],by rw[PyData.showableAll,h1,i1];rfl,by rw[PyData.hasDictAll,h2,i2];rfl,by rw[PyData.depthAll,h3,i3,dC],by rw[PyData.bulkAll,h4,i4,kS],by rw[PyData.leavesShortAll,h5,i5];rfl⟩
end
theorem qY{ys:List PV}(h:cR ys=true)(hd:dC ys<=60)(hb:kS ys<=1000000): ∃ x:Str,∀ g,dc [.tup ys] g= .ok (.str x) g:=by
 obtain⟨ds,e,h1,h2,h3,h4,h5⟩:=cR.d ys h;refine⟨(PyData.tuple ds).shown,λg=>?_⟩;have e2:dat 6 g (.tup ys)=some (.tuple ds):=by unfold dat;rw[g8,e];rfl
 have c:(PyData.tuple ds).showable=true/\(PyData.tuple ds).hasDict=false/\(PyData.tuple ds).depth<=64/\(PyData.tuple ds).shown.length<=sizeLine:=by
  refine⟨by rw[PyData.showable];exact h1,by rw[PyData.hasDict];exact h2,by rw[PyData.depth,h3];omega,?_⟩;exact PyData.shown_fits_bulk (B:=13) (by decide) (by decide) (by rw[PyData.leavesShort];exact h5) (by rw[PyData.bulk,h4];omega)
 unfold dc;simp only [e2];exact if_pos c
theorem fT: ∀ x∈(["num", "of", "not", "add", "sub", "mul", "less", "same", "let", "leap", "take", "free", "get", "put", "send", "fetch", "say", "clock", "lot", "hear"]:List Str),fw x=true∧x.cps.size<=5:=by decide +kernel
theorem zA (o:Bo):fw o.w=true∧o.w.cps.size<=5:=by cases o<;>exact fT _ (by simp only [Bo.w];decide +kernel)
theorem rw_show (r:Rw):fw r.w=true∧r.w.cps.size<=5:=by cases r<;>exact fT _ (by simp only [Rw.w];decide +kernel)
theorem fb {x:Str} (h:fw x=true):x.cps.size<=20:=by rw [fw,Bool.and_eq_true,decide_eq_true_eq] at h;exact h.1
theorem g9: ∀ e:Sm,e.ok->e.As (λx=>fw x=true)->ju (cW e)=true/\kW (cW e)+8<=32*2 ^ e.dp/\kY (cW e)<=e.dp
 | .num n,h,_=>by
  have h1:fw "num" =true/\(Str.ofString "num").cps.size<=5:=fT _ (by decide +kernel);have h2:0<=n/\n<=999:=h;simp only[cW,ju,cR,kW,kS,kY,dC,Sm.dp,h1.1,Bool.and_true,Bool.true_and,decide_eq_true_eq];omega
 | .of x,_,h=>by
  have h1:fw "of" =true/\(Str.ofString "of").cps.size<=5:=fT _ (by decide +kernel);have h2:fw x=true:=h;have h3:=fb h2;simp only[cW,ju,cR,kW,kS,kY,dC,Sm.dp,h1.1,h2,Bool.and_true,Bool.true_and,true_and];omega
 | .un e,h,h'=>by
  have h1:fw "not" =true/\(Str.ofString "not").cps.size<=5:=fT _ (by decide +kernel);obtain⟨i1,i2,i3⟩:=g9 e h h';simp only[cW,ju,cR,kW,kS,kY,dC,Sm.dp,h1.1,i1,Bool.and_true,Bool.true_and,true_and];rw[Nat.pow_succ];omega
 | .bin o a b,h,h'=>by
  have h1:=zA o;obtain⟨i1,i2,i3⟩:=g9 a h.1 h'.1;obtain⟨j1,j2,j3⟩:=g9 b h.2 h'.2;have p1:2 ^ a.dp<=2 ^ max a.dp b.dp:=Nat.pow_le_pow_right (by decide) (by omega);have p2:2 ^ b.dp<=2 ^ max a.dp b.dp:=Nat.pow_le_pow_right (by decide) (by omega);simp only[cW,ju,cR,kW,kS,kY,dC,Sm.dp,h1.1,i1,j1,Bool.and_true,Bool.true_and,true_and];rw[Nat.pow_succ];omega
noncomputable def eg(r:Rw):Prop:=ju (bt r)=true/\kW (bt r)<=300/\kY (bt r)<=10
noncomputable def m8(e:Sm):Prop:=e.ok/\e.dp<=3/\e.As (λx=>fw x=true)
theorem m8.ok{e:Sm}(h:m8 e):nt e:=⟨h.1,by have:=h.2.1;omega⟩
theorem l6{r:Rw}{x:Str}(e:r.ps=[.str x])(hx:fw x=true):eg r:=by
 have h1:=rw_show r;have h3:=fb hx;unfold eg bt;rw[e];simp only[ju,cR,kW,kS,kY,dC,h1.1,hx,Bool.and_true,Bool.true_and,true_and];omega
theorem sV{r:Rw}{x y:Str}(e:r.ps=[.str x,.str y])(hx:fw x=true)(hy:fw y=true):eg r:=by
 have h1:=rw_show r;have h3:=fb hx;have h4:=fb hy;unfold eg bt;rw[e];simp only[ju,cR,kW,kS,kY,dC,h1.1,hx,hy,Bool.and_true,Bool.true_and,true_and];omega
theorem sy{r:Rw}{x:Str}{i:Int}(e:r.ps=[.str x,.int i])(hx:fw x=true)(h0:0<=i)(h9:i<=1000000):eg r:=by
 have h1:=rw_show r;have h3:=fb hx;unfold eg bt;rw[e];simp only[ju,cR,kW,kS,kY,dC,h1.1,hx,Bool.and_true,Bool.true_and,decide_eq_true_eq];omega
theorem i9{r:Rw}{x:Str}{s:Sm}(e:r.ps=[.str x,cW s])(hx:fw x=true)(hs:m8 s):eg r:=by
 have h1:=rw_show r;have h3:=fb hx;obtain⟨i1,i2,i3⟩:=g9 s hs.1 hs.2.2;have h4:=hs.2.1;have p1:2 ^ s.dp<=2 ^ 3:=Nat.pow_le_pow_right (by decide) h4;unfold eg bt;rw[e];simp only[ju,cR,kW,kS,kY,dC,h1.1,hx,i1,Bool.and_true,Bool.true_and,true_and];omega
theorem lV{r:Rw}{i:Int}{s:Sm}(e:r.ps=[.int i,cW s])(h0:0<=i)(h9:i<=1000000)(hs:m8 s):eg r:=by
 have h1:=rw_show r;obtain⟨i1,i2,i3⟩:=g9 s hs.1 hs.2.2;have h4:=hs.2.1;have p1:2 ^ s.dp<=2 ^ 3:=Nat.pow_le_pow_right (by decide) h4;unfold eg bt;rw[e];simp only[ju,cR,kW,kS,kY,dC,h1.1,i1,Bool.and_true,Bool.true_and,decide_eq_true_eq];omega
theorem jV{f:Nat->Option PyData}: ∀ ss:List Str,bP f (ss.map PV.str)=some (ss.map PyData.str)
 | []=>rfl
 | x::r=>by rw[List.map_cons,bP,jV r];rfl
theorem o5{h:PH}{n k:Nat}{ss:List Str}(e:h[n]?=some (.lst (ss.map PV.str))):dat (k+1) h (.ref n)=some (.list (ss.map PyData.str)):=by
 unfold dat;simp only[g8,e,jV,Option.map_some]
theorem ne_nil{h:PH}{n m:Nat}{ss:List Str}(e1:h[n]?=some (.lst (ss.map PV.str)))(e2:h[m]?=some (.lst []))(ok: ∀ x∈ss,PyData.strOk x=true):jD (.ref n) (.ref m) h= .ok (.bl (!decide (ss=[]))) h:=by
 have d1:=o5 (k:=5) e1;have d2:=o5 (k:=5) (ss:=[]) (n:=m) e2;have sc:gR (.ref n) (.ref m)=false:=rfl;have dp: ∀ xs:List Str,PyData.canLay0 (.list (xs.map PyData.str))=xs.all PyData.strOk:=λxs=>by
  rw[PyData.canLay0,PyProof.Rows.canLayAll_strs']
 have al:alike (.ref n) (.ref m) h=some (decide (ss=[])):=by
  unfold alike;rw[sc,d1,d2];have c1:(PyData.list (ss.map PyData.str)).canLay0=true:=by rw[dp];exact List.all_eq_true.mpr ok
  have c2:(PyData.list (([]:List Str).map PyData.str)).canLay0=true:=by rw[dp];rfl
  have c3:min (PyData.list (ss.map PyData.str)).depth (PyData.list (([]:List Str).map PyData.str)).depth<=64:=Nat.le_trans (Nat.min_le_right _ _) (by decide);simp only[Bool.false_eq_true,if_false,c1,c2,c3,and_self,if_true];cases ss with
  | nil=>rfl
  | cons x r=>rfl
 have nd:fq h (.ref n)=false:=by simp only[fq,e1]
 unfold jD;rw[al,nd];rfl
theorem cG{n:Nat}{xs:List PV}{h:PH}(e:h[n]?=some (.lst xs)):js.gF ⟨some n,xs⟩ h=true:=by
 unfold js.gF;simp only[e,true_or,decide_true]
noncomputable def rN(s:List Str):Prop:=s.length<=20/\ ∀ x∈s,fw x=true/\PyData.strOk x=true
noncomputable def nu(s0 s1 s2 s3:List Str)(x:Str):Prop:=x= "clock" \/x= "lot" \/(s0≠[]/\(x= "get" \/x= "put"))\/(s1≠[]/\(x= "take" \/x= "free"))\/(s2≠[]/\(x= "send" \/x= "fetch"))\/(s3≠[]/\(x= "say" \/x= "hear"))
structure tX(J:PH)(nn:Nat)(s0 s1 s2 s3:List Str):Prop where
 at_: ∃ b0 b1 b2 b3:Nat,J[nn]?=some (.lst [.ref (b0+1+1),.ref (b1+1+1),.ref (b2+1+1),.ref (b3+1+1)])/\J[b0]?=some (.lst (s0.map PV.str))/\J[b1]?=some (.lst (s1.map PV.str))/\J[b2]?=some (.lst (s2.map PV.str))/\J[b3]?=some (.lst (s3.map PV.str))
 ok:rN s0/\rN s1/\rN s2/\rN s3
theorem tX.app{J g:PH}{nn:Nat}{s0 s1 s2 s3:List Str}(h:tX J nn s0 s1 s2 s3):tX (J++g) nn s0 s1 s2 s3:=by
 obtain⟨b0,b1,b2,b3,e,e0,e1,e2,e3⟩:=h.at_;exact ⟨⟨b0,b1,b2,b3,(aC (aW e)).trans e,(aC (aW e0)).trans e0,(aC (aW e1)).trans e1,(aC (aW e2)).trans e2,(aC (aW e3)).trans e3⟩,h.ok⟩
noncomputable def wQ:List (Key × PV):=[(.inr "get",.int 0),(.inr "put",.int 0),(.inr "take",.int 1),(.inr "free",.int 1),(.inr "send",.int 2),(.inr "fetch",.int 2),(.inr "say",.int 3),(.inr "hear",.int 3)]
theorem vR:bG [] wQ=wQ:=by decide +kernel
theorem oU (a:Str) (h:PH):nK (.str a) (.tup [.str "clock",.str "lot"]) h= .ok (.bl (decide (a∈(["clock", "lot"]:List Str)))) h:=tq (ss:=["clock", "lot"])
theorem ui (a:Str) (h:PH):nK (.str a) (.tup [.str "get",.str "fetch",.str "hear"]) h= .ok (.bl (decide (a∈(["get", "fetch", "hear"]:List Str)))) h:=tq (ss:=["get", "fetch", "hear"])
theorem AM (a:Str) (h:PH):nK (.str a) (.tup [.str "take",.str "free"]) h= .ok (.bl (decide (a∈(["take", "free"]:List Str)))) h:=tq (ss:=["take", "free"])
noncomputable def RowC (x:Str):Prop:=(x∈(["get", "fetch", "hear"]:List Str)∧ ∀ y t:Str,∃ r:Rw,r.w=x∧r.ps=[.str y,.str t]∧ ∀ L n,y∈L->dI L n r) ∨
 (¬ x∈(["get", "fetch", "hear"]:List Str)∧x∈(["take", "free"]:List Str)∧ ∀ t:Str,∃ r:Rw,r.w=x∧r.ps=[.str t]∧ ∀ L n,dI L n r) ∨
 (¬ x∈(["get", "fetch", "hear"]:List Str)∧ ¬ x∈(["take", "free"]:List Str)∧ ∀ (t:Str) (e:Sm),∃ r:Rw,r.w=x∧r.ps=[.str t,cW e]∧ ∀ L n,nt e->dI L n r)
theorem jN {x:Str} (h:x∈(["get", "put", "take", "free", "send", "fetch", "say", "hear"]:List Str)):RowC x:=by
 simp only [List.mem_cons,List.not_mem_nil,or_false] at h;rcases h with rfl | rfl | rfl | rfl | rfl | rfl | rfl | rfl
 . exact .inl ⟨by decide +kernel,λy t=>⟨.get y t,rfl,rfl,λ_ _ h=>h⟩⟩
 . exact .inr (.inr ⟨by decide +kernel,by decide +kernel,λt e=>⟨.put t e,rfl,rfl,λ_ _ h=>h⟩⟩)
 . exact .inr (.inl ⟨by decide +kernel,by decide +kernel,λt=>⟨.take t,rfl,rfl,λ_ _=>trivial⟩⟩)
 . exact .inr (.inl ⟨by decide +kernel,by decide +kernel,λt=>⟨.free t,rfl,rfl,λ_ _=>trivial⟩⟩)
 . exact .inr (.inr ⟨by decide +kernel,by decide +kernel,λt e=>⟨.send t e,rfl,rfl,λ_ _ h=>h⟩⟩)
 . exact .inl ⟨by decide +kernel,λy t=>⟨.fetch y t,rfl,rfl,λ_ _ h=>h⟩⟩
 . exact .inr (.inr ⟨by decide +kernel,by decide +kernel,λt e=>⟨.say t e,rfl,rfl,λ_ _ h=>h⟩⟩)
 . exact .inl ⟨by decide +kernel,λy t=>⟨.hear y t,rfl,rfl,λ_ _ h=>h⟩⟩
theorem xE {J:PH} {nn:Nat} {s0 s1 s2 s3:List Str} (N:tX J nn s0 s1 s2 s3) {x:Str} (h:nu s0 s1 s2 s3 x):x= "clock" ∨x= "lot" ∨
  ∃ (i:Int) (b:Nat) (s:List Str) (rf:List PV),bR wQ (.inr x)=some (.int i)∧ ¬ x∈(["clock", "lot"]:List Str)∧J[nn]?=some (.lst rf)∧cZ rf i=some (.ref (b+1+1))∧J[b]?=some (.lst (s.map PV.str))∧s≠[]∧rN s∧RowC x:=by
 obtain ⟨b0,b1,b2,b3,e,e0,e1,e2,e3⟩:=N.at_;obtain ⟨o0,o1,o2,o3⟩:=N.ok;rcases h with h | h | ⟨z,h⟩ | ⟨z,h⟩ | ⟨z,h⟩ | ⟨z,h⟩
 . exact .inl h
 . exact .inr (.inl h)
 . rcases h with rfl | rfl<;>exact .inr (.inr ⟨0,b0,s0,_,by decide +kernel,by decide +kernel,e,jP,e0,z,o0,jN (by decide +kernel)⟩)
 . rcases h with rfl | rfl<;>exact .inr (.inr ⟨1,b1,s1,_,by decide +kernel,by decide +kernel,e,nZ,e1,z,o1,jN (by decide +kernel)⟩)
 . rcases h with rfl | rfl<;>exact .inr (.inr ⟨2,b2,s2,_,by decide +kernel,by decide +kernel,e,tZ,e2,z,o2,jN (by decide +kernel)⟩)
 . rcases h with rfl | rfl<;>exact .inr (.inr ⟨3,b3,s3,_,by decide +kernel,by decide +kernel,e,BZ,e3,z,o3,jN (by decide +kernel)⟩)
theorem Au{c:Int}(c0:0<=c)(c1:c < 4): ∃ n:Int,2<=n/\n<=1000/\cZ [PV.int 2,.int 3,.int 7,.int 1000] c=some (.int n):=by
 rcases(show c=0\/c=1\/c=2\/c=3 by omega) with rfl | rfl | rfl | rfl<;>exact⟨_,by decide,by decide,rfl⟩
section
variable{pg:Tb}(T:dm pg)
include T
theorem Ad(j:Nat)(fr:PO){nn np nk:Nat}{ps ks s0 s1 s2 s3 L:List Str}(p0:0 < ps.length)(p9:ps.length<=1000)(hL: ∀ x∈ps,x∈L)(hP: ∀ x∈ps,fw x=true)(k0:0 < ks.length)(k9:ks.length<=1000)(hK: ∀ x∈ks,nu s0 s1 s2 s3 x)(q:Int × Int × Int){J:PH}(N:tX J nn s0 s1 s2 s3)(ep:J[np]?=some (.lst (ps.map PV.str)))(ek:J[nk]?=some (.lst (ks.map PV.str))) :
  ∃(r:Rw)(q':Int × Int × Int),(∀ n,dI L n r)/\eg r/\run pg (j+5) "_law_touch_row" [.ref 1,.ref (nn+1+1),.ref (np+1+1),.ref (nk+1+1)] (fr::bj q::J)= .ok (bt r) (fr::bj q'::J):=by
 obtain⟨a,q1,a0,a1,ea⟩:=bT T (j+3) fr q ks.length (by omega) (by omega);obtain⟨x,hx,ex⟩:=iL a0 a1;obtain⟨b,q2,b0,b1,eb⟩:=bT T (j+3) fr q1 ps.length (by omega) (by omega);obtain⟨y,hy,ey⟩:=iL b0 b1;have yL:=hL y hy;have yS:=hP y hy;rcases xE N (hK x hx) with rfl | rfl | ⟨i,bb,s,rf,v1,v2,v3,v4,v5,v6,v7,cl⟩
 . refine ⟨.clock y,q2,λ_=>yL,l6 rfl yS,?_⟩;have m1:(Str.ofString "clock")∈(["clock", "lot"]:List Str):=by decide +kernel
   rw [run_eq T.bB rfl];simp? [aI,aU,ek,ep,List.length_map,ea,ex,eb,ey,oU,m1,bt,Rw.w,Rw.ps];exact iq
 . obtain ⟨c,q3,c0,c1,ec⟩:=bT T (j+3) fr q2 4 (by decide) (by decide);obtain ⟨n,n0,n9,en⟩:=Au c0 c1;refine ⟨.lot y n,q3,λ_=>⟨yL,n0,n9⟩,sy rfl yS (by omega) (by omega),?_⟩;have m1:(Str.ofString "lot")∈(["clock", "lot"]:List Str):=by decide +kernel
   rw [run_eq T.bB rfl];simp? [aI,aU,ek,ep,List.length_map,ea,ex,eb,ey,oU,m1,ec,en,bt,Rw.w,Rw.ps];exact cY rfl
 . have sp:0 < s.length:=List.length_pos_iff.mpr v6;have sl:=v7.1;obtain⟨c,q3,c0,c1,ec⟩:=bT T (j+3) fr q2 s.length (by omega) (by omega);obtain⟨t,ht,et⟩:=iL c0 c1;have tS:=(v7.2 t ht).1;have old: ∀{n:Nat}{o:PO}(g:PH),J[n]?=some o->(J++g)[n]?=some o:=λg e=>(aC (aW e)).trans e;have dk:Er (J.length+1+1) [((.inr "get" :Key),PV.int 0),(.inr "put",.int 0),(.inr "take",.int 1),(.inr "free",.int 1),(.inr "send",.int 2),(.inr "fetch",.int 2),(.inr "say",.int 3),(.inr "hear",.int 3)] (fr::bj q2::(J++[.dct []]))= .ok (.ref (J.length+1+1)) (fr::bj q2::(J++[.dct wQ])):=by
    have:=rl (h:=fr::bj q2::J) (kvs:=wQ) (by simp[wQ]);rw[vR] at this;exact this
   have w3:=old [.dct wQ] v3;have w5:=old [.dct wQ] v5;rcases cl with⟨g1,g2⟩ | ⟨g1,g2,g3⟩ | ⟨g1,g2,g3⟩
   . obtain⟨r,r1,r2,r3⟩:=g2 y t;have rv:bt r= .tup [.str x,.str y,.str t]:=by unfold bt;rw[r1,r2]
     refine⟨r,q3,λn=>r3 L n yL,sV r2 yS tS,?_⟩;rw[rv,run_eq T.bB rfl];simp? [aI,aU,ek,ep,List.length_map,ea,ex,eb,ey,oU,v2,hI,jQ,gS,j9,jS,kQ,dk,v1,w3,v4,w5,ec,et,ui,g1];exact cY rfl
   . obtain⟨r,r1,r2,r3⟩:=g3 t;have rv:bt r= .tup [.str x,.str t]:=by unfold bt;rw[r1,r2]
     refine⟨r,q3,λn=>r3 L n,l6 r2 tS,?_⟩;rw[rv,run_eq T.bB rfl];simp? [aI,aU,ek,ep,List.length_map,ea,ex,eb,ey,oU,v2,hI,jQ,gS,j9,jS,kQ,dk,v1,w3,v4,w5,ec,et,ui,g1,AM,g2];exact cY rfl
   . obtain⟨e,q4,h1,h2,h3,h4⟩:=qj T j fr p0 p9 2 q3 (J++[.dct wQ]) (old [.dct wQ] ep);have hs:m8 e:=⟨h1,h2,of_imp hP e h3⟩
     obtain⟨r,r1,r2,r3⟩:=g3 t e;have rv:bt r= .tup [.str x,.str t,cW e]:=by unfold bt;rw[r1,r2]
     refine⟨r,q4,λn=>r3 L n hs.ok,i9 r2 tS hs,?_⟩;have h4':run pg (j+4) "_law_sum" [.ref 1,.ref (np+1+1),.int 2] (fr::bj q3::(J++[.dct wQ]))=_:=h4;rw[rv,run_eq T.bB rfl];simp? [aI,aU,ek,ep,List.length_map,ea,ex,eb,ey,oU,v2,hI,jQ,gS,j9,jS,kQ,dk,v1,w3,v4,w5,ec,et,ui,g1,AM,g2,h4'];exact cY (v:= .tup [.str x,.str t,cW e]) (by simp[PV.flat,PV.bF,c8])
end
structure KE(H:PH)(nd:Nat)(e:PV × List Str × List Str):Prop where
 at_: ∃(i:Int)(q b:Nat)(rf:List PV),e.1= .tup [.int i,.ref q]/\H[nd]?=some (.lst rf)/\cZ rf i=some (.ref b)/\H[b]?=some (.lst (e.2.2.map PV.str))/\H[q]?=some (.lst (e.2.1.map PV.str))
 ok: ∀ x∈e.2.2,PyData.strOk x=true
 le:e.2.1.length<=4
theorem KE.app{H g:PH}{nd:Nat}{e:PV × List Str × List Str}(h:KE H nd e):KE (H++g) nd e:=by
 obtain⟨i,q,b,rf,h1,h2,h3,h4,h5⟩:=h.at_;exact⟨⟨i,q,b,rf,h1,(aC (aW h2)).trans h2,h3,(aC (aW h4)).trans h4,(aC (aW h5)).trans h5⟩,h.ok,h.le⟩
noncomputable def kG:MG:=(gT 2 (aZ (gN 4) (aZ (gN 5) eL)))
noncomputable def kB:MS:=(dU (aF (ag jD (ag ao (ab 1) (ab 4)) (ba ae))) (aA (ag bq (ag bq (ab 3) (ab 5)) (ab 5)) (gN 3)) eA)
theorem GX(c:CF){H:PH}{nd cc:Nat}{ks:List Str}{e:PV × List Str × List Str}(E:KE H nd e)(e4:H[cc]?=some (.lst (ks.map PV.str)))(hl:ks.length<=900)(a0 a2 u4 u5 n6 n7 n8 n9:Option PV) :
  ∃(g':PH)(c':Nat)(ks':List Str)(v4 v5:Option PV),(H++g')[c']?=some (.lst (ks'.map PV.str))/\cc<=c'/\ks.length<=ks'.length/\ks'.length<=ks.length+10/\(∀ x∈ks',x∈ks\/(e.2.2≠[]/\x∈e.2.1)) /\
   cg kG kB c e.1 [a0,some (.ref nd),a2,some (.ref cc),u4,u5,n6,n7,n8,n9] H= .ok (.nx [a0,some (.ref nd),a2,some (.ref c'),v4,v5,n6,n7,n8,n9]) (H++g'):=by
 obtain⟨i,q,b,rf,h1,e1,e2,e3,e5⟩:=E.at_;obtain⟨it,qs,ss⟩:=e;simp only at h1 e3 e5 ⊢;subst h1;have hq:qs.length<=4:=E.le;have l3:=aW e3;have l4:=aW e4;have l5:=aW e5;have ne:=ne_nil (h:=H++[.lst []]) (n:=b) (m:=H.length) (ss:=ss) (by rw[aC l3];exact e3) cD E.ok;by_cases z:ss=[]
 . refine⟨[.lst []],cc,ks,some (.int i),some (.ref q),by rw[aC l4];exact e4,Nat.le_refl _,Nat.le_refl _,by omega,λx m=> .inl m,?_⟩;simp? [kG,kB,e1,e2,ne,z]
 . have ad1:=nj (h:=H++[.lst []]) (n:=cc) (m:=q) (by rw[aC l4];exact e4) (by rw[aC l5];exact e5) (by rw[List.length_map,List.length_map];omega);have ad2:bq (.ref (H.length+(0+1))) (.ref q) (H++[.lst [],.lst (ks.map PV.str++qs.map PV.str)])= .ok (.ref (H.length+(0+1+1))) (H++[.lst [],.lst (ks.map PV.str++qs.map PV.str),.lst (ks.map PV.str++qs.map PV.str++qs.map PV.str)]):=by
    have:=nj (h:=H++[.lst [],.lst (ks.map PV.str++qs.map PV.str)]) (n:=H.length+(0+1)) (m:=q) (xs:=ks.map PV.str++qs.map PV.str) (ys:=qs.map PV.str) (by rw[aK];rfl) (by rw[aC l5];exact e5) (by rw[List.length_append,List.length_map,List.length_map];omega);simpa using this
   refine⟨[.lst [],.lst (ks.map PV.str++qs.map PV.str),.lst (ks.map PV.str++qs.map PV.str++qs.map PV.str)],H.length+(0+1+1),ks++qs++qs,some (.int i),some (.ref q),by rw[aK,List.map_append,List.map_append];rfl,by omega,by simp only[List.length_append];omega,by simp only[List.length_append];omega,λx m=>?_,?_⟩
   . rcases List.mem_append.mp m with m | m
     . rcases List.mem_append.mp m with m | m
       . exact .inl m
       . exact .inr ⟨z,m⟩
     . exact .inr ⟨z,m⟩
   . simp? [kG,kB,e1,e2,ne,z,ad1,ad2]
theorem Gf(c:CF){nd n0:Nat}(xs0:List PV)(a0 a2 n6 n7 n8 n9:Option PV): ∀(es:List (PV × List Str × List Str))(H:PH)(cc:Nat)(ks:List Str)(u4 u5:Option PV),(∀ e∈es,KE H nd e)->H[cc]?=some (.lst (ks.map PV.str))->H[n0]?=some (.lst xs0)->ks.length+10*es.length<=900 ->
  ∃(g':PH)(c':Nat)(ks':List Str)(v4 v5:Option PV),(H++g')[c']?=some (.lst (ks'.map PV.str))/\cc<=c'/\ks.length<=ks'.length/\ks'.length<=ks.length+10*es.length/\(∀ x∈ks',x∈ks\/ ∃ e∈es,e.2.2≠[]/\x∈e.2.1) /\
   bE ⟨some n0,xs0⟩ (cg kG kB c) (es.map (·.1)) [a0,some (.ref nd),a2,some (.ref cc),u4,u5,n6,n7,n8,n9] H= .ok (.nx [a0,some (.ref nd),a2,some (.ref c'),v4,v5,n6,n7,n8,n9]) (H++g'):=by
 intro es
 induction es with
 | nil=>intro H cc ks u4 u5 _ e4 e0 _;exact⟨[],cc,ks,u4,u5,by rw[List.append_nil];exact e4,Nat.le_refl _,Nat.le_refl _,by simp,λx m=> .inl m,by rw[List.append_nil];exact nF (cG e0)⟩
 | cons e es ih =>
  intro H cc ks u4 u5 hE e4 e0 hl
  rw[List.length_cons] at hl
  obtain⟨g1,c1,k1,v4,v5,f1,f0,f2,f3,f4,f5⟩:=GX c (hE e List.mem_cons_self) e4 (by omega) a0 a2 u4 u5 n6 n7 n8 n9
  obtain⟨g2,c2,k2,w4,w5,i1,i0,i2,i3,i4,i5⟩:=ih (H++g1) c1 k1 v4 v5 (λx m=>(hE x (List.mem_cons_of_mem _ m)).app) f1 ((aC (aW e0)).trans e0) (by omega)
  refine⟨g1++g2,c2,k2,w4,w5,by rw[<- List.append_assoc];exact i1,by omega,by omega,by rw[List.length_cons];omega,λx m=>?_,?_⟩
  . rcases i4 x m with m | ⟨e',m',z⟩
    . rcases f4 x m with m | z
      . exact .inl m
      . exact .inr ⟨e,List.mem_cons_self,z⟩
    . exact .inr ⟨e',List.mem_cons_of_mem _ m',z⟩
  . rw[List.map_cons,mC (cG e0),f5,d7,dA,i5,List.append_assoc]
theorem xQ{a b c:Int}(a0:0<=a)(a1:a < 4)(b0:0<=b)(b1:b < 8)(c0:c=0\/c=1): ∃ m:Int,0<=m/\m<=10/\cZ [PV.int a,.int (3+b)] c=some (.int m):=by
 rcases c0 with rfl | rfl
 . exact⟨a,a0,by omega,jP⟩
 . exact⟨3+b,by omega,by omega,nZ⟩
noncomputable def Ex:MS:=(ah (aA (ai "_law_take" (aa (ab 0) (aa (eC (.int 8)) ae))) (gN 9)) (dU (aF (ag dh (ab 9) (eC (.int 0)))) (cj (eM aQ bN (ab 7) (aa (av (aa (eC (.str "let")) (aa (ag ao (ab 2) (ai "_law_take" (aa (ab 0) (aa (eB bZ (aa (ab 2) ae)) ae)))) (aa (ai "_law_sum" (aa (ab 0) (aa (ab 2) (aa (eC (.int 2)) ae)))) ae)))) ae))) (dU (aF (ag dh (ab 9) (eC (.int 1)))) (cj (eM aQ bN (ab 7) (aa (av (aa (eC (.str "leap")) (aa (ai "_law_take" (aa (ab 0) (aa (ag bq (ab 6) (eC (.int 1))) ae))) (aa (ai "_law_sum" (aa (ab 0) (aa (ab 2) (aa (eC (.int 2)) ae)))) ae)))) ae))) (cj (eM aQ bN (ab 7) (aa (ai "_law_touch_row" (aa (ab 0) (aa (ab 1) (aa (ab 2) (aa (ab 3) ae))))) ae))))))
section
variable{pg:Tb}(T:dm pg)
include T
theorem tT(j:Nat)(fr:PO){nn np nk:Nat}{ps ks s0 s1 s2 s3 L:List Str}(p0:0 < ps.length)(p9:ps.length<=1000)(hL: ∀ x∈ps,x∈L)(hP: ∀ x∈ps,fw x=true)(k0:0 < ks.length)(k9:ks.length<=1000)(hK: ∀ x∈ks,nu s0 s1 s2 s3 x){J:PH}(N:tX J nn s0 s1 s2 s3)(ep:J[np]?=some (.lst (ps.map PV.str)))(ek:J[nk]?=some (.lst (ks.map PV.str))){m:Nat}(m9:m<=10)(xs0:List PV)(a4 a5:Option PV) :
  ∀(ak:List PV)(rs:List Rw)(q:Int × Int × Int)(a8 a9:Option PV),rs.length+ak.length<=1000 ->
  ∃(rs':List Rw)(q':Int × Int × Int)(b8 b9:Option PV),rs'.length=ak.length/\(∀ r∈rs',dI L m r/\eg r) /\
   bE ⟨none,xs0⟩ (cg (gN 8) Ex (run pg (j+5))) ak [some (.ref 1),some (.ref (nn+1+1)),some (.ref (np+1+1)),some (.ref (nk+1+1)),a4,a5,some (.int m),some (.ref (J.length+1+1)),a8,a9] (fr::bj q::(J++[.lst (rs.map bt)])) =
   .ok (.nx [some (.ref 1),some (.ref (nn+1+1)),some (.ref (np+1+1)),some (.ref (nk+1+1)),a4,a5,some (.int m),some (.ref (J.length+1+1)),b8,b9]) (fr::bj q'::(J++[.lst ((rs++rs').map bt)])):=by
 intro ak
 induction ak with
 | nil=>intro rs q a8 a9 _;exact⟨[],q,a8,a9,rfl,(λr m=>nomatch m),by rw[List.append_nil];exact iH⟩
 | cons x ak ih =>
  intro rs q a8 a9 hl
  rw[List.length_cons] at hl
  obtain⟨w,q1,w0,w1,ew⟩:=bT T (j+4) fr q 8 (by decide) (by decide)
  have hz:(rs.map bt).length < 16777216:=by rw[List.length_map];omega
  have ep':(J++[PO.lst (rs.map bt)])[np]?=some (.lst (ps.map PV.str)):=by rw[aC (aW ep)];exact ep
  have ek':(J++[PO.lst (rs.map bt)])[nk]?=some (.lst (ks.map PV.str)):=by rw[aC (aW ek)];exact ek
  suffices st: ∃(r:Rw)(q2:Int × Int × Int)(u9:Option PV),(dI L m r/\eg r)/\cg (gN 8) Ex (run pg (j+5)) x [some (.ref 1),some (.ref (nn+1+1)),some (.ref (np+1+1)),some (.ref (nk+1+1)),a4,a5,some (.int m),some (.ref (J.length+1+1)),a8,a9] (fr::bj q::(J++[.lst (rs.map bt)]))= .ok (.nx [some (.ref 1),some (.ref (nn+1+1)),some (.ref (np+1+1)),some (.ref (nk+1+1)),a4,a5,some (.int m),some (.ref (J.length+1+1)),some x,u9]) (fr::bj q2::(J++[.lst (rs.map bt++[bt r])])) by
   obtain⟨r,q2,u9,hr,st⟩:=st;obtain⟨rs',q',b8,b9,i1,i2,i3⟩:=ih (rs++[r]) q2 (some x) u9 (by simp only[List.length_append,List.length_cons,List.length_nil];omega);refine⟨r::rs',q',b8,b9,by rw[List.length_cons,List.length_cons,i1],λz m=>?_,?_⟩
   . rcases List.mem_cons.mp m with rfl | m
     . exact hr
     . exact i2 z m
   . rw[List.map_append,List.map_cons,List.map_nil] at i3;rw[jb,st,d7,dA,i3,List.append_assoc];rfl
  by_cases z0:w=0
  . subst z0;obtain⟨b,q2,b0,b1,eb⟩:=bT T (j+4) fr q1 ps.length (by omega) (by omega);obtain⟨y,hy,ey⟩:=iL b0 b1;obtain⟨e,q3,h1,h2,h3,h4⟩:=qj T (j+1) fr p0 p9 2 q2 (J++[.lst (rs.map bt)]) ep';have h4':run pg (j+5) "_law_sum" [.ref 1,.ref (np+1+1),.int 2] (fr::bj q2::(J++[.lst (rs.map bt)]))=_:=h4;have hs:m8 e:=⟨h1,h2,of_imp hP e h3⟩
    refine⟨.let_ y e,q3,some (.int 0),⟨⟨hL y hy,hs.ok⟩,i9 rfl (hP y hy) hs⟩,?_⟩;simp? [Ex,ew,ep',List.length_map,eb,ey,h4',kU hz,bt,Rw.w,Rw.ps]
  by_cases z1:w=1
  . subst z1;obtain⟨b,q2,b0,b1,eb⟩:=bT T (j+4) fr q1 ((m:Int)+1) (by omega) (by omega);obtain⟨e,q3,h1,h2,h3,h4⟩:=qj T (j+1) fr p0 p9 2 q2 (J++[.lst (rs.map bt)]) ep';have h4':run pg (j+5) "_law_sum" [.ref 1,.ref (np+1+1),.int 2] (fr::bj q2::(J++[.lst (rs.map bt)]))=_:=h4;have hs:m8 e:=⟨h1,h2,of_imp hP e h3⟩
    refine⟨.leap b e,q3,some (.int 1),⟨⟨b0,by omega,hs.ok⟩,lV rfl b0 (by omega) hs⟩,?_⟩;simp? [Ex,ew,eb,h4',kU hz,bt,Rw.w,Rw.ps]
  . obtain⟨r,q2,h1,h2,h3⟩:=Ad T j fr p0 p9 hL hP k0 k9 hK q1 N.app ep' ek';refine⟨r,q2,some (.int w),⟨h1 m,h2⟩,?_⟩;simp? [Ex,ew,z0,z1,h3,kU hz]
end
noncomputable def kF:MS:=(iG (iJ (ba (aa (av (aa (eC (.int 0)) (aa (ba (aa (eC (.str "get")) (aa (eC (.str "put")) ae))) ae))) (aa (av (aa (eC (.int 1)) (aa (ba (aa (eC (.str "take")) (aa (eC (.str "free")) ae))) ae))) (aa (av (aa (eC (.int 2)) (aa (ba (aa (eC (.str "send")) (aa (eC (.str "fetch")) ae))) ae))) (aa (av (aa (eC (.int 3)) (aa (ba (aa (eC (.str "say")) (aa (eC (.str "hear")) ae))) ae))) ae)))))) kG kB)
theorem GH(c:CF)(fr:PO)(q:Int × Int × Int){nn:Nat}{s0 s1 s2 s3:List Str}{J:PH}(N:tX J nn s0 s1 s2 s3)(a0 a2:Option PV) :
  ∃(g':PH)(nk:Nat)(ks:List Str)(v4 v5:Option PV),(J++g')[nk]?=some (.lst (ks.map PV.str))/\0 < ks.length/\ks.length<=1000/\(∀ x∈ks,nu s0 s1 s2 s3 x) /\
   kF c [a0,some (.ref (nn+1+1)),a2,some (.ref (J.length+1+1)),none,none,none,none,none,none] (fr::bj q::(J++[.lst [.str "clock",.str "lot"]]))= .ok (.nx [a0,some (.ref (nn+1+1)),a2,some (.ref (nk+1+1)),v4,v5,none,none,none,none]) (fr::bj q::(J++g')):=by
 obtain ⟨b0,b1,b2,b3,e,e0,e1,e2,e3⟩:=N.at_;obtain ⟨o0,o1,o2,o3⟩:=N.ok
 let m:=J.length
 let es:List (PV × List Str × List Str):=[(.tup [.int 0,.ref (m+(0+1)+1+1)],["get", "put"],s0),(.tup [.int 1,.ref (m+(0+1+1)+1+1)],["take", "free"],s1),(.tup [.int 2,.ref (m+(0+1+1+1)+1+1)],["send", "fetch"],s2),(.tup [.int 3,.ref (m+(0+1+1+1+1)+1+1)],["say", "hear"],s3)]
 let Y:PH:=[.lst [.str "clock",.str "lot"],.lst [.str "get",.str "put"],.lst [.str "take",.str "free"],.lst [.str "send",.str "fetch"],.lst [.str "say",.str "hear"],.lst (es.map (·.1))]
 have old: ∀ {n:Nat} {o:PO},J[n]?=some o->(fr::bj q::(J++Y))[n+1+1]?=some o:=λe=>by
  rw [List.getElem?_cons_succ,List.getElem?_cons_succ];exact (aC (aW e)).trans e
 have new: ∀(i:Nat),(fr::bj q::(J++Y))[m+i+1+1]?=Y[i]?:=λi=>by
  rw[List.getElem?_cons_succ,List.getElem?_cons_succ];exact aK
 have hE: ∀ x∈es,KE (fr::bj q::(J++Y)) (nn+1+1) x:=λx mx=>by
  simp only[es,List.mem_cons,List.not_mem_nil,or_false] at mx;rcases mx with rfl | rfl | rfl | rfl
  . exact⟨⟨0,_,b0+1+1,_,rfl,old e,jP,old e0,by rw[new];rfl⟩,λx m=>(o0.2 x m).2,by simp⟩
  . exact ⟨⟨1,_,b1+1+1,_,rfl,old e,nZ,old e1,by rw [new];rfl⟩,λx m=>(o1.2 x m).2,by simp⟩
  . exact ⟨⟨2,_,b2+1+1,_,rfl,old e,tZ,old e2,by rw [new];rfl⟩,λx m=>(o2.2 x m).2,by simp⟩
  . exact ⟨⟨3,_,b3+1+1,_,rfl,old e,BZ,old e3,by rw [new];rfl⟩,λx m=>(o3.2 x m).2,by simp⟩
 obtain ⟨g1,c1,ks,v4,v5,f1,f0,f2,f3,f4,f5⟩:=Gf c (nd:=nn+1+1) (n0:=m+(0+1+1+1+1+1)+1+1) (es.map (·.1)) a0 a2 none none none none es (fr::bj q::(J++Y)) (m+1+1) ["clock", "lot"] none none hE (new 0) (by rw [new];rfl) (by simp [es])
 obtain ⟨nk,rfl⟩: ∃ nk,c1=nk+1+1:=⟨c1 - 2,by omega⟩
 refine ⟨Y++g1,nk,ks,v4,v5,?_,Nat.lt_of_lt_of_le (by simp) f2,Nat.le_trans f3 (by simp [es]),λx mx=>?_,?_⟩
 . rw [List.cons_append,List.cons_append,List.getElem?_cons_succ,List.getElem?_cons_succ,List.append_assoc] at f1;exact f1
 . rcases f4 x mx with mx | ⟨e',m',z,mx⟩
   . simp only[List.mem_cons,List.not_mem_nil,or_false] at mx;rcases mx with h | h
     . exact .inl h
     . exact .inr (.inl h)
   . simp only[es,List.mem_cons,List.not_mem_nil,or_false] at m';rcases m' with rfl | rfl | rfl | rfl<;>simp only[List.mem_cons,List.not_mem_nil,or_false] at mx z
     . exact .inr (.inr (.inl ⟨z,mx⟩))
     . exact .inr (.inr (.inr (.inl ⟨z,mx⟩)))
     . exact .inr (.inr (.inr (.inr (.inl ⟨z,mx⟩))))
     . exact .inr (.inr (.inr (.inr (.inr ⟨z,mx⟩))))
 . simp only[es,List.map_cons,List.map_nil,Y,m,List.cons_append,List.append_assoc] at f5;simp? [kF,f5];rfl
section
variable{pg:Tb}(T:dm pg)
include T
theorem zI(j:Nat)(fr:PO){nn np:Nat}{ps s0 s1 s2 s3 L:List Str}(p0:0 < ps.length)(p9:ps.length<=1000)(hL: ∀ x∈ps,x∈L)(hP: ∀ x∈ps,fw x=true)(q:Int × Int × Int){J:PH}(N:tX J nn s0 s1 s2 s3)(ep:J[np]?=some (.lst (ps.map PV.str))) :
  ∃(rs:List Rw)(q':Int × Int × Int),rs.length<=10/\(∀ r∈rs,dI L rs.length r/\eg r)/\run pg (j+6) "_law_rows" [.ref 1,.ref (nn+1+1),.ref (np+1+1)] (fr::bj q::J)= .ok (aJ rs) (fr::bj q'::J):=by
 obtain⟨g1,nk,ks,v4,v5,f1,f2,f3,f4,f5⟩:=GH (run pg (j+5)) fr q N (some (.ref 1)) (some (.ref (np+1+1)));obtain⟨a,q1,a0,a1,ea⟩:=bT T (j+4) fr q 4 (by decide) (by decide);obtain⟨b,q2,b0,b1,eb⟩:=bT T (j+4) fr q1 8 (by decide) (by decide);obtain⟨d,q3,d0,d1,ed⟩:=bT T (j+4) fr q2 6 (by decide) (by decide);obtain⟨mi,m0,m9,em⟩:=xQ a0 a1 b0 b1 (c:=if decide (0 < d)=true then 1 else 0) (by split<;>simp);obtain⟨m,rfl⟩:=Int.eq_ofNat_of_zero_le m0;have N':tX (J++(g1++[.lst [.int a,.int (3+b)]])) nn s0 s1 s2 s3:=N.app;obtain⟨rs,q4,b8,b9,h1,h2,h3⟩:=tT T j fr p0 p9 hL hP f2 f3 f4 N' (by rw[aC (aW ep)];exact ep) (by rw[<- List.append_assoc,aC (aW f1)];exact f1) (m:=m) (by omega) (ax 0 m) v4 v5 (ax 0 m) [] q3 none none (by simp[ax];omega);have lr:(ax 0 m).length=m:=by unfold ax;simp
 rw[lr] at h1;refine⟨rs,q4,by omega,by rw[h1];exact h2,?_⟩;rw[List.map_nil,List.nil_append] at h3;have tn:Int.toNat (m:Int)=m:=Int.toNat_natCast m;unfold kF kG kB at f5;unfold Ex at h3;simp only[List.length_append,List.length_cons,List.length_nil,List.append_assoc,List.cons_append,List.nil_append] at h3;rw[run_eq T.oF rfl];simp? [c7,fF,↓f5,ea,eb,ed,em,jc,tn,h3];exact cY (v:=aJ rs) (iy rs)
end
noncomputable def aG (h:Str × List Rw):PV:= .tup [.str h.1,aJ h.2]
noncomputable def jt:List Str:=["a", "ab", "putter", "b", "getx", "abc", "locked", "sayer", "c", "hands", "fetched", "abcdefgh"]
theorem vx: ∀ x∈jt,fw x=true∧PyData.strOk x=true:=by decide +kernel
noncomputable def uK (pl:List Str):Prop:=pl.length=12∧ ∀ x∈pl,fw x=true∧PyData.strOk x=true
theorem tU {pl:List Str} (h:uK pl) (lo hi:Option Int): ∃ ss:List Str,ef (pl.map PV.str) lo hi=ss.map PV.str∧rN ss:=by
 unfold ef;refine⟨(pl.drop (HT.bU (pl.map PV.str).length 0 lo)).take (HT.bU (pl.map PV.str).length (pl.map PV.str).length hi - HT.bU (pl.map PV.str).length 0 lo),by rw[List.map_take,List.map_drop],?_,λx m=>h.2 x (List.mem_of_mem_drop (List.mem_of_mem_take m))⟩;have:=h.1;simp only[List.length_take,List.length_drop];omega
theorem qr{xs:List Int}{v:Int}(h0:0<=v)(h1:v < xs.length): ∃ x∈xs,cZ (xs.map PV.int) v=some (.int x):=by
 obtain⟨n,en⟩:=Int.eq_ofNat_of_zero_le h0;subst en;have hn:n < xs.length:=by omega
 exact⟨xs[n],List.getElem_mem hn,P3.fZ rfl (by rw[List.getElem?_map,List.getElem?_eq_getElem hn];rfl)⟩
noncomputable def wL(b:Nat)(X:PH)(r:PV):Prop:= ∃(i:Nat)(ss:List Str),r= .ref (b+i+1+1)/\X[i]?=some (.lst (ss.map PV.str))/\rN ss
theorem wL.more{b:Nat}{X:PH}{r:PV}(h:wL b X r)(Y:PH):wL b (X++Y) r:=by
 obtain⟨i,ss,h1,h2,h3⟩:=h;exact⟨i,ss,h1,(aC (aW h2)).trans h2,h3⟩
noncomputable def Hf:MS:=(ah (aA (ag ao (ba (aa (eC (.int 1)) (aa (eC (.int 2)) (aa (eC (.int 1)) (aa (eC (.int 0)) (aa (eC (.int 2)) ae)))))) (ai "_law_take" (aa (ab 0) (aa (eC (.int 5)) ae)))) (gN 5)) (cj (eM aQ bN (ab 3) (aa (vQ (ab 1) (eN (ag cx (eC (.int 2)) (ab 4))) (eN (ag bq (ag cx (eC (.int 2)) (ab 4)) (ab 5)))) ae))))
noncomputable def Hh:ME:=(av (aa (ab 10) (aa (ag ao (ba (aa (eC (.int 0)) (aa (eC (.int 5)) (aa (eC (.int 999)) (aa (eC (.int 1)) ae))))) (ai "_law_take" (aa (ab 0) (aa (eC (.int 4)) ae)))) ae)))
section
variable{pg:Tb}(T:dm pg)
include T
theorem pI(j:Nat)(fr:PO){np:Nat}{pl:List Str}(hp:uK pl){J:PH}(ep:J[np]?=some (.lst (pl.map PV.str)))(xs0:List PV)(e2 e6 e7 e8 e9:Option PV) :
  ∀(ak:List Int)(refs:List PV)(X:PH)(q:Int × Int × Int)(e4 e5:Option PV),refs.length+ak.length<=1000->(∀ r∈refs,wL (J.length+1) X r) ->
  ∃(refs':List PV)(X':PH)(q':Int × Int × Int)(f4 f5:Option PV),refs'.length=refs.length+ak.length/\(∀ r∈refs',wL (J.length+1) X' r) /\
   bE ⟨none,xs0⟩ (cg (gN 4) Hf (run pg (j+1))) (ak.map PV.int) [some (.ref 1),some (.ref (np+1+1)),e2,some (.ref (J.length+1+1)),e4,e5,e6,e7,e8,e9] (fr::bj q::(J++ .lst refs::X))= .ok (.nx [some (.ref 1),some (.ref (np+1+1)),e2,some (.ref (J.length+1+1)),f4,f5,e6,e7,e8,e9]) (fr::bj q'::(J++ .lst refs'::X')):=by
 intro ak
 induction ak with
 | nil=>intro refs X q e4 e5 _ h;exact⟨refs,X,q,e4,e5,rfl,h,iH⟩
 | cons i ak ih =>
  intro refs X q e4 e5 hl h
  rw[List.length_cons] at hl
  let W:List PV:=[.int 1,.int 2,.int 1,.int 0,.int 2]
  obtain⟨a,q1,a0,a1,ea⟩:=bT T j fr q 5 (by decide) (by decide)
  obtain⟨m,mm,em⟩:=qr (xs:=[1,2,1,0,2]) a0 (by simpa using a1)
  have em':cZ [PV.int 1,.int 2,.int 1,.int 0,.int 2] a=some (.int m):=em
  obtain⟨ss,ec,hs⟩:=tU hp (some (2*i)) (some (2*i+m))
  have old: ∀ Y:PH,(J++Y)[np]?=some (.lst (pl.map PV.str)):=λY=>(aC (aW ep)).trans ep
  have hz:refs.length < 16777216:=by omega
  obtain⟨refs',X',q',f4,f5,h1,h2,h3⟩:=ih (refs++[.ref (J.length+1+(X.length+1)+1+1)]) (X++[.lst W,.lst (ss.map PV.str)]) q1 (some (.int i)) (some (.int m)) (by simp only[List.length_append,List.length_cons,List.length_nil];omega) (λr mr=>by
   rcases List.mem_append.mp mr with mr | mr
   . exact(h r mr).more _
   . rw[List.mem_singleton.mp mr];exact⟨X.length+1,ss,rfl,by rw[aK];rfl,hs⟩)
  refine⟨refs',X',q',f4,f5,by rw[h1];simp only[List.length_append,List.length_cons,List.length_nil];omega,h2,?_⟩
  have st:cg (gN 4) Hf (run pg (j+1)) (.int i) [some (.ref 1),some (.ref (np+1+1)),e2,some (.ref (J.length+1+1)),e4,e5,e6,e7,e8,e9] (fr::bj q::(J++ .lst refs::X))= .ok (.nx [some (.ref 1),some (.ref (np+1+1)),e2,some (.ref (J.length+1+1)),some (.int i),some (.int m),e6,e7,e8,e9]) (fr::bj q1::(J++ .lst (refs++[.ref (J.length+1+(X.length+1)+1+1)])::(X++[.lst W,.lst (ss.map PV.str)]))):=by
   have ar:J.length+(X.length+(0+1)+1)=J.length+1+(X.length+1):=by omega
   simp? [Hf,W,ea,em',old,ec,kU hz,ar]
  rw[List.map_cons,jb,st,d7,dA]
  exact h3
theorem vt(j:Nat)(fr:PO){b:Nat}{s0:List Str}(e1 e2 e3 e4 e5 e6 e7 e8 e9:Option PV) :
  ∀(xs:List Str)(ys:List PV)(J:PH)(q:Int × Int × Int),J[b]?=some (.lst (s0.map PV.str))->ys.length+xs.length<=1000-> ∃(bs:List (Str × Int))(X:PH)(q':Int × Int × Int),bs.map (·.1)=xs/\(∀ z∈bs,0<=z.2/\z.2<=999) /\
   P3.eZ ⟨some (b+1+1),s0.map PV.str⟩ (aY 1 (gN 10) aV Hh (run pg (j+1)) [some (.ref 1),e1,e2,e3,e4,e5,e6,e7,e8,e9]) (xs.map PV.str) ys (fr::bj q::J)= .ok (ys++bs.map bW) (fr::bj q'::(J++X)):=by
 have fi: ∀{J:PH}(q:Int × Int × Int),J[b]?=some (.lst (s0.map PV.str))->js.gF ⟨some (b+1+1),s0.map PV.str⟩ (fr::bj q::J)=true:=λ{J} q h=>cG (show J[b]?=_ from h);intro xs
 induction xs with
 | nil=>intro ys J q h1 _;exact⟨[],[],q,rfl,λz m=>(nomatch m),by rw[List.map_nil,P3.eZ,if_pos (fi q h1)];simp⟩
 | cons x xs ih =>
  intro ys J q h1 hl
  rw[List.length_cons] at hl
  obtain⟨a,q1,a0,a1,ea⟩:=bT T j fr q 4 (by decide) (by decide)
  obtain⟨m,mm,em⟩:=qr (xs:=[0,5,999,1]) a0 (by simpa using a1)
  have em':cZ [PV.int 0,.int 5,.int 999,.int 1] a=some (.int m):=em
  have hm:0<=m/\m<=999:=by
   simp only[List.mem_cons,List.not_mem_nil,or_false] at mm;omega
  obtain⟨bs,X,q',i1,i2,i3⟩:=ih (ys++[bW (x,m)]) (J++[.lst [.int 0,.int 5,.int 999,.int 1]]) q1 ((aC (aW h1)).trans h1) (by simp only[List.length_append,List.length_cons,List.length_nil];omega)
  refine⟨(x,m)::bs,.lst [.int 0,.int 5,.int 999,.int 1]::X,q',by rw[List.map_cons,i1],λz mz=>?_,?_⟩
  . rcases List.mem_cons.mp mz with rfl | mz
    . exact hm
    . exact i2 z mz
  have hz:ys.length < sizeLine:=Nat.lt_of_lt_of_le (show ys.length < 1001 by omega) (by decide)
  have st:aY 1 (gN 10) aV Hh (run pg (j+1)) [some (.ref 1),e1,e2,e3,e4,e5,e6,e7,e8,e9] (.str x) (fr::bj q::J)= .ok (some (bW (x,m))) (fr::bj q1::(J++[.lst [.int 0,.int 5,.int 999,.int 1]])):=by
   simp? [Hh,ea,em',bW]
  rw[List.map_cons,P3.eZ,if_pos ⟨fi q h1,hz⟩,st,cm]
  simpa using i3
end
noncomputable def jR(h:Str × List Rw):Prop:=fw h.1=true/\h.2.length<=10/\ ∃ L:List Str,L.length<=6/\(Str.ofString "p")∈L/\(∀ x∈L,fw x=true)/\ ∀ r∈h.2,dI L h.2.length r/\eg r
noncomputable def G6:ME:=(uc (aF (ag jD (ag ao (ab 3) (eC (.int 0))) (ba ae))) (ag ao (ag ao (ab 3) (eC (.int 0))) (eC (.int 0))) (eC (.str "q")))
noncomputable def Hn:MS:=(ah (aA (vQ (ba (aa (eC (.str "p")) (aa G6 (aa (eC (.str "pp")) (aa (ag ao (ab 1) (ag bq (eC (.int 8)) (ab 8))) ae))))) ip (eN (ag bq (eC (.int 1)) (ai "_law_take" (aa (ab 0) (aa (eC (.int 4)) ae)))))) (gN 9)) (cj (eM aQ bN (ab 7) (aa (av (aa (ag ao (ab 1) (ag bq (eC (.int 8)) (ab 8))) (aa (ai "_law_rows" (aa (ab 0) (aa (ab 3) (aa (ab 9) ae)))) ae))) ae))))
theorem sM(h:Str × List Rw):(aG h).flat=true:=by simp[aG,PV.flat,PV.bF,aJ,iy]
section
variable{pg:Tb}(T:dm pg)
include T
omit T in
theorem pG{nn:Nat}{s0 s1 s2 s3:List Str}{W:PH}(N:tX W nn s0 s1 s2 s3)(c:CF)(A B:PO)(a0 a1 a2 a4 a5 a6 a7 a8 a9:Option PV): ∃ x:Str,fw x=true/\G6 c [a0,a1,a2,some (.ref (nn+1+1)),a4,a5,a6,a7,a8,a9] (A::B::W)= .ok (.str x) (A::B::(W++[.lst []])):=by
 obtain⟨b0,b1,b2,b3,e,e0,_⟩:=N.at_;have o0:=N.ok.1;have i0: ∀ X:PH,ao (.ref (nn+1+1)) (.int 0) (A::B::(W++X))= .ok (.ref (b0+1+1)) (A::B::(W++X)):=λX=>by
  have z:(A::B::(W++X))[nn+1+1]?=some (.lst [.ref (b0+1+1),.ref (b1+1+1),.ref (b2+1+1),.ref (b3+1+1)]):=(aC (aW e)).trans e;rw[o8,z,tf,jP];rfl
 have i0':=i0 [];rw[List.append_nil] at i0';have z0:(A::B::(W++[.lst []]))[b0+1+1]?=some (.lst (s0.map PV.str)):=(aC (aW e0)).trans e0;have zn:(A::B::(W++[PO.lst []]))[W.length+1+1]?=some (.lst []):=by rw[List.getElem?_cons_succ,List.getElem?_cons_succ];exact cD
 have ne:=ne_nil (h:=A::B::(W++[.lst []])) (n:=b0+1+1) (m:=W.length+1+1) (ss:=s0) z0 zn (λx m=>(o0.2 x m).2);cases s0 with
 | nil =>
  refine⟨"q",by decide +kernel,?_⟩
  simp? [G6,i0',ne]
 | cons x r =>
  refine⟨x,(o0.2 x List.mem_cons_self).1,?_⟩
  have i1:ao (.ref (b0+1+1)) (.int 0) (A::B::(W++[.lst []]))= .ok (.str x) (A::B::(W++[.lst []])):=by
   rw[o8,z0,tf,List.map_cons,jP];rfl
  have i2:=i0 [.lst []]
  simp? [G6,i0',ne,i2,i1]
theorem pZ(j:Nat)(fr:PO){np nn:Nat}{pl s0 s1 s2 s3:List Str}(hp:uK pl){J:PH}(ep:J[np]?=some (.lst (pl.map PV.str)))(N:tX J nn s0 s1 s2 s3)(xs0:List PV)(e2 e4 e5 e6:Option PV) :
  ∀(ak:List Nat)(hs:List (Str × List Rw))(X:PH)(q:Int × Int × Int)(e8 e9:Option PV),(∀ i∈ak,i < 4)->hs.length+ak.length<=1000->(∀ h∈hs,jR h) ->
  ∃(hs':List (Str × List Rw))(X':PH)(q':Int × Int × Int)(f8 f9:Option PV),hs'.length=hs.length+ak.length/\(∀ h∈hs',jR h) /\
   bE ⟨none,xs0⟩ (cg (gN 8) Hn (run pg (j+6))) (ak.map λi:Nat=>PV.int (0+(i:Int))) [some (.ref 1),some (.ref (np+1+1)),e2,some (.ref (nn+1+1)),e4,e5,e6,some (.ref (J.length+1+1)),e8,e9] (fr::bj q::(J++ .lst (hs.map aG)::X))= .ok (.nx [some (.ref 1),some (.ref (np+1+1)),e2,some (.ref (nn+1+1)),e4,e5,e6,some (.ref (J.length+1+1)),f8,f9]) (fr::bj q'::(J++ .lst (hs'.map aG)::X')):=by
 intro ak
 induction ak with
 | nil=>intro hs X q e8 e9 _ _ h;exact⟨hs,X,q,e8,e9,rfl,h,iH⟩
 | cons i ak ih =>
  intro hs X q e8 e9 hi hl h
  rw[List.length_cons] at hl
  have i4:=hi i List.mem_cons_self
  have iz:(0:Int)+(i:Int)=(i:Int):=Int.zero_add _
  have pl12:=hp.1
  obtain ⟨y,hy,ey⟩:=iL (ss:=pl) (v:=8+(i:Int)) (by omega) (by omega)
  obtain ⟨x,hx,ex⟩:=pG (N.app (g:= .lst (hs.map aG)::X)) (run pg (j+6)) fr (bj q) (some (.ref 1)) (some (.ref (np+1+1))) e2 e4 e5 e6 (some (.ref (J.length+1+1))) (some (.int i)) e9
  obtain ⟨w,q1,w0,w1,ew⟩:=bT T (j+5) fr q 4 (by decide) (by decide)
  let F:List Str:=["p",x, "pp",y]
  let ps:List Str:=F.take (1+w).toNat
  have hF: ∀ z∈F,fw z=true:=λz m=>by
   simp only [F,List.mem_cons,List.not_mem_nil,or_false] at m;rcases m with rfl | rfl | rfl | rfl
   . decide +kernel
   . exact hx
   . decide +kernel
   . exact(hp.2 _ hy).1
  have cu:ef [PV.str "p",.str x,.str "pp",.str y] none (some (1+w))=ps.map PV.str:=by
   rw[P3.kL (by omega)];show _=List.map PV.str (List.take _ F);rw[List.map_take];rfl
  have pl0:0 < ps.length:=by simp only[ps,F,List.length_take,List.length_cons,List.length_nil];omega
  have pl9:ps.length<=4:=by simp only[ps,F,List.length_take,List.length_cons,List.length_nil];omega
  let Y:PH:=[.lst [],.lst [.str "p",.str x,.str "pp",.str y],.lst (ps.map PV.str)]
  let W:PH:=J++ .lst (hs.map aG)::(X++Y)
  have oldJ: ∀ Z:PH,(J++Z)[np]?=some (.lst (pl.map PV.str)):=λZ=>(aC (aW ep)).trans ep
  have epW:W[J.length+(X.length+(0+1+1)+1)]?=some (.lst (ps.map PV.str)):=by
   show (J++_)[_]?=_;rw [aK,List.getElem?_cons_succ,aK];rfl
  obtain ⟨rs,q2,r1,r2,r3⟩:=zI T j fr (L:= "p" ::ps) (ps:=ps) pl0 (by omega) (λz m=>List.mem_cons_of_mem _ m) (λz m=>hF z (List.mem_of_mem_take m)) q1 (J:=W) (N.app (g:= .lst (hs.map aG)::(X++Y))) epW
  have ho:jR (y,rs):=⟨(hp.2 _ hy).1,r1, "p" ::ps,by rw [List.length_cons];omega,List.mem_cons_self,λz m=>by
   rcases List.mem_cons.mp m with rfl | m
   . decide +kernel
   . exact hF z (List.mem_of_mem_take m),r2⟩
  obtain⟨hs',X',q',f8,f9,h1,h2,h3⟩:=ih (hs++[(y,rs)]) (X++Y) q2 (some (.int i)) (some (.ref (J.length+(X.length+(0+1+1)+1)+1+1))) (λz m=>hi z (List.mem_cons_of_mem _ m)) (by simp only[List.length_append,List.length_cons,List.length_nil];omega) (λz m=>by
   rcases List.mem_append.mp m with m | m
   . exact h z m
   . rw[List.mem_singleton.mp m];exact ho)
  refine⟨hs',X',q',f8,f9,by rw[h1];simp only[List.length_append,List.length_cons,List.length_nil];omega,h2,?_⟩
  have hz:(hs.map aG).length < 16777216:=by rw[List.length_map];omega
  have st:cg (gN 8) Hn (run pg (j+6)) (.int i) [some (.ref 1),some (.ref (np+1+1)),e2,some (.ref (nn+1+1)),e4,e5,e6,some (.ref (J.length+1+1)),e8,e9] (fr::bj q::(J++ .lst (hs.map aG)::X))= .ok (.nx [some (.ref 1),some (.ref (np+1+1)),e2,some (.ref (nn+1+1)),e4,e5,e6,some (.ref (J.length+1+1)),some (.int i),some (.ref (J.length+(X.length+(0+1+1)+1)+1+1))]) (fr::bj q2::(J++ .lst (hs.map aG++[aG (y,rs)])::(X++Y))):=by
   simp only[W,Y] at r3;simp only[List.cons_append,List.append_assoc] at ex;simp? [Hn,Y,ex,oldJ,ey,ew,cu,r3,kU hz,aG]
  rw[List.map_cons,jb,iz,st,d7,dA]
  rw[List.map_append,List.map_cons,List.map_nil] at h3
  exact h3
end
structure HV(bs:List (Str × Int))(s1 s2 s3:List Str)(hs:List (Str × List Rw))(p:PV):Prop where
 at_:p= .tup [.tup (bs.map bW),.tup (s1.map PV.str),.tup (s2.map PV.str),.tup (s3.map PV.str),.tup (hs.map aG)]
 bx:bs.length<=20/\ ∀ z∈bs,fw z.1=true/\0<=z.2/\z.2<=999
 nm:rN s1/\rN s2/\rN s3
 many:1<=hs.length/\hs.length<=4
 hd: ∀ h∈hs,jR h
theorem gh: ∀ ss:List Str,PV.bF (ss.map PV.str)=true
 | []=>rfl
 | _::r=>by rw[List.map_cons,PV.bF,gh r];rfl
theorem fg: ∀ hs:List (Str × List Rw),PV.bF (hs.map aG)=true
 | []=>rfl
 | h::r=>by rw[List.map_cons,PV.bF,sM,fg r];rfl
noncomputable def nB:MS:=(ah (aA (eB az (aa (jf 1 (iJ (ag ao (ab 3) (eC (.int 0)))) (gN 10) aV Hh) ae)) (gN 6)) (ah (aA (ba ae) (gN 7)) (ah (iG (dw (aa (ag ao (ba (aa (eC (.int 2)) (aa (eC (.int 2)) (aa (eC (.int 3)) (aa (eC (.int 4)) (aa (eC (.int 1)) (aa (eC (.int 2)) ae))))))) (ai "_law_take" (aa (ab 0) (aa (eC (.int 6)) ae)))) ae)) (gN 8) Hn) (aN (av (aa (ab 6) (aa (eB az (aa (ag ao (ab 3) (eC (.int 1))) ae)) (aa (eB az (aa (ag ao (ab 3) (eC (.int 2))) ae)) (aa (eB az (aa (ag ao (ab 3) (eC (.int 3))) ae)) (aa (eB az (aa (ab 7) ae)) ae))))))))))
section
variable{pg:Tb}(T:dm pg)
include T
theorem yd(j:Nat)(fr:PO){np nn:Nat}{pl s0 s1 s2 s3:List Str}(hp:uK pl){J:PH}(ep:J[np]?=some (.lst (pl.map PV.str)))(N:tX J nn s0 s1 s2 s3)(q:Int × Int × Int)(e2 e4 e5:Option PV) :
  ∃(bs:List (Str × Int))(hs:List (Str × List Rw))(p:PV)(q':Int × Int × Int)(X:PH),HV bs s1 s2 s3 hs p/\nB (run pg (j+6)) [some (.ref 1),some (.ref (np+1+1)),e2,some (.ref (nn+1+1)),e4,e5,none,none,none,none] (fr::bj q::J)= .ok (.rt p) (fr::bj q'::(J++X)):=by
 obtain⟨b0,b1,b2,b3,e,x0,x1,x2,x3⟩:=N.at_;obtain⟨o0,o1,o2,o3⟩:=N.ok;obtain⟨bs,X1,q1,h1,h2,h3⟩:=vt T (j+5) fr (b:=b0) (s0:=s0) (some (.ref (np+1+1))) e2 (some (.ref (nn+1+1))) e4 e5 none none none none s0 [] J q x0 (by have:=o0.1;simp;omega);rw[List.nil_append] at h3
 let J2:PH:=J++(X1++[.lst (bs.map bW)])
 obtain⟨a,q2,a0,a1,ea⟩:=bT T (j+5) fr q1 6 (by decide) (by decide);obtain⟨m,mm,em⟩:=qr (xs:=[2,2,3,4,1,2]) a0 (by simpa using a1);have em':cZ [PV.int 2,.int 2,.int 3,.int 4,.int 1,.int 2] a=some (.int m):=em;have hm:1<=m/\m<=4:=by
  simp only[List.mem_cons,List.not_mem_nil,or_false] at mm;omega
 have old: ∀{n:Nat}{o:PO}(Y:PH),J[n]?=some o->(J++Y)[n]?=some o:=λY e=>(aC (aW e)).trans e;obtain⟨hs,X2,q3,f8,f9,i1,i2,i3⟩:=pZ T j fr hp (J:=J2) (old _ ep) N.app (ax 0 m.toNat) e2 e4 e5 (some (.tup (bs.map bW))) (List.range m.toNat) [] [.lst [.int 2,.int 2,.int 3,.int 4,.int 1,.int 2]] q2 none none (λi z=>by have:=List.mem_range.mp z;omega) (by simp;omega) (λh z=>nomatch z);rw[show(List.range m.toNat).map (λi:Nat=>PV.int (0+(i:Int)))=ax 0 m.toNat from rfl] at i3;rw[List.length_range,List.length_nil,Nat.zero_add] at i1;refine⟨bs,hs,_,q3,X1++ .lst (bs.map bW):: .lst (hs.map aG)::X2,⟨rfl,⟨?_,?_⟩,⟨o1,o2,o3⟩,by omega,i2⟩,?_⟩
 . have:=congrArg List.length h1;rw[List.length_map] at this;rw[this];exact o0.1
 . intro z mz;have:=h2 z mz;exact⟨(o0.2 z.1 (by rw[<- h1];exact List.mem_map.mpr ⟨z,mz,rfl⟩)).1,this⟩
 . have w: ∀(Y:PH)(i:Int)(b:Nat),cZ [PV.ref (b0+1+1),.ref (b1+1+1),.ref (b2+1+1),.ref (b3+1+1)] i=some (.ref (b+1+1))-> ∀ A B:PO,ao (.ref (nn+1+1)) (.int i) (A::B::(J++Y))= .ok (.ref (b+1+1)) (A::B::(J++Y)):=λY i b z A B=>by
    have z2:(A::B::(J++Y))[nn+1+1]?=_:=old Y e;rw[o8,z2,tf,z];rfl
   have tu: ∀(Y:PH)(b:Nat)(ss:List Str),J[b]?=some (.lst (ss.map PV.str))-> ∀ A B:PO,az [.ref (b+1+1)] (A::B::(J++Y))= .ok (.tup (ss.map PV.str)) (A::B::(J++Y)):=λY b ss z A B=>by
    have z2:(A::B::(J++Y))[b+1+1]?=_:=old Y z;rw[mQ,z2,j5]
   have w0:=w [] 0 b0 jP;rw[List.append_nil] at w0;have l0: ∀ A B:PO,(A::B::J)[b0+1+1]?=some (.lst (s0.map PV.str)):=λA B=>x0;simp only[J2,List.map_nil,List.append_assoc,List.cons_append,List.nil_append,List.length_append,List.length_cons,List.length_nil] at i3;simp? [nB,w0,l0,x0,h3,ea,em',i3,w _ 1 b1 nZ,w _ 2 b2 tZ,w _ 3 b3 BZ,tu _ b1 s1 x1,tu _ b2 s2 x2,tu _ b3 s3 x3]
end
section
variable{pg:Tb}(T:dm pg)
include T
theorem kJ(j:Nat)(fr:PO)(q:Int × Int × Int)(g:PH) :
  ∃(bs:List (Str × Int))(s1 s2 s3:List Str)(hs:List (Str × List Rw))(p:PV)(q':Int × Int × Int),HV bs s1 s2 s3 hs p/\run pg (j+7) "_law_program" [.ref 1] (fr::bj q::g)= .ok p (fr::bj q'::g):=by
 obtain⟨t,q1,t0,t1,et⟩:=bT T (j+5) fr q 12 (by decide) (by decide);have c1:ef (jt.map PV.str) (some t) none=(jt.drop t.toNat).map PV.str:=by rw[P3.oG t0,List.map_drop]
 have c2:ef (jt.map PV.str) none (some t)=(jt.take t.toNat).map PV.str:=by rw[P3.kL t0,List.map_take]
 let pl:List Str:=jt.drop t.toNat++jt.take t.toNat
 have hp:uK pl:=by
  refine⟨?_,λx m=>?_⟩
  . have:jt.length=12:=rfl;simp only[pl,List.length_append,List.length_drop,List.length_take,this];omega
  . rcases List.mem_append.mp m with m | m
    . exact vx x (List.mem_of_mem_drop m)
    . exact vx x (List.mem_of_mem_take m)
 let J1:PH:=g++[.lst (jt.map PV.str),.lst ((jt.drop t.toNat).map PV.str),.lst ((jt.take t.toNat).map PV.str),.lst (pl.map PV.str)]
 have ep:J1[g.length+(0+1+1+1)]?=some (.lst (pl.map PV.str)):=by show(g++_)[_]?=_;rw[aK];rfl
 have lJ:J1.length=g.length+(0+1+1+1+1):=by simp[J1]
 obtain⟨refs,X,q2,f4,f5,h1,h2,h3⟩:=pI T (j+5) fr hp ep (ax 0 4) (some (.int t)) none none none none [0,1,2,3] [] [] q1 none none (by decide) (λr m=>nomatch m);obtain⟨r0,r1,r2,r3,rfl⟩: ∃ r0 r1 r2 r3,refs=[r0,r1,r2,r3]:=by
  match refs,h1 with
  | [a,b,c,d],_=>exact⟨a,b,c,d,rfl⟩
 have at_: ∀(Y:PO)(i:Nat),(J1++Y::X)[J1.length+1+i]?=X[i]?:=λY i=>by rw[Nat.add_assoc,aK,Nat.add_comm 1 i,List.getElem?_cons_succ]
 obtain⟨i0,s0,rfl,z0,n0⟩:=h2 r0 (.head _);obtain⟨i1,s1,rfl,z1,n1⟩:=h2 r1 (.tail _ (.head _));obtain⟨i2,s2,rfl,z2,n2⟩:=h2 r2 (.tail _ (.tail _ (.head _)));obtain⟨i3,s3,rfl,z3,n3⟩:=h2 r3 (.tail _ (.tail _ (.tail _ (.head _))));have N:tX (J1++ .lst [.ref (J1.length+1+i0+1+1),.ref (J1.length+1+i1+1+1),.ref (J1.length+1+i2+1+1),.ref (J1.length+1+i3+1+1)]::X) J1.length s0 s1 s2 s3 :=
  ⟨⟨_,_,_,_,cD,(at_ _ i0).trans z0,(at_ _ i1).trans z1,(at_ _ i2).trans z2,(at_ _ i3).trans z3⟩,n0,n1,n2,n3⟩
 obtain⟨bs,hs,p,q3,Z,pk,tl⟩:=yd T j fr hp ((aC (aW ep)).trans ep) N q2 (some (.int t)) f4 f5;refine⟨bs,s1,s2,s3,hs,p,q3,pk,?_⟩;have pf:p.flat=true:=by
  rw[pk.at_];simp only[PV.flat,PV.bF,dQ,gh,fg,Bool.and_self]
 have bb: ∃ A B C D F:MS,bO=ah A (ah B (ah C (ah D (ah F nB)))):=⟨_,_,_,_,_,rfl⟩
 have ad:bq (.ref (g.length+(0+1)+1+1)) (.ref (g.length+(0+1+1)+1+1)) (fr::bj q1::(g++[.lst (jt.map PV.str),.lst ((jt.drop t.toNat).map PV.str),.lst ((jt.take t.toNat).map PV.str)]))= .ok (.ref (g.length+(0+1+1+1)+1+1)) (fr::bj q1::J1):=by
  have e1:(fr::bj q1::(g++[PO.lst (jt.map PV.str),.lst ((jt.drop t.toNat).map PV.str),.lst ((jt.take t.toNat).map PV.str)]))[g.length+(0+1)+1+1]?=some (.lst ((jt.drop t.toNat).map PV.str)):=by rw[List.getElem?_cons_succ,List.getElem?_cons_succ,aK];rfl
  have e2:(fr::bj q1::(g++[PO.lst (jt.map PV.str),.lst ((jt.drop t.toNat).map PV.str),.lst ((jt.take t.toNat).map PV.str)]))[g.length+(0+1+1)+1+1]?=some (.lst ((jt.take t.toNat).map PV.str)):=by rw[List.getElem?_cons_succ,List.getElem?_cons_succ,aK];rfl
  refine(nj e1 e2 (by simp only[List.length_map,List.length_drop,List.length_take];have:jt.length=12:=rfl;omega)).trans ?_;simp[J1,pl]
 have P: ∀ h:PH,(.lst [.str "a",.str "ab",.str "putter",.str "b",.str "getx",.str "abc",.str "locked",.str "sayer",.str "c",.str "hands",.str "fetched",.str "abcdefgh"]:PO)= .lst (jt.map PV.str):=λ_=>rfl;have A:bO (run pg (j+6)) [some (.ref 1),none,none,none,none,none,none,none,none,none] (fr::bj q::g)= .ok (.rt p) (fr::bj q3::(J1++ .lst [.ref (J1.length+1+i0+1+1),.ref (J1.length+1+i1+1+1),.ref (J1.length+1+i2+1+1),.ref (J1.length+1+i3+1+1)]::X++Z)):=by
  show ah _ (ah _ (ah _ (ah _ (ah _ nB)))) _ _ _=_;refine(bY (e1:=[some (.ref 1),some (.ref (g.length+1+1)),none,none,none,none,none,none,none,none]) (h1:=fr::bj q::(g++[.lst (jt.map PV.str)])) ?_).trans ?_
  . simp? [List.map_nil];rfl
  refine(bY (e1:=[some (.ref 1),some (.ref (g.length+1+1)),some (.int t),none,none,none,none,none,none,none]) (h1:=fr::bj q1::(g++[.lst (jt.map PV.str)])) ?_).trans ?_
  . simp? [et]
  refine(bY (e1:=[some (.ref 1),some (.ref (g.length+(0+1+1+1)+1+1)),some (.int t),none,none,none,none,none,none,none]) (h1:=fr::bj q1::J1) ?_).trans ?_
  . simp? [c1,c2,ad]
  refine(bY (e1:=[some (.ref 1),some (.ref (g.length+(0+1+1+1)+1+1)),some (.int t),some (.ref (J1.length+1+1)),none,none,none,none,none,none]) (h1:=fr::bj q1::(J1++[.lst []])) ?_).trans ?_
  . simp? [List.map_nil]
  refine(bY (h1:=fr::bj q2::(J1++ .lst [.ref (J1.length+1+i0+1+1),.ref (J1.length+1+i1+1+1),.ref (J1.length+1+i2+1+1),.ref (J1.length+1+i3+1+1)]::X)) ?_).trans tl;have r4:ax 0 (4:Int).toNat=ax 0 4:=rfl;unfold Hf at h3;simp? [↓vY,↓vD,qU,d7,qW,r4];exact h3
 rw[run_eq T.kD rfl];show fin _ (bO (run pg (j+6)) [some (.ref 1),none,none,none,none,none,none,none,none,none] (fr::bj q::g))=_;rw[A,jT];show P3.settle _ _ (fr::bj q3::(g++_++_++_))=_;rw[List.append_assoc,List.append_assoc];exact cY pf
end
theorem rw_0(r:Rw)(g:PH):ao (bt r) (.int 0) g= .ok (.str r.w) g:=Af
noncomputable def bK(a:Int):Rw->Rw
 | .leap k e=> .leap (k+a) e
 | r=>r
theorem sI(a:Int)(r:Rw):(∃ k e,r= .leap k e)\/(¬ r.w= "leap" /\bK a r=r):=by
 cases r with
 | leap k e=>exact .inl ⟨k,e,rfl⟩
 | _=>exact .inr ⟨by simp only[Rw.w];decide +kernel,rfl⟩
theorem uG{L:List Str}{n a:Nat}{r:Rw}(h:dI L n r/\eg r)(n9:n<=10)(a9:a<=2):dI L (a+n) (bK a r)/\eg (bK a r):=by
 cases r with
 | leap k e =>
  obtain⟨⟨h1,h2,h3⟩,h4,h5,h6⟩:=h
  refine⟨⟨?_,?_,h3⟩,?_⟩
  . show 0<=k+(a:Int);omega
  . show k+(a:Int)<=((a+n:Nat):Int);omega
  . have hw:fw "leap" =true:=(fT _ (by decide +kernel)).1;unfold eg bt bK at *;simp only[Rw.w,Rw.ps,ju,cR,kW,kS,kY,dC,hw,Bool.and_true,Bool.true_and,Bool.and_eq_true,decide_eq_true_eq] at *;exact⟨⟨by omega,h4.2⟩,h5,h6⟩
 | _=>exact h
noncomputable def eX(h:Str × List Rw):Prop:=fw h.1=true/\h.2.length<=12/\ ∃ L:List Str,L.length<=6/\(∀ x∈L,fw x=true)/\ ∀ r∈h.2,dI L h.2.length r/\eg r
noncomputable def F3:ME:=(uc (aF (ag dh (ag ao (ab 8) (eC (.int 0))) (eC (.str "leap")))) (av (aa (eC (.str "leap")) (aa (ag bq (ag ao (ab 8) (eC (.int 1))) (eB bZ (aa (ab 6) ae))) (aa (ag ao (ab 8) (eC (.int 2))) ae)))) (ab 8))
noncomputable def Ga:MS:=(ah (aA (av (aa (eC (.str "less")) (aa (av (aa (eC (.str "of")) (aa (eC (.str "p")) ae))) (aa (av (aa (eC (.str "num")) (aa (ai "_law_take" (aa (ab 0) (aa (eC (.int 250)) ae))) ae))) ae)))) (gN 5)) (ah (aA (ba (aa (av (aa (eC (.str "let")) (aa (eC (.str "p")) (aa (av (aa (eC (.str "add")) (aa (av (aa (eC (.str "of")) (aa (eC (.str "p")) ae))) (aa (av (aa (eC (.str "num")) (aa (eC (.int 1)) ae))) ae)))) ae)))) (aa (av (aa (eC (.str "leap")) (aa (eC (.int 0)) (aa (ab 5) ae)))) ae))) (gN 6)) (ah (aA (ag ao (ba (aa (vQ (ab 6) ip (eN (eC (.int 1)))) (aa (ab 6) (aa (ba ae) ae)))) (ai "_law_take" (aa (ab 0) (aa (eC (.int 3)) ae)))) (gN 6)) (ah (aA (eB az (aa (jf 1 (iJ (ab 4)) (gN 8) aV F3) ae)) (gN 7)) (cj (eM aQ bN (ab 2) (aa (av (aa (ab 3) (aa (ag bq (eB az (aa (ab 6) ae)) (ab 7)) ae))) ae)))))))
noncomputable def pq:Rw:= .let_ "p" (.bin .add (.of "p") (.num 1))
noncomputable def rq(t:Int):Rw:= .leap 0 (.bin .less (.of "p") (.num t))
theorem uh{L:List Str}(hp:(Str.ofString "p")∈L)(n:Nat){t:Int}(t0:0<=t)(t1:t < 250): ∀ r∈[pq,rq t],dI L n r/\eg r:=by
 have pS:fw "p" =true:=by decide +kernel
 have s1:m8 (.bin .add (.of "p") (.num 1)):=⟨⟨trivial,by decide,by decide⟩,by decide,pS,trivial⟩
 have s2:m8 (.bin .less (.of "p") (.num t)):=⟨⟨trivial,t0,by omega⟩,by show max 1 1+1<=3;decide,pS,trivial⟩
 intro r m;rcases List.mem_cons.mp m with rfl | m
 . exact⟨⟨hp,s1.ok⟩,i9 rfl pS s1⟩
 . rw[List.mem_singleton.mp m];exact⟨⟨Int.le_refl _,by omega,s2.ok⟩,lV rfl (Int.le_refl _) (by decide) s2⟩
section
variable{pg:Tb}(T:dm pg)
include T
theorem qe(j:Nat)(fr:PO)(xs0:List PV)(e1:Option PV){J:PH}: ∀(hs:List (Str × List Rw))(ds:List (Str × List Rw))(X:PH)(q:Int × Int × Int)(e3 e4 e5 e6 e7:Option PV),ds.length+hs.length<=1000->(∀ h∈hs,jR h)->(∀ h∈ds,eX h) ->
  ∃(ds':List (Str × List Rw))(X':PH)(q':Int × Int × Int)(f3 f4 f5 f6 f7:Option PV),ds'.length=ds.length+hs.length/\(∀ h∈ds',eX h) /\
   bE ⟨none,xs0⟩ (cg (gT 2 (aZ (gN 3) (aZ (gN 4) eL))) Ga (run pg (j+1))) (hs.map aG) [some (.ref 1),e1,some (.ref (J.length+1+1)),e3,e4,e5,e6,e7] (fr::bj q::(J++ .lst (ds.map aG)::X))= .ok (.nx [some (.ref 1),e1,some (.ref (J.length+1+1)),f3,f4,f5,f6,f7]) (fr::bj q'::(J++ .lst (ds'.map aG)::X')):=by
 intro hs
 induction hs with
 | nil=>intro ds X q e3 e4 e5 e6 e7 _ _ h;exact⟨ds,X,q,e3,e4,e5,e6,e7,rfl,h,iH⟩
 | cons hd hs ih =>
  intro ds X q e3 e4 e5 e6 e7 hl hH hD
  rw[List.length_cons] at hl
  obtain⟨nm,rs⟩:=hd
  obtain⟨hN,hR,L,l1,l2,l3,l4⟩:=hH (nm,rs) List.mem_cons_self
  have hR':rs.length<=10:=hR
  obtain⟨t,q1,t0,t1,et⟩:=bT T j fr q 250 (by decide) (by decide)
  obtain⟨w,q2,w0,w1,ew⟩:=bT T j fr q1 3 (by decide) (by decide)
  have aok:=uh l2
  let A:PO:= .lst ([pq,rq t].map bt)
  let Y:PH:=[A,.lst ([pq].map bt),.lst [],.lst [.ref (J.length+(X.length+(0+1)+1)+1+1),.ref (J.length+(X.length+1)+1+1),.ref (J.length+(X.length+(0+1+1)+1)+1+1)]]
  obtain⟨al,n6,a2,a3,a4,a5⟩: ∃(al:List Rw)(n6:Nat),al.length<=2/\(∀ n,∀ r∈al,dI L n r/\eg r)/\(J++ .lst (ds.map aG)::(X++Y))[n6]?=some (.lst (al.map bt))/\cZ [PV.ref (J.length+(X.length+(0+1)+1)+1+1),.ref (J.length+(X.length+1)+1+1),.ref (J.length+(X.length+(0+1+1)+1)+1+1)] w=some (.ref (n6+1+1)):=by
   have at_: ∀ i:Nat,(J++ .lst (ds.map aG)::(X++Y))[J.length+(X.length+i+1)]?=Y[i]?:=λi=>by rw[aK,List.getElem?_cons_succ,aK]
   rcases(show w=0\/w=1\/w=2 by omega) with rfl | rfl | rfl
   . exact⟨[pq],_,by decide,λn r m=>aok n t0 t1 r (by rw[List.mem_singleton.mp m];exact .head _),(at_ (0+1)).trans rfl,jP⟩
   . exact⟨[pq,rq t],_,by simp,λn=>aok n t0 t1,(at_ 0).trans rfl,nZ⟩
   . exact⟨[],_,by decide,(λn r m=>nomatch m),(at_ (0+1+1)).trans rfl,tZ⟩
  let rs':List Rw:=al++rs.map (bK al.length)
  have ho:eX (nm,rs'):=⟨hN,by show(al++rs.map _).length<=12;rw[List.length_append,List.length_map];omega,L,l1,l3,λr m=>by
   show dI L (al++rs.map _).length r/\_;rw[List.length_append,List.length_map];rcases List.mem_append.mp m with m | m
   . exact a3 _ r m
   . obtain⟨r0,m0,rfl⟩:=List.mem_map.mp m;exact uG (l4 r0 m0) hR' a2⟩
  have old6: ∀ Z:PH,(J++ .lst (ds.map aG)::(X++Y++Z))[n6]?=some (.lst (al.map bt)):=λZ=>by
   have:=(aC (g:=Z) (aW a4)).trans a4
   rwa[List.append_assoc,List.cons_append] at this
  let H1:PH:=fr::bj q2::(J++ .lst (ds.map aG)::(X++Y))
  have lc: ∀ e7:Option PV,eZ ⟨none,rs.map bt⟩ (aY 1 (gN 8) aV F3 (run pg (j+1)) [some (.ref 1),e1,some (.ref (J.length+1+1)),some (.str nm),some (aJ rs),some (cW (.bin .less (.of "p") (.num t))),some (.ref (n6+1+1)),e7]) (rs.map bt) [] H1= .ok ((rs.map (bK al.length)).map bt) H1:=λe7=>by
   have ln:bZ [.ref (n6+1+1)] H1= .ok (.int al.length) H1:=by rw[FK (h:=H1) (n:=n6+1+1) (xs:=al.map bt) a4,List.length_map]
   have fm:rs.filterMap (λr=>some (bt (bK al.length r)))=(rs.map (bK al.length)).map bt:=by rw[List.filterMap_eq_map',List.map_map];rfl
   refine(dY rfl rs [] (f:=λr=>some (bt (bK al.length r))) (g:=bt) (λr m=>?_) (by simp;omega)).trans (by rw[List.nil_append,fm]);rcases sI al.length r with⟨k,e,rfl⟩ | ⟨z,zr⟩
   . have kk:bt (bK al.length (.leap k e))= .tup [.str "leap",.int (k+al.length),cW e]:=rfl;rw[kk];generalize H1=H at ln;simp? [F3,bt,Rw.w,Rw.ps,ln]
   . rw[zr];have r0:=λg=>rw_0 r g;generalize H1=H;simp? [F3,r0,z]
  obtain⟨ds',X',q',f3,f4,f5,f6,f7,i1,i2,i3⟩:=ih (ds++[(nm,rs')]) (X++Y++[.lst ((rs.map (bK al.length)).map bt)]) q2 (some (.str nm)) (some (aJ rs)) (some (cW (.bin .less (.of "p") (.num t)))) (some (.ref (n6+1+1))) (some (.tup ((rs.map (bK al.length)).map bt))) (by simp only[List.length_append,List.length_cons,List.length_nil];omega) (λz m=>hH z (List.mem_cons_of_mem _ m)) (λz m=>by
   rcases List.mem_append.mp m with m | m
   . exact hD z m
   . rw[List.mem_singleton.mp m];exact ho)
  refine⟨ds',X',q',f3,f4,f5,f6,f7,by rw[i1];simp only[List.length_append,List.length_cons,List.length_nil];omega,i2,?_⟩
  have hz:(ds.map aG).length < 16777216:=by rw[List.length_map];omega
  have c1:ef [bt pq,bt (rq t)] none (some 1)=[bt pq]:=by rw[P3.kL (by decide)];rfl
  have st:cg (gT 2 (aZ (gN 3) (aZ (gN 4) eL))) Ga (run pg (j+1)) (aG (nm,rs)) [some (.ref 1),e1,some (.ref (J.length+1+1)),e3,e4,e5,e6,e7] (fr::bj q::(J++ .lst (ds.map aG)::X))= .ok (.nx [some (.ref 1),e1,some (.ref (J.length+1+1)),some (.str nm),some (aJ rs),some (cW (.bin .less (.of "p") (.num t))),some (.ref (n6+1+1)),some (.tup ((rs.map (bK al.length)).map bt))]) (fr::bj q2::(J++ .lst (ds.map aG++[aG (nm,rs')])::(X++Y++[.lst ((rs.map (bK al.length)).map bt)]))):=by
   rw[om];show(RV.bind (gT 2 (aZ (gN 3) (aZ (gN 4) eL)) (.tup [.str nm,aJ rs]) [some (.ref 1),e1,some (.ref (J.length+1+1)),e3,e4,e5,e6,e7] _) _)=_;rw[vv,ql,wA,d7,ql,wA,d7,vd,d7];show Ga (run pg (j+1)) [some (.ref 1),e1,some (.ref (J.length+1+1)),some (.str nm),some (aJ rs),e5,e6,e7] (fr::bj q::(J++ .lst (ds.map aG)::X))=_;unfold Ga;refine(bY (e1:=[some (.ref 1),e1,some (.ref (J.length+1+1)),some (.str nm),some (aJ rs),some (cW (.bin .less (.of "p") (.num t))),e6,e7]) (h1:=(fr::bj q1::(J++ .lst (ds.map aG)::X))) ?_).trans ?_
   . simp? [et];rfl
   refine(bY (e1:=[some (.ref 1),e1,some (.ref (J.length+1+1)),some (.str nm),some (aJ rs),some (cW (.bin .less (.of "p") (.num t))),some (.ref (J.length+(X.length+1)+1+1)),e7]) (h1:=(fr::bj q1::(J++ .lst (ds.map aG)::(X++[A])))) ?_).trans ?_
   . simp? [List.map_nil];rfl
   refine(bY (e1:=[some (.ref 1),e1,some (.ref (J.length+1+1)),some (.str nm),some (aJ rs),some (cW (.bin .less (.of "p") (.num t))),some (.ref (n6+1+1)),e7]) (h1:=(fr::bj q2::(J++ .lst (ds.map aG)::(X++Y)))) ?_).trans ?_
   . simp? [A,Y,c1,ew,a5]
   refine(bY (e1:=[some (.ref 1),e1,some (.ref (J.length+1+1)),some (.str nm),some (aJ rs),some (cW (.bin .less (.of "p") (.num t))),some (.ref (n6+1+1)),some (.tup ((rs.map (bK al.length)).map bt))]) (h1:=(fr::bj q2::(J++ .lst (ds.map aG)::(X++Y++[.lst ((rs.map (bK al.length)).map bt)])))) ?_).trans ?_
   . have i4: ∀ h,nc (aJ rs) h= .ok ⟨none,rs.map bt⟩ h:=λh=>rfl;have lc':=lc e7;simp only[H1] at lc';simp? [i4,lc']
   . have o6:=old6 [.lst ((rs.map (bK al.length)).map bt)];rw[List.append_assoc] at o6;have ad: ∀ h,bq (.tup (al.map bt)) (.tup ((rs.map (bK al.length)).map bt)) h= .ok (aJ rs') h:=λh=>by
      rw[jL (by simp only[List.length_map];omega)];rw[<- List.map_append];rfl
     have hv:aG (nm,rs')= .tup [.str nm,aJ rs']:=rfl;rw[hv];simp? [o6,ad,kU hz]
  rw[List.map_cons,jb,st,d7,dA]
  rw[List.map_append,List.map_cons,List.map_nil] at i3
  exact i3
end
structure xh(bs:List (Str × Int))(s1 s2 s3:List Str)(hs:List (Str × List Rw))(p:PV):Prop where
 at_:p= .tup [.tup (bs.map bW),.tup (s1.map PV.str),.tup (s2.map PV.str),.tup (s3.map PV.str),.tup (hs.map aG)]
 bx:bs.length<=20/\ ∀ z∈bs,fw z.1=true/\0<=z.2/\z.2<=999
 nm:rN s1/\rN s2/\rN s3
 many:1<=hs.length/\hs.length<=4
 hd: ∀ h∈hs,eX h
theorem xh.flat{bs:List (Str × Int)}{s1 s2 s3:List Str}{hs:List (Str × List Rw)}{p:PV}(h:xh bs s1 s2 s3 hs p):p.flat=true:=by
 rw[h.at_];simp only[PV.flat,PV.bF,dQ,gh,fg,Bool.and_self]
section
variable{pg:Tb}(T:dm pg)
include T
theorem lF(j:Nat)(fr:PO){bs:List (Str × Int)}{s1 s2 s3:List Str}{hs:List (Str × List Rw)}{p:PV}(P:HV bs s1 s2 s3 hs p)(q:Int × Int × Int)(g:PH): ∃(ds:List (Str × List Rw))(p':PV)(q':Int × Int × Int),xh bs s1 s2 s3 ds p'/\run pg (j+2) "_law_own_first" [.ref 1,p] (fr::bj q::g)= .ok p' (fr::bj q'::g):=by
 obtain⟨ds,X,q',f3,f4,f5,f6,f7,h1,h2,h3⟩:=qe T j fr (hs.map aG) (some p) (J:=g) hs [] [] q none none none none none (by have:=P.many;simp;omega) P.hd (λh m=>nomatch m);have many:1<=ds.length/\ds.length<=4:=by have:=P.many;simp at h1;omega
 refine⟨ds,_,q',⟨rfl,P.bx,P.nm,many,h2⟩,?_⟩;have hp:=P.at_;subst hp;have c4: ∀ a b c d e:PV,ef [a,b,c,d,e] none (some 4)=[a,b,c,d]:=λa b c d e=>by rw[P3.kL (by decide)];rfl
 have ad: ∀(a b c d e:PV) h,bq (.tup [a,b,c,d]) (.tup [e]) h= .ok (.tup [a,b,c,d,e]) h:=λa b c d e h=>jL (by simp);unfold Ga F3 at h3;rw[List.map_nil] at h3;rw[run_eq T.iE rfl];simp? [bD,cT,h3,c4,ad];exact cY (v:= .tup [.tup (bs.map bW),.tup (s1.map PV.str),.tup (s2.map PV.str),.tup (s3.map PV.str),.tup (ds.map aG)]) (by simp only[PV.flat,PV.bF,dQ,gh,fg,Bool.and_self])
end
noncomputable def k4 (a b:Int):List (Key × PV):=[(.inr "add",.int (a+b)),(.inr "sub",.int (a - b)),(.inr "mul",.int (a*b))]
theorem sA (a b:Int):bG [] (k4 a b)=k4 a b:=by simp [k4,bG,eF,bI]
theorem nN (a:Str) (h:PH):nK (.str a) (.tup [.str "less",.str "same"]) h= .ok (.bl (decide (a∈(["less", "same"]:List Str)))) h:=tq (ss:=["less", "same"])
theorem Cy (o:Bo) (a b:Int):(o= .less∨o= .same)∨(¬ o.w∈(["less", "same"]:List Str)∧ ∃ n:Int,bR (k4 a b) (.inr o.w)=some (.int n)∧n % 1000=o.f a b):=by
 cases o with
 | less=>exact .inl (.inl rfl)
 | same=>exact .inl (.inr rfl)
 | add=>exact .inr ⟨by simp only[Bo.w];decide +kernel,_,by simp[k4,bR,Bo.w,bI],rfl⟩
 | sub=>exact .inr ⟨by simp only[Bo.w];decide +kernel,_,by simp[k4,bR,Bo.w,bI],rfl⟩
 | mul=>exact .inr ⟨by simp only[Bo.w];decide +kernel,_,by simp[k4,bR,Bo.w,bI],rfl⟩
section
variable{pg:Tb}(T:dm pg)
include T
theorem rK{D:Pk}{n:Nat}(hf: ∀ x,0<=fP D x/\fP D x<=999): ∀(e:Sm)(k:Nat)(h:PH),h[n]?=some (.dct (de D))->e.ok->e.dp<=k->run pg (k+1) "_law_worth" [cW e,.ref n] h= .ok (.int (e.val (fP D))) h
 | .num i,k,h,hn,_,_=>by
  rw[run_eq T.du rfl];simp? [aH,aR,cW,Sm.val]
 | .of x,k,h,hn,_,_=>by
  have g:=pN D x;rw[run_eq T.du rfl];simp? [aH,aR,cW,Sm.val,hn,g]
 | .un a,0,h,hn,_,hd=>by unfold Sm.dp at hd;omega
 | .un a,k+1,h,hn,ok,hd=>by
  have i1:=rK hf a k h hn ok (by unfold Sm.dp at hd;omega);have sm:cW (.un a)= .tup [.str "not",cW a]:=rfl;rw[run_eq T.du rfl,sm,Sm.val];by_cases z:a.val (fP D)=0
  . simp? [aH,aR,i1,z]
  . simp? [aH,aR,i1,z]
 | .bin o a b,0,h,hn,_,hd=>by unfold Sm.dp at hd;omega
 | .bin o a b,k+1,h,hn,ok,hd=>by
  have i1:=rK hf a k h hn ok.1 (by unfold Sm.dp at hd;omega);have i2:=rK hf b k h hn ok.2 (by unfold Sm.dp at hd;omega);have sm:cW (.bin o a b)= .tup [.str o.w,cW a,cW b]:=rfl;have n1: ¬ o.w= "num" /\ ¬ o.w= "of" /\ ¬ o.w= "not" :=by cases o<;>(simp only[Bo.w];decide +kernel)
  have va:=Sm.mn hf a ok.1;rw[run_eq T.du rfl,sm,Sm.val];generalize a.val (fP D)=x at i1 va;generalize b.val (fP D)=y at i2;rcases Cy o x y with (rfl | rfl) | ⟨z,n,z1,z2⟩
  . have m1:(Str.ofString "less")∈(["less", "same"]:List Str):=by decide +kernel
    by_cases c:x < y
    . simp? [aH,aR,Bo.w,Bo.f,i1,i2,nN,m1,c]
    . simp? [aH,aR,Bo.w,Bo.f,i1,i2,nN,m1,c]
  . have m1:(Str.ofString "same")∈(["less", "same"]:List Str):=by decide +kernel
    by_cases c:x=y
    . simp? [aH,aR,Bo.w,Bo.f,i1,i2,nN,m1,c]
    . simp? [aH,aR,Bo.w,Bo.f,i1,i2,nN,m1,c]
  . have dk:Er h.length [((.inr "add" :Key),PV.int (x+y)),(.inr "sub",.int (x - y)),(.inr "mul",.int (x*y))] (h++[.dct []])= .ok (.ref h.length) (h++[.dct (k4 x y)]):=by
     have:=rl (h:=h) (kvs:=k4 x y) (by simp[k4]);rw[sA] at this;exact this
    rw[<- z2];simp? [aH,aR,n1.1,n1.2.1,n1.2.2,i1,i2,nN,z,hI,jQ,gS,j9,jS,kQ,dk,z1];exact cL rfl
theorem AR (k:Nat) (h:PH) (r:Rw) {n:Nat} (e:h[n]?=some (.lst [])):run pg (k+1) "_law_is_own" [bt r,.ref n] h= .ok (.bl (own [] r)) h:=by
 have r0:=λg=>rw_0 r g;have il: ∀ a:Str,nK (.str a) (.tup [.str "let",.str "leap"]) h= .ok (.bl (decide (a∈(["let", "leap"]:List Str)))) h:=λa=>tq (ss:=["let", "leap"]);have ie: ∀ x:Str,nK (.str x) (.ref n) h= .ok (.bl false) h:=λx=>by unfold nK isIn;simp [itemsOf,bV,e,dZ]
 rw [run_eq T.la rfl];cases r with
 | take l=>simp? [bu,b7,bt,Rw.w,Rw.ps,ie,own,List.not_mem_nil]
 | free l=>simp? [bu,b7,bt,Rw.w,Rw.ps,ie,own,List.not_mem_nil]
 | _=>simp? [bu,b7,r0,bt,Rw.w,Rw.ps,il,own,List.mem_cons,List.not_mem_nil,or_false,or_true,true_or,false_or]
end
noncomputable def rT:MT:=(qz (aF (ag yf (ab 1) (eB bZ (aa (ab 0) ae)))) (aF (ai "_law_is_own" (aa (ag ao (ab 0) (ab 1)) (aa (ab 3) ae)))))
noncomputable def rA:MS:=(ah (dU (aF (ag dh (ag ao (ab 5) (eC (.int 0))) (eC (.str "let")))) (l8 kr (ab 2) (ag ao (ab 5) (eC (.int 1))) (ai "_law_worth" (aa (ag ao (ab 5) (eC (.int 2))) (aa (ab 2) ae)))) eA) (dU (qz (aF (ag dh (ag ao (ab 5) (eC (.int 0))) (eC (.str "leap")))) (aF (ag jD (ai "_law_worth" (aa (ag ao (ab 5) (eC (.int 2))) (aa (ab 2) ae))) (eC (.int 0))))) (aA (ag ao (ab 5) (eC (.int 1))) (gN 1)) eA))
noncomputable def rB:MS:=(ah (dU (aF (ag dh (ab 4) (eC (.int 200)))) (aN (eB bZ (aa (ab 0) ae))) eA) (ah (aA (ag ao (ab 0) (ab 1)) (gN 5)) (ah (aA (ag bq (ab 4) (eC (.int 1))) (gN 4)) (ah (aA (ag bq (ab 1) (eC (.int 1))) (gN 1)) rA))))
section
variable{pg:Tb}(T:dm pg)
include T
theorem FQ(k:Nat)(h g:PH){L:List Str}(hL:L.length<=20){rs:List Rw}{t:c9}{r:Rw}{D:Pk}(e:rs[t.row]?=some r)(ho:own t.held r=true)(hr:dI L rs.length r)(hD:tR L D)(hf: ∀ x,fP D x=fP t.ps x)(nd:(t.ps.map (·.1)).Nodup)(u3 u4:Option PV) :
  ∃ D':Pk,tR L D'/\(∀ x,fP D' x=fP (behind t r).ps x)/\rA (run pg (k+9)) [some (aJ rs),some (.int ((t.row:Int)+1)),some (.ref h.length),u3,u4,some (bt r)] (h++ .dct (de D)::g)= .ok (.nx [some (aJ rs),some (.int (behind t r).row),some (.ref h.length),u3,u4,some (bt r)]) (h++ .dct (de D')::g):=by
 have ff:fP D=fP t.ps:=funext hf;have w: ∀ e0:Sm,nt e0->run pg (k+9) "_law_worth" [cW e0,.ref h.length] (h++ .dct (de D)::g)= .ok (.int (e0.val (fP t.ps))) (h++ .dct (de D)::g):=λe0 he=>by
  rw[<- ff];exact rK T hD.xl e0 (k+8) _ cD he.1 (by have:=he.2;omega)
 have hl9:(de D).length < 16777216:=by unfold de;rw[List.length_map];have:=hD.len;omega
 have r0:=λg=>rw_0 r g;have up:(t.row:Int)+1=((t.row+1:Nat):Int):=by omega
 cases r with
 | let_ x e0 =>
  have hv:=Sm.mn (f:=fP t.ps) (by rw[<- ff];exact hD.xl) e0 hr.2.1
  refine⟨putD D x (e0.val (fP t.ps)),zt hD hr.1 hv.1 hv.2,λy=>by rw[yZ,behind,C1 nd,hf],?_⟩
  simp? [rA,bt,Rw.w,Rw.ps,w e0 hr.2,qP hl9,yG,behind,up]
 | leap j e0 =>
  refine⟨D,hD,λy=>?_,?_⟩
  . rw[hf];show _=fP (if e0.val (fP t.ps)=0 then(⟨t.row+1,t.ps,t.held⟩:c9) else⟨j.toNat,t.ps,t.held⟩).ps y;split<;>rfl
  . by_cases z:e0.val (fP t.ps)=0
    . simp? [rA,bt,Rw.w,Rw.ps,w e0 hr.2.2,behind,z,up]
    . have jj:((j.toNat:Nat):Int)=j:=by have:=hr.1;omega
      simp? [rA,bt,Rw.w,Rw.ps,w e0 hr.2.2,behind,z,jj]
 | take l=>exact⟨D,hD,hf,by simp? [rA,bt,Rw.w,Rw.ps,behind,up]⟩
 | free l=>exact⟨D,hD,hf,by simp? [rA,bt,Rw.w,Rw.ps,behind,up]⟩
 | _=>exact nomatch ho
theorem sZ(k:Nat)(h g:PH){L:List Str}(hL:L.length<=20){rs:List Rw}(hr: ∀ r∈rs,dI L rs.length r): ∀(m i:Nat)(t:c9)(D:Pk)(u5:Option PV)(f:Nat),i+m=200->m+2<=f->er L rs t->t.held=[]->tR L D->(∀ x,fP D x=fP t.ps x) ->
  ∃(D':Pk)(fl:Fl),tR L D'/\(∀ x,fP D' x=fP (br rs m t).ps x)/\(fl= .rt (.int (br rs m t).row)\/ ∃ u2 u3 u4 u5,fl= .nx [some (aJ rs),some (.int (br rs m t).row),u2,u3,u4,u5]) /\
  cn (rT (run pg (k+9))) (rB (run pg (k+9))) f [some (aJ rs),some (.int t.row),some (.ref h.length),some (.ref (h.length+1)),some (.int i),u5] (h++ .dct (de D):: .lst []::g)= .ok fl (h++ .dct (de D'):: .lst []::g):=by
 have ln: ∀ h,bZ [aJ rs] h= .ok (.int rs.length) h:=λh=>by unfold aJ;rw[len_T,List.length_map]
 have stop: ∀(i:Nat)(t:c9)(D:Pk)(u5:Option PV)(f:Nat),er L rs t->t.held=[]->bz rs t=true->cn (rT (run pg (k+9))) (rB (run pg (k+9))) (f+1) [some (aJ rs),some (.int t.row),some (.ref h.length),some (.ref (h.length+1)),some (.int i),u5] (h++ .dct (de D):: .lst []::g)= .ok (.nx [some (aJ rs),some (.int t.row),some (.ref h.length),some (.ref (h.length+1)),some (.int i),u5]) (h++ .dct (de D):: .lst []::g):=λi t D u5 f hs hh r1=>by
  refine za ?_;cases e:rs[t.row]? with
  | none =>
   have z: ¬ (t.row:Int) < (rs.length:Int):=by have:=List.getElem?_eq_none_iff.mp e;omega
   simp? [rT,ln,z]
  | some r =>
   have lt:=(List.getElem?_eq_some_iff.mp e).1
   have z:(t.row:Int) < (rs.length:Int):=by omega
   have ix: ∀ h,ao (aJ rs) (.int t.row) h= .ok (bt r) h:=λh=>tF (fR e)
   have ow:=AR T (k+8) (h++ .dct (de D):: .lst []::g) r (n:=h.length+1) (by rw[aK];rfl)
   have on:own [] r=false:=by unfold bz at r1;rw[e,hh] at r1;simpa using r1
   rw[on] at ow
   simp? [rT,ln,z,ix,ow]
 have go: ∀(i:Nat)(t:c9)(D:Pk)(u5:Option PV)(r:Rw),rs[t.row]?=some r->own t.held r=true->t.held=[]->rT (run pg (k+9)) [some (aJ rs),some (.int t.row),some (.ref h.length),some (.ref (h.length+1)),some (.int i),u5] (h++ .dct (de D):: .lst []::g)= .ok true (h++ .dct (de D):: .lst []::g):=λi t D u5 r e ho hh=>by
  have lt:=(List.getElem?_eq_some_iff.mp e).1;have z:(t.row:Int) < (rs.length:Int):=by omega
  have ix: ∀ h,ao (aJ rs) (.int t.row) h= .ok (bt r) h:=λh=>tF (fR e);have ow:=AR T (k+8) (h++ .dct (de D):: .lst []::g) r (n:=h.length+1) (by rw[aK];rfl);rw[hh] at ho;rw[ho] at ow;simp? [rT,ln,z,ix,ow]
 intro m
 induction m with
 | zero =>
  intro i t D u5 f hi hf hs hh hD hp
  obtain⟨f,rfl⟩: ∃ j,f=j+1:=⟨f - 1,by omega⟩
  cases r1:bz rs t with
  | true =>
   have fr:br rs 0 t=t:=by unfold br;rw[if_pos r1]
   exact⟨D,_,hD,by rw[fr];exact hp,.inr ⟨_,_,_,_,by rw[fr]⟩,stop i t D u5 f hs hh r1⟩
  | false =>
   obtain⟨r,e,ho⟩:=j0 r1
   have fr:br rs 0 t=⟨rs.length,t.ps,t.held⟩:=by unfold br;rw[if_neg (by simp[r1])]
   have i200:(i:Int)=200:=by omega
   refine⟨D,.rt (.int rs.length),hD,by rw[fr];exact hp,.inl (by rw[fr]),?_⟩
   rw[cn,go i t D u5 r e ho hh,cm,if_pos rfl]
   have st:rB (run pg (k+9)) [some (aJ rs),some (.int t.row),some (.ref h.length),some (.ref (h.length+1)),some (.int i),u5] (h++ .dct (de D):: .lst []::g)= .ok (.rt (.int rs.length)) (h++ .dct (de D):: .lst []::g):=by
    simp? [rB,i200,ln]
   rw[st,cm]
 | succ m ih =>
  intro i t D u5 f hi hf hs hh hD hp
  obtain⟨f,rfl⟩: ∃ j,f=j+1:=⟨f - 1,by omega⟩
  cases r1:bz rs t with
  | true =>
   have fr:br rs (m+1) t=t:=by unfold br;rw[if_pos r1]
   exact⟨D,_,hD,by rw[fr];exact hp,.inr ⟨_,_,_,_,by rw[fr]⟩,stop i t D u5 f hs hh r1⟩
  | false =>
   obtain⟨r,e,ho⟩:=j0 r1
   have hrr:=hr r (List.mem_of_getElem? e)
   have fr:br rs (m+1) t=br rs m (behind t r):=by
    rw[br,if_neg (by simp[r1]),e]
   obtain⟨D1,a1,a2,a3⟩:=FQ T k h (.lst []::g) hL e ho hrr hD hp hs.pk.nd (some (.ref (h.length+1))) (some (.int ((i+1:Nat):Int)))
   obtain⟨D',fl,b1,b2,b3,b4⟩:=ih (i+1) (behind t r) D1 (some (bt r)) f (by omega) (by omega) (fY hs hrr e) (by rw[jw,hh]) a1 a2
   refine⟨D',fl,b1,by rw[fr];exact b2,by rw[fr];exact b3,?_⟩
   have i200: ¬ (i:Int)=200:=by omega
   have ix: ∀ h,ao (aJ rs) (.int t.row) h= .ok (bt r) h:=λh=>tF (fR e)
   have up:(i:Int)+1=((i+1:Nat):Int):=by omega
   rw[F2 (go i t D u5 r e ho hh) (e1:=[some (aJ rs),some (.int (behind t r).row),some (.ref h.length),some (.ref (h.length+1)),some (.int ((i+1:Nat):Int)),some (bt r)]) (h2:=h++ .dct (de D1):: .lst []::g) ?_]
   . exact b4
   . simp? [rB,i200,ix,up,a3]
theorem zY(k:Nat)(h g:PH){L:List Str}(hL:L.length<=20){rs:List Rw}(hr: ∀ r∈rs,dI L rs.length r): ∃ D:Pk,tR L D/\(∀ x,fP D x=fP (br rs 200 ⟨0,[],[]⟩).ps x) /\
  run pg (k+10) "_law_rest" [aJ rs,.int 0,.ref h.length,.ref (h.length+1)] (h++ .dct []:: .lst []::g)= .ok (.int (br rs 200 ⟨0,[],[]⟩).row) (h++ .dct (de D):: .lst []::g):=by
 obtain⟨D,fl,a1,a2,a3,a4⟩:=sZ T k h g hL hr 200 0 ⟨0,[],[]⟩ [] none 100000 (by decide) (by decide) ⟨.nil,Nat.zero_le _⟩ rfl ⟨.nil,λq m=>nomatch m⟩ (λx=>rfl);refine⟨D,a1,a2,?_⟩;rw[run_eq T.oQ rfl];have a4':cn (rT (run pg (k+9))) (rB (run pg (k+9))) 100000 [some (aJ rs),some (.int 0),some (.ref h.length),some (.ref (h.length+1)),some (.int 0),none] (h++ .dct []:: .lst []::g)= .ok fl (h++ .dct (de D):: .lst []::g):=a4;unfold rT rB rA at a4';have se: ∀ v:PV,P3.settle (h++ .dct []:: .lst []::g) v (h++ .dct (de D):: .lst []::g)= .ok v (h++ .dct (de D):: .lst []::g):=λv=>by
  have:=jk (h:=h++ .dct []:: .lst []::g) (v:=v) (i:=h.length) (o:= .dct []) (o':= .dct (de D))
  rwa[gf,List.set_cons_zero] at this
 rcases a3 with rfl | ⟨u2,u3,u4,u5,rfl⟩
 . simp? [cv,d4,AV,a4',se]
 . simp? [cv,d4,AV,a4',se]
end
noncomputable def aO(x:Str × List Rw):c9:=br x.2 200 ⟨0,[],[]⟩
noncomputable def xi(bs:List (Str × Int))(s1 s2 s3:List Str)(hs:List (Str × List Rw)):PV:= .tup [.tup (hs.map λ_=>PV.int 0),.tup (hs.map λx=>bf (aO x)),.tup (bs.map λb=>PV.tup [.int b.2,.non]),.tup (s1.map λ_=>PV.tup [.non,.non]),.tup (s2.map λ_=>PV.tup [.int 0,.int 0,.tup []]),.tup (s3.map λ_=>PV.int 0)]
theorem lI{α :Type}(hs:List α)(f: α ->PV)(d:PV):(List.range hs.length).filterMap (λi=>some ((hs[i]?.map f).getD d))=hs.map f:=by
 rw[List.filterMap_eq_map'];refine List.ext_getElem (by simp) λi h1 h2=>?_;simp at h1 h2 ⊢;rw[List.getElem?_eq_getElem (by omega)];rfl
theorem xh.hand{bs:List (Str × Int)}{s1 s2 s3:List Str}{hs:List (Str × List Rw)}{p:PV}(P:xh bs s1 s2 s3 hs p){i:Nat}{x:Str × List Rw}(e:hs[i]?=some x):mE p (i:Int) x.2:=by
 rw[P.at_];exact⟨_,_,_,_,_,_,rfl,P3.fZ rfl (by rw[List.getElem?_map,e];rfl)⟩
theorem dO{α :Type}(f: α ->PV)(hf: ∀ x,(f x).flat=true): ∀ l:List α,PV.bF (l.map f)=true
 | []=>rfl
 | x::r=>by rw[List.map_cons,PV.bF,hf,dO f hf r];rfl
theorem ot(bs:List (Str × Int))(s1 s2 s3:List Str)(hs:List (Str × List Rw)):(xi bs s1 s2 s3 hs).flat=true:=by
 unfold xi;simp only[PV.flat,PV.bF,Bool.and_true,Bool.and_eq_true];exact⟨dO _ (λ_=>rfl) _,dO _ (λx=>qh _) _,dO _ (λ_=>rfl) _,dO _ (λ_=>rfl) _,dO _ (λ_=>rfl) _,dO _ (λ_=>rfl) _⟩
section
variable{pg:Tb}(T:dm pg)
include T
theorem fL(k:Nat)(h:PH){bs:List (Str × Int)}{s1 s2 s3:List Str}{hs:List (Str × List Rw)}{p:PV}(P:xh bs s1 s2 s3 hs p):run pg (k+12) "first_stand" [p] h= .ok (xi bs s1 s2 s3 hs) h:=by
 have hm:=P.many;have pa:=P.at_;have ho:run pg (k+11) "hands_of" [p] h= .ok (.ref h.length) (h++[.lst (ax 0 hs.length)]):=by
  rw[run_eq T.pA rfl,pa];have tn:Int.toNat ((hs.length:Nat):Int)=hs.length:=Int.toNat_natCast _;simp? [dJ,gH,Ge,C6,List.length_map,tn];exact eR rfl
 have lc: ∀(H:PH)(e:ME)(f:Nat->PV),H[h.length]?=some (.lst (ax 0 hs.length))->(∀ i < hs.length,e (run pg (k+11)) [some p,some (.ref h.length),some (.int (0+(i:Int)))] H= .ok (f i) H)->eZ ⟨some h.length,ax 0 hs.length⟩ (aY 1 (gN 2) aV e (run pg (k+11)) [some p,some (.ref h.length)]) (ax 0 hs.length) [] H= .ok ((List.range hs.length).filterMap λi=>some (f i)) H:=λH e f hH he=>by
  refine(dY (cG hH) (List.range hs.length) [] (f:=λi=>some (f i)) (g:=λi:Nat=>PV.int (0+(i:Int))) (λi m=>?_) (by simp;omega)).trans (by rw[List.nil_append]);have:=he i (List.mem_range.mp m);simp? [this]
 have lt: ∀{α :Type}(l:List α)(g f: α ->PV)(e:ME)(H:PH),l.length<=1000->(∀ x∈l,e (run pg (k+11)) [some p,some (.ref h.length),some (g x)] H= .ok (f x) H)->eZ ⟨none,l.map g⟩ (aY 1 (gN 2) aV e (run pg (k+11)) [some p,some (.ref h.length)]) (l.map g) [] H= .ok (l.map f) H:=λl g f e H hl he=>by
  refine(dY rfl l [] (f:=λx=>some (f x)) (g:=g) (λx m=>?_) (by simp;omega)).trans (by rw[List.nil_append,List.filterMap_eq_map']);have:=he x m;simp? [this]
 let A:List PV:=hs.map λ_=>PV.int 0
 let B:List PV:=hs.map λx=>bf (aO x)
 have n0: ∀ Y:PH,(h++ .lst (ax 0 hs.length)::Y)[h.length]?=some (.lst (ax 0 hs.length)):=λY=>cD;have c1: ∀ Y:PH,eZ ⟨some h.length,ax 0 hs.length⟩ (aY 1 (gN 2) aV (eC (.int 0)) (run pg (k+11)) [some p,some (.ref h.length)]) (ax 0 hs.length) [] (h++ .lst (ax 0 hs.length)::Y)= .ok A (h++ .lst (ax 0 hs.length)::Y):=λY=>by
  rw[lc _ (eC (.int 0)) (λi=>((hs[i]?.map λ_=>PV.int 0).getD (.int 0))) (n0 Y) (λi hi=>by rw[Gj,List.getElem?_eq_getElem hi];rfl),lI]
 have c2: ∀ Y:PH,eZ ⟨some h.length,ax 0 hs.length⟩ (aY 1 (gN 2) aV (ai "first_seat" (aa (ab 0) (aa (ab 2) ae))) (run pg (k+11)) [some p,some (.ref h.length)]) (ax 0 hs.length) [] (h++ .lst (ax 0 hs.length)::Y)= .ok B (h++ .lst (ax 0 hs.length)::Y):=λY=>by
  rw[lc _ (ai "first_seat" (aa (ab 0) (aa (ab 2) ae))) (λi=>((hs[i]?.map λx=>bf (aO x)).getD .non)) (n0 Y) (λi hi=>?_),lI];have e:=List.getElem?_eq_getElem hi;obtain⟨_,_,L,l1,_,l3⟩:=P.hd _ (List.getElem_mem hi);have fs:run pg (k+11) "first_seat" [p,.int i] (h++ .lst (ax 0 hs.length)::Y)=_:=kZ T k _ (L:=L) (by omega) (P.hand e) (λr m=>(l3 r m).1);rw[e];have iz:(0:Int)+(i:Int)=(i:Int):=Int.zero_add _;simp? [iz,fs];rfl
 have b20:=P.bx.1;have n1:=P.nm.1.1;have n2:=P.nm.2.1.1;have n3:=P.nm.2.2.1;have c3: ∀ H:PH,eZ ⟨none,bs.map bW⟩ (aY 1 (gN 2) aV (av (aa (ag ao (ab 2) (eC (.int 1))) (aa (eC .non) ae))) (run pg (k+11)) [some p,some (.ref h.length)]) (bs.map bW) [] H= .ok (bs.map λb=>PV.tup [.int b.2,.non]) H:=λH=>lt bs bW _ _ H (by omega) λx _=>by simp? [bW]
 have c4: ∀ H:PH,eZ ⟨none,s1.map PV.str⟩ (aY 1 (gN 2) aV (av (aa (eC .non) (aa (eC .non) ae))) (run pg (k+11)) [some p,some (.ref h.length)]) (s1.map PV.str) [] H= .ok (s1.map λ_=>PV.tup [.non,.non]) H:=λH=>lt s1 PV.str _ _ H (by omega) λx _=>by simp? [List.map_nil]
 have c5: ∀ H:PH,eZ ⟨none,s2.map PV.str⟩ (aY 1 (gN 2) aV (av (aa (eC (.int 0)) (aa (eC (.int 0)) (aa (av ae) ae)))) (run pg (k+11)) [some p,some (.ref h.length)]) (s2.map PV.str) [] H= .ok (s2.map λ_=>PV.tup [.int 0,.int 0,.tup []]) H:=λH=>lt s2 PV.str _ _ H (by omega) λx _=>by simp? [List.map_nil]
 have c6: ∀ H:PH,eZ ⟨none,s3.map PV.str⟩ (aY 1 (gN 2) aV (eC (.int 0)) (run pg (k+11)) [some p,some (.ref h.length)]) (s3.map PV.str) [] H= .ok (s3.map λ_=>PV.int 0) H:=λH=>lt s3 PV.str _ _ H (by omega) λx _=>rfl;have i0: ∀ H,ao p (.int 0) H= .ok (.tup (bs.map bW)) H:=λH=>by rw[pa];exact Af
 have i1: ∀ H,ao p (.int 1) H= .ok (.tup (s1.map PV.str)) H:=λH=>by rw[pa];exact y9
 have i2: ∀ H,ao p (.int 2) H= .ok (.tup (s2.map PV.str)) H:=λH=>by rw[pa];exact Ck
 have i3: ∀ H,ao p (.int 3) H= .ok (.tup (s3.map PV.str)) H:=λH=>by rw[pa];exact Dp
 rw[run_eq T.k5 rfl];simp? [cb,eu,ho,c1,c2,c3,c4,c5,c6,i0,i1,i2,i3];exact cL (v:=xi bs s1 s2 s3 hs) (ot ..)
end
theorem GL{α :Type}{l:List α}{g f: α ->PV}{st:PV->PH->RV (Option PV)}{H:PH}(hl:l.length<=1000)(he: ∀ x∈l,st (g x) H= .ok (some (f x)) H):eZ ⟨none,l.map g⟩ st (l.map g) [] H= .ok (l.map f) H :=
 (dY rfl l [] (f:=λx=>some (f x)) (g:=g) he (by simp;omega)).trans (by rw[List.nil_append,List.filterMap_eq_map'])
noncomputable def oT(b:Nat)(R:PH)(v:PV)(x:Str × List Rw):Prop:= ∃(i j:Nat)(D:Pk)(L:List Str),v= .tup [.int (aO x).row,.ref (b+i),.ref (b+j)]/\R[i]?=some (.dct (de D))/\R[j]?=some (.lst [])/\tR L D/\L.length<=20/\(∀ y,fP D y=fP (aO x).ps y)/\gn L (aO x).ps
theorem oT.more{b:Nat}{R:PH}{v:PV}{x:Str × List Rw}(h:oT b R v x)(X:PH):oT b (R++X) v x:=by
 obtain⟨i,j,D,L,h1,h2,h3,h4⟩:=h;exact⟨i,j,D,L,h1,(aC (aW h2)).trans h2,(aC (aW h3)).trans h3,h4⟩
inductive SR(b:Nat)(R:PH):List PV->List (Str × List Rw)->Prop
 | nil:SR b R [] []
 | cons {v:PV} {x:Str × List Rw} {vs:List PV} {xs:List (Str × List Rw)} (h:oT b R v x) (t:SR b R vs xs):SR b R (v::vs) (x::xs)
noncomputable def kX(n:Nat):List (Key × PV):=[(.inr "counts",.ref (n+1)),(.inr "seats",.ref (n+2)),(.inr "doors",.ref (n+3)),(.inr "boxes",.ref (n+4)),(.inr "locks",.ref (n+5)),(.inr "lanes",.ref (n+6))]
theorem qK(n:Nat):bR (kX n) (.inr "counts")=some (.ref (n+1))/\bR (kX n) (.inr "seats")=some (.ref (n+2))/\bR (kX n) (.inr "doors")=some (.ref (n+3))/\bR (kX n) (.inr "boxes")=some (.ref (n+4))/\bR (kX n) (.inr "locks")=some (.ref (n+5))/\bR (kX n) (.inr "lanes")=some (.ref (n+6)):=by
 refine⟨?_,?_,?_,?_,?_,?_⟩<;>simp[kX,bR,bI]
noncomputable def fB:MS:=(ah (aA nq (gN 3)) (ah (aA (ai "_law_rest" (aa (ag ao (ab 2) (eC (.int 1))) (aa (eC (.int 0)) (aa (ab 3) (aa (ba ae) ae))))) (gN 4)) (ah (cj (eM aQ bN (ag ao (ab 1) (eC (.str "counts"))) (aa (eC (.int 0)) ae))) (cj (eM aQ bN (ag ao (ab 1) (eC (.str "seats"))) (aa (av (aa (ab 4) (aa (ab 3) (aa (ba ae) ae)))) ae))))))
section
variable{pg:Tb}(T:dm pg)
include T
theorem pO(k:Nat)(h:PH)(xs0:List PV)(e0:Option PV): ∀(hs:List (Str × List Rw))(cts sts:List PV)(R:PH)(e2 e3 e4:Option PV),cts.length+hs.length<=1000->sts.length+hs.length<=1000->(∀ x∈hs,eX x) ->
  ∃(sts':List PV)(X:PH)(f2 f3 f4:Option PV),SR (h.length+3) (R++X) sts' hs /\
   bE ⟨none,xs0⟩ (cg (gN 2) fB (run pg (k+10))) (hs.map aG) [e0,some (.ref h.length),e2,e3,e4] (h++ .dct (kX h.length):: .lst cts:: .lst sts::R)= .ok (.nx [e0,some (.ref h.length),f2,f3,f4]) (h++ .dct (kX h.length):: .lst (cts++hs.map λ_=>PV.int 0):: .lst (sts++sts')::(R++X)):=by
 obtain⟨vc,vs,_⟩:=qK h.length;intro hs
 induction hs with
 | nil=>intro cts sts R e2 e3 e4 _ _ _;exact⟨[],[],e2,e3,e4,.nil,by simp only[List.map_nil,List.append_nil];exact iH⟩
 | cons x hs ih =>
  intro cts sts R e2 e3 e4 hc hs' hH
  rw[List.length_cons] at hc hs'
  obtain⟨_,_,L,l1,_,l3⟩:=hH x List.mem_cons_self
  have hr: ∀ r∈x.2,dI L x.2.length r:=λr m=>(l3 r m).1
  let W:PH:=h++ .dct (kX h.length):: .lst cts:: .lst sts::R
  obtain⟨D,a1,a2,a3⟩:=zY T k W [] (L:=L) (by omega) hr
  have lW:W.length=h.length+(R.length+1+1+1):=by simp[W]
  let v:PV:= .tup [.int (aO x).row,.ref (h.length+(R.length+1+1+1)),.ref (h.length+(R.length+(0+1+1)+1+1+1))]
  have sr:oT (h.length+3) (R++[.dct (de D),.lst [],.lst []]) v x:=⟨R.length,R.length+(0+1+1),D,L,by simp only[v];rw[show h.length+(R.length+1+1+1)=h.length+3+R.length by omega,show h.length+(R.length+(0+1+1)+1+1+1)=h.length+3+(R.length+(0+1+1)) by omega],cD,by rw[aK];rfl,a1,by omega,a2,(ky hr 200 ⟨0,[],[]⟩ ⟨.nil,Nat.zero_le _⟩).pk⟩
  obtain⟨sts',X,f2,f3,f4,i1,i2⟩:=ih (cts++[.int 0]) (sts++[v]) (R++[.dct (de D),.lst [],.lst []]) (some (aG x)) (some (.ref (h.length+(R.length+1+1+1)))) (some (.int (aO x).row)) (by simp only[List.length_append,List.length_cons,List.length_nil];omega) (by simp only[List.length_append,List.length_cons,List.length_nil];omega) (λz m=>hH z (List.mem_cons_of_mem _ m))
  refine⟨v::sts',[.dct (de D),.lst [],.lst []]++X,f2,f3,f4,?_,?_⟩
  . rw[<- List.append_assoc];exact .cons (sr.more X) i1
  have hz1:cts.length < 16777216:=by omega
  have hz2:sts.length < 16777216:=by omega
  have h1: ∀ H,ao (aG x) (.int 1) H= .ok (aJ x.2) H:=λH=>y9
  have st:cg (gN 2) fB (run pg (k+10)) (aG x) [e0,some (.ref h.length),e2,e3,e4] W= .ok (.nx [e0,some (.ref h.length),some (aG x),some (.ref (h.length+(R.length+1+1+1))),some (.int (aO x).row)]) (h++ .dct (kX h.length):: .lst (cts++[.int 0]):: .lst (sts++[v])::(R++[.dct (de D),.lst [],.lst []])):=by
   have a3':run pg (k+10) "_law_rest" [aJ x.2,.int 0,.ref (h.length+(R.length+1+1+1)),.ref (h.length+(R.length+(0+1)+1+1+1))] (h++ .dct (kX h.length):: .lst cts:: .lst sts::(R++[.dct [],.lst []]))= .ok (.int (aO x).row) (h++ .dct (kX h.length):: .lst cts:: .lst sts::(R++[.dct (de D),.lst []])):=by
    rw[lW] at a3;simp only[W,List.append_assoc,List.cons_append] at a3;exact a3
   simp? [fB,W,v,h1,a3',vc,vs,kU hz1,kU hz2]
  rw[List.map_cons,jb]
  show(cg (gN 2) fB (run pg (k+10)) (aG x) [e0,some (.ref h.length),e2,e3,e4] W).bind _=_
  rw[st,d7,dA,i2]
  simp
end
noncomputable def ir(n:Nat):List (Key × PV):=[(.inr "counts",.ref (n+1)),(.inr "seats",.ref (n+2)),(.inr "doors",.ref (n+3))]
theorem Cr(n:Nat):bG [] (ir n)=ir n/\eF (ir n) (.inr "boxes") (.ref (n+4))=ir n++[(.inr "boxes",.ref (n+4))]/\eF (ir n++[(.inr "boxes",.ref (n+4))]) (.inr "locks") (.ref (n+5))=ir n++[(.inr "boxes",.ref (n+4)),(.inr "locks",.ref (n+5))]/\eF (ir n++[(.inr "boxes",.ref (n+4)),(.inr "locks",.ref (n+5))]) (.inr "lanes") (.ref (n+6))=kX n:=by
 refine⟨?_,?_,?_,?_⟩<;>simp[ir,kX,bG,eF,bI]
section
variable{pg:Tb}(T:dm pg)
include T
theorem uN(k:Nat)(h:PH){bs:List (Str × Int)}{s1 s2 s3:List Str}{hs:List (Str × List Rw)}{p:PV}(P:xh bs s1 s2 s3 hs p) :
  ∃(sts:List PV)(X:PH),SR (h.length+3) (.lst (s3.map λ_=>PV.int 0):: .lst (bs.map λb=>PV.tup [.int b.2,.non]):: .lst (s1.map λ_=>PV.tup [.non,.non]):: .lst (s2.map λ_=>PV.tup [.int 0,.int 0,.tup []])::X) sts hs /\
   run pg (k+11) "_law_first" [p] h= .ok (.ref h.length) (h++ .dct (kX h.length):: .lst (hs.map λ_=>PV.int 0):: .lst sts:: .lst (s3.map λ_=>PV.int 0):: .lst (bs.map λb=>PV.tup [.int b.2,.non]):: .lst (s1.map λ_=>PV.tup [.non,.non]):: .lst (s2.map λ_=>PV.tup [.int 0,.int 0,.tup []])::X):=by
 have pa:=P.at_;have b20:=P.bx.1;have n1:=P.nm.1.1;have n2:=P.nm.2.1.1;have n3:=P.nm.2.2.1;have hm:=P.many
 let n:=h.length
 let A3:PO:= .lst (s3.map λ_=>PV.int 0)
 let A0:PO:= .lst (bs.map λb=>PV.tup [.int b.2,.non])
 let A1:PO:= .lst (s1.map λ_=>PV.tup [.non,.non])
 let A2:PO:= .lst (s2.map λ_=>PV.tup [.int 0,.int 0,.tup []])
 obtain⟨sts,X,f2,f3,f4,i1,i2⟩:=pO T k h (hs.map aG) (some p) hs [] [] [A3,A0,A1,A2] none none none (by simp;omega) (by simp;omega) P.hd;refine⟨sts,X,i1,?_⟩;obtain⟨p0,p1,p2,p3⟩:=Cr n;have c3: ∀(E:aq)(H:PH),eZ ⟨none,s3.map PV.str⟩ (aY 1 (gN 5) aV (eC (.int 0)) (run pg (k+10)) E) (s3.map PV.str) [] H= .ok (s3.map λ_=>PV.int 0) H:=λE H=>GL (by omega) λx _=>rfl;have c0: ∀(e1:Option PV)(H:PH),eZ ⟨none,bs.map bW⟩ (aY 1 (gN 5) aV (av (aa (ag ao (ab 5) (eC (.int 1))) (aa (eC .non) ae))) (run pg (k+10)) [some p,e1,none,none,none]) (bs.map bW) [] H= .ok (bs.map λb=>PV.tup [.int b.2,.non]) H:=λe1 H=>GL (by omega) λx _=>by simp? [bW]
 have c1: ∀(e1:Option PV)(H:PH),eZ ⟨none,s1.map PV.str⟩ (aY 1 (gN 5) aV (av (aa (eC .non) (aa (eC .non) ae))) (run pg (k+10)) [some p,e1,none,none,none]) (s1.map PV.str) [] H= .ok (s1.map λ_=>PV.tup [.non,.non]) H:=λe1 H=>GL (by omega) λx _=>by simp? [List.map_nil]
 have c2: ∀(e1:Option PV)(H:PH),eZ ⟨none,s2.map PV.str⟩ (aY 1 (gN 5) aV (av (aa (eC (.int 0)) (aa (eC (.int 0)) (aa (av ae) ae)))) (run pg (k+10)) [some p,e1,none,none,none]) (s2.map PV.str) [] H= .ok (s2.map λ_=>PV.tup [.int 0,.int 0,.tup []]) H:=λe1 H=>GL (by omega) λx _=>by simp? [List.map_nil]
 have i0: ∀ H,ao p (.int 0) H= .ok (.tup (bs.map bW)) H:=λH=>by rw[pa];exact Af
 have j1: ∀ H,ao p (.int 1) H= .ok (.tup (s1.map PV.str)) H:=λH=>by rw[pa];exact y9
 have j2: ∀ H,ao p (.int 2) H= .ok (.tup (s2.map PV.str)) H:=λH=>by rw[pa];exact Ck
 have j3: ∀ H,ao p (.int 3) H= .ok (.tup (s3.map PV.str)) H:=λH=>by rw[pa];exact Dp
 have j4: ∀ H,ao p (.int 4) H= .ok (.tup (hs.map aG)) H:=λH=>by rw[pa];exact FN
 have dk:Er h.length [((.inr "counts" :Key),PV.ref (h.length+(0+1))),(.inr "seats",.ref (h.length+(0+1+1))),(.inr "doors",.ref (h.length+(0+1+1+1)))] (h++[.dct [],.lst [],.lst [],A3])= .ok (.ref h.length) (h++[.dct (ir n),.lst [],.lst [],A3]):=by
  rw[wO cD (by simp),gf];show RV.ok (PV.ref h.length) (h++[.dct (bG [] (ir n)),.lst [],.lst [],A3])=_;rw[p0]
 have l3:(ir n).length < 16777216:=by simp[ir]
 have l4:(ir n++[((.inr "boxes" :Key),PV.ref (n+4))]).length < 16777216:=by simp[ir]
 have l5:(ir n++[((.inr "boxes" :Key),PV.ref (n+4)),(.inr "locks",.ref (n+5))]).length < 16777216:=by simp[ir]
 have A:dq (run pg (k+10)) [some p,none,none,none,none] h= .ok (.rt (.ref h.length)) (h++ .dct (kX n):: .lst (hs.map λ_=>PV.int 0):: .lst sts::A3::A0::A1::A2::X):=by
  show ah _ (ah _ (ah _ (ah _ (ah _ _)))) _ _ _=_;refine(bY (e1:=[some p,some (.ref h.length),none,none,none]) (h1:=h++[.dct (ir n),.lst [],.lst [],A3]) ?_).trans ?_
  . simp? [hI,jQ,gS,j9,jS,kQ,j3,c3,A3,dk]
  refine(bY (e1:=[some p,some (.ref h.length),none,none,none]) (h1:=h++[.dct (ir n++[(.inr "boxes",.ref (n+4))]),.lst [],.lst [],A3,A0]) ?_).trans ?_
  . have q:eF (ir n) (.inr "boxes") (.ref (h.length+(0+1+1+1+1)))=_:=p1;simp? [A0,i0,c0,qP l3,q]
  refine(bY (e1:=[some p,some (.ref h.length),none,none,none]) (h1:=h++[.dct (ir n++[(.inr "boxes",.ref (n+4)),(.inr "locks",.ref (n+5))]),.lst [],.lst [],A3,A0,A1]) ?_).trans ?_
  . have q:eF (ir n++[(.inr "boxes",.ref (n+4))]) (.inr "locks") (.ref (h.length+(0+1+1+1+1+1)))=_:=p2;simp? [A1,j1,c1,qP l4,q]
  refine(bY (e1:=[some p,some (.ref h.length),none,none,none]) (h1:=h++[.dct (kX n),.lst [],.lst [],A3,A0,A1,A2]) ?_).trans ?_
  . have q:eF (ir n++[(.inr "boxes",.ref (n+4)),(.inr "locks",.ref (n+5))]) (.inr "lanes") (.ref (h.length+(0+1+1+1+1+1+1)))=_:=p3;simp? [A2,j2,c2,qP l5,q]
  . unfold fB at i2;simp only[List.nil_append,List.cons_append] at i2;simp? [j4,i2,n]
 rw[run_eq T.nH rfl];show fin _ (dq (run pg (k+10)) [some p,none,none,none,none] h)=_;rw[A,jT];exact eR rfl
end
theorem Dy{h:PH}{n:Nat}{ss:List Str}(e:h[n]?=some (.lst (ss.map PV.str)))(hl:ss.length < 64):bJ [.ref n] h= .ok (.ref h.length) (h++[.lst ((di ss).map PV.str)]):=by
 have i0:itemsOf h (.ref n)=some (ss.map PV.str):=by simp[itemsOf,bV,e]
 show dj [.ref n] h=_;unfold dj;simp only[i0,P3.iI,if_pos hl]
noncomputable def sG:MG:=(gT 3 (aZ (gN 2) (aZ (gN 3) (aZ (gN 4) eL))))
noncomputable def sB:MS:=(ah (aA (eB az (aa (jf 1 (iJ (eB bJ (aa (ab 3) ae))) (gN 7) (aF (ag jD (ag ao (ab 3) (ab 7)) (eC (.int 0)))) (av (aa (ab 7) (aa (ag ao (ab 3) (ab 7)) ae)))) ae)) (gN 5)) (cj (eM aQ bN (ab 1) (aa (av (aa (ab 2) (aa (ab 5) (aa (eB az (aa (eB bJ (aa (ab 4) ae)) ae)) ae)))) ae))))
theorem AG(x:Str × List Rw):(aO x).held=[]:=j8 200 _
section
variable{pg:Tb}(T:dm pg)
include T
theorem pU(k:Nat)(H R:PH)(b:Nat)(hR: ∀ i o,R[i]?=some o->H[b+i]?=some o){nS:Nat}{sts0:List PV}(hS:H[nS]?=some (.lst sts0))(e0:Option PV): ∀(vs:List PV)(xs:List (Str × List Rw)),SR b R vs xs-> ∀(ss:List PV)(Y:PH)(e2 e3 e4 e5:Option PV),ss.length+vs.length<=1000 ->
  ∃(X:PH)(f2 f3 f4 f5:Option PV),bE ⟨some nS,sts0⟩ (cg sG sB (run pg (k+1))) vs [e0,some (.ref H.length),e2,e3,e4,e5,none] (H++ .lst ss::Y)= .ok (.nx [e0,some (.ref H.length),f2,f3,f4,f5,none]) (H++ .lst (ss++xs.map λx=>bf (aO x))::(Y++X)):=by
 have fi: ∀ Z:PH,js.gF ⟨some nS,sts0⟩ (H++Z)=true:=λZ=>cG ((aC (aW hS)).trans hS);intro vs xs S
 induction S with
 | nil=>intro ss Y e2 e3 e4 e5 _;exact⟨[],e2,e3,e4,e5,by rw[List.map_nil,List.append_nil,List.append_nil];exact nF (fi _)⟩
 | @cons v x vs xs sr S ih =>
  intro ss Y e2 e3 e4 e5 hl
  rw[List.length_cons] at hl
  obtain⟨i,j,D,L,rfl,h2,h3,h4,h5,h6,h7⟩:=sr
  have hD: ∀ Z:PH,(H++Z)[b+i]?=some (.dct (de D)):=λZ=>by have:=hR _ _ h2;exact(aC (aW this)).trans this
  have hJ: ∀ Z:PH,(H++Z)[b+j]?=some (.lst (([]:List Str).map PV.str)):=λZ=>by have:=hR _ _ h3;exact(aC (aW this)).trans this
  have dl:D.length < 64:=by have:=h4.len;omega
  let N:List Str:=di (D.map (·.1))
  have so:=xr (h:=H++ .lst ss::Y) (hD _) dl
  have te:=zN h4 h7 h6
  have fm:N.filterMap (λz=>if fP D z=0 then none else some (bW (z,fP D z)))=(aO x).ps.map bW:=by
   rw[<- te,<- mM];refine congrFun (congrArg List.filterMap (funext λz=>?_)) N;have:=h4.xl z;by_cases c:fP D z=0
   . rw[if_pos c,if_neg (by omega)]
   . rw[if_neg c,if_pos (by omega)]
  let Y1:PH:=Y++[.lst (N.map PV.str)]
  have lc: ∀ e5:Option PV,eZ ⟨some (H.length+(Y.length+1)),N.map PV.str⟩ (aY 1 (gN 7) (aF (ag jD (ag ao (ab 3) (ab 7)) (eC (.int 0)))) (av (aa (ab 7) (aa (ag ao (ab 3) (ab 7)) ae))) (run pg (k+1)) [e0,some (.ref H.length),some (.int (aO x).row),some (.ref (b+i)),some (.ref (b+j)),e5,none]) (N.map PV.str) [] (H++ .lst ss::Y1)= .ok ((aO x).ps.map bW) (H++ .lst ss::Y1):=λe5=>by
   refine(dY (cG (by rw[aK,List.getElem?_cons_succ];exact cD)) N [] (f:=λz=>if fP D z=0 then none else some (bW (z,fP D z))) (g:=PV.str) (λz m=>?_) ?_).trans (by rw[List.nil_append,fm])
   . have va:bR (de D) (.inr z)=some (.int (fP D z)):=AS (D:=D) ((dE _).mem_iff.mp m);have hd:=hD (.lst ss::Y1);by_cases c:fP D z=0
     . simp? [hd,va,c,bW]
     . simp? [hd,va,c,bW]
   . have:N.length=D.length:=by rw[(dE _).length_eq,List.length_map]
     simp;omega
  let Y2:PH:=Y1++[.lst ((aO x).ps.map bW)]
  have sl:=Dy (h:=H++ .lst ss::Y2) (hJ _) (by decide)
  have hz:ss.length < 16777216:=by omega
  obtain⟨X,f2,f3,f4,f5,i1⟩:=ih (ss++[bf (aO x)]) (Y++[.lst (N.map PV.str),.lst ((aO x).ps.map bW),.lst []]) (some (.int (aO x).row)) (some (.ref (b+i))) (some (.ref (b+j))) (some (.tup ((aO x).ps.map bW))) (by simp only[List.length_append,List.length_cons,List.length_nil];omega)
  refine⟨[.lst (N.map PV.str),.lst ((aO x).ps.map bW),.lst []]++X,f2,f3,f4,f5,?_⟩
  have sv:bf (aO x)= .tup [.int (aO x).row,.tup ((aO x).ps.map bW),.tup []]:=by unfold bf;rw[AG];rfl
  have st:cg sG sB (run pg (k+1)) (.tup [.int (aO x).row,.ref (b+i),.ref (b+j)]) [e0,some (.ref H.length),e2,e3,e4,e5,none] (H++ .lst ss::Y)= .ok (.nx [e0,some (.ref H.length),some (.int (aO x).row),some (.ref (b+i)),some (.ref (b+j)),some (.tup ((aO x).ps.map bW)),none]) (H++ .lst (ss++[bf (aO x)])::(Y++[.lst (N.map PV.str),.lst ((aO x).ps.map bW),.lst []])):=by
   have so':bJ [.ref (b+i)] (H++ .lst ss::Y)= .ok (.ref (H.length+(Y.length+1))) (H++ .lst ss::(Y++[.lst (N.map PV.str)])):=by rw[so];simp[N]
   have sl':bJ [.ref (b+j)] (H++ .lst ss::(Y++[.lst (N.map PV.str),.lst ((aO x).ps.map bW)]))= .ok (.ref (H.length+(Y.length+(0+1+1)+1))) (H++ .lst ss::(Y++[.lst (N.map PV.str),.lst ((aO x).ps.map bW),.lst []])):=by
    simp only[Y2,Y1,List.append_assoc,List.cons_append,List.nil_append] at sl;rw[sl];simp[di]
   simp only[Y1] at lc;rw[sv];simp? [sG,sB,so',lc,sl',kU hz]
  rw[mC (fi _),st,d7,dA,i1]
  simp
end
section
variable{pg:Tb}(T:dm pg)
include T
theorem oP(k:Nat)(h:PH){bs:List (Str × Int)}{s1 s2 s3:List Str}{hs:List (Str × List Rw)}{p:PV}(P:xh bs s1 s2 s3 hs p): ∃ X:PH,run pg (k+12) "_law_first" [p] h= .ok (.ref h.length) (h++X)/\run pg (k+12) "_law_stand" [.ref h.length] (h++X)= .ok (xi bs s1 s2 s3 hs) (h++X):=by
 obtain⟨sts,X,i1,i2⟩:=uN T (k+1) h P;refine⟨_,i2,?_⟩;have hm:=P.many
 let n:=h.length
 let A3:List PV:=s3.map λ_=>PV.int 0
 let A0:List PV:=bs.map λb=>PV.tup [.int b.2,.non]
 let A1:List PV:=s1.map λ_=>PV.tup [.non,.non]
 let A2:List PV:=s2.map λ_=>PV.tup [.int 0,.int 0,.tup []]
 let Z:List PV:=hs.map λ_=>PV.int 0
 let R:PH:= .lst A3:: .lst A0:: .lst A1:: .lst A2::X
 let H:PH:=h++ .dct (kX n):: .lst Z:: .lst sts::R
 have hR: ∀ i o,R[i]?=some o->H[n+3+i]?=some o:=λi o e=>by
  show(h++_)[_]?=_;rw[show n+3+i=h.length+(i+1+1+1) by show h.length+3+i=_;omega,aK,List.getElem?_cons_succ,List.getElem?_cons_succ,List.getElem?_cons_succ];exact e
 have hS:H[n+2]?=some (.lst sts):=by show(h++_)[h.length+2]?=_;rw[aK];rfl
 have sl:sts.length<=4:=by
  have: ∀{vs:List PV}{xs:List (Str × List Rw)},SR (h.length+3) R vs xs->vs.length=xs.length:=λq=>by
   induction q with
   | nil=>rfl
   | cons _ _ ih=>rw[List.length_cons,List.length_cons,ih]
  have:=this i1;omega
 obtain⟨Y,f2,f3,f4,f5,lp⟩:=pU T (k+10) H R (n+3) hR hS (some (.ref n)) sts hs i1 [] [] none none none none (by simp;omega);obtain⟨v1,v2,v3,v4,v5,v6⟩:=qK n;have d0: ∀ W:PH,(H++W)[n]?=some (.dct (kX n)):=λW=>by
  have:H[n]?=some (.dct (kX n)):=cD;exact(aC (aW this)).trans this
 have sx: ∀(W:PH)(key:Str)(m:Nat),bR (kX n) (.inr key)=some (.ref m)->ao (.ref n) (.str key) (H++W)= .ok (.ref m) (H++W):=λW key m e=>by
  rw[o8,d0,Gb,e];rfl
 have tu: ∀(W:PH)(i:Nat)(xs:List PV),H[n+i]?=some (.lst xs)->az [.ref (n+i)] (H++W)= .ok (.tup xs) (H++W):=λW i xs e=>by
  rw[mQ,(aC (aW e)).trans e,j5]
 have t1:H[n+1]?=some (.lst Z):=by show(h++_)[h.length+1]?=_;rw[aK];rfl
 have t3:H[n+3]?=some (.lst A3):=by show(h++_)[h.length+3]?=_;rw[aK];rfl
 have t4:H[n+4]?=some (.lst A0):=by show(h++_)[h.length+4]?=_;rw[aK];rfl
 have t5:H[n+5]?=some (.lst A1):=by show(h++_)[h.length+5]?=_;rw[aK];rfl
 have t6:H[n+6]?=some (.lst A2):=by show(h++_)[h.length+6]?=_;rw[aK];rfl
 have it:nc (.ref (n+2)) (H++[.lst []])= .ok ⟨some (n+2),sts⟩ (H++[.lst []]):=by rw[wk,(aC (aW hS)).trans hS,uz]
 have ad: ∀(a b c d e f:PV) H,bq (.tup [a,b,c,d]) (.tup [e,f]) H= .ok (.tup [a,b,c,d,e,f]) H:=λa b c d e f H=>jL (by simp);show run pg (k+12) "_law_stand" [.ref n] H= .ok _ H;have e0:xi bs s1 s2 s3 hs= .tup [.tup Z,.tup (hs.map λx=>bf (aO x)),.tup A0,.tup A1,.tup A2,.tup A3]:=rfl;have fl:=ot bs s1 s2 s3 hs;rw[e0] at fl ⊢;rw[List.nil_append,List.nil_append] at lp;rw[run_eq T.m7 rfl]
 clear_value H n Z A0 A1 A2 A3 R
 unfold sG sB at lp;simp? [cC,fc,sx _ _ _ v1,sx _ _ _ v2,sx _ _ _ v3,sx _ _ _ v4,sx _ _ _ v5,sx _ _ _ v6,it,lp,tu _ _ _ t1,tu _ _ _ t3,tu _ _ _ t4,tu _ _ _ t5,tu _ _ _ t6,ad];exact cL fl
end
theorem rp{α :Type}{f: α ->PV}: ∀{l:List α},(∀ x∈l,ju (f x)=true)->cR (l.map f)=true
 | [],_=>rfl
 | x::r,h=>by rw[List.map_cons,cR,h x List.mem_cons_self,rp λz m=>h z (List.mem_cons_of_mem _ m)];rfl
theorem qX{α :Type}{f: α ->PV}{c:Nat}: ∀{l:List α},(∀ x∈l,kW (f x)<=c)->kS (l.map f)<=(c+1)*l.length
 | [],_=>Nat.zero_le _
 | x::r,h=>by
  have h1:=h x List.mem_cons_self;have h2:=qX (l:=r) λz m=>h z (List.mem_cons_of_mem _ m);rw[List.map_cons,kS,List.length_cons,Nat.mul_succ];omega
theorem rU{α :Type}{f: α ->PV}{c:Nat}: ∀{l:List α},(∀ x∈l,kY (f x)<=c)->dC (l.map f)<=c
 | [],_=>Nat.zero_le _
 | x::r,h=>by
  have h1:=h x List.mem_cons_self;have h2:=rU (l:=r) λz m=>h z (List.mem_cons_of_mem _ m);rw[List.map_cons,dC];omega
structure Sh(v:PV)(b d:Nat):Prop where
 ok:ju v=true
 bk:kW v<=b
 dp:kY v<=d
theorem dM{α :Type}{f: α ->PV}{l:List α}{b d n:Nat}(hl:l.length<=n)(h: ∀ x∈l,Sh (f x) b d):Sh (.tup (l.map f)) ((b+1)*n) (d+1) :=
 ⟨by rw[ju];exact rp λx m=>(h x m).ok,by rw[kW];exact Nat.le_trans (qX λx m=>(h x m).bk) (Nat.mul_le_mul_left _ hl),by rw[kY];have:=rU λx m=>(h x m).dp;omega⟩
theorem CH{x:Str}(h:fw x=true):Sh (.str x) 20 0:=⟨h,fb h,Nat.le_refl _⟩
theorem AK{z:Str × Int}(h:fw z.1=true)(h0:0<=z.2)(h9:z.2<=1000000):Sh (bW z) 22 1:=by
 have:=fb h;unfold bW;refine⟨?_,?_,?_⟩
 . simp only[ju,cR,h,Bool.and_true,Bool.true_and,decide_eq_true_eq];omega
 . simp only[kW,kS];omega
 . simp only[kY,dC];omega
theorem zf{x:Str × List Rw}(h:eX x):Sh (aG x) 4000 14:=by
 obtain⟨h1,h2,L,_,_,h3⟩:=h;have n20:=fb h1;have r:Sh (aJ x.2) ((300+1)*12) 11:=dM h2 λr m=>⟨(h3 r m).2.1,(h3 r m).2.2.1,(h3 r m).2.2.2⟩
 obtain⟨r1,r2,r3⟩:=r;unfold aG;refine⟨?_,?_,?_⟩
 . simp only[ju,cR,h1,r1,Bool.and_true]
 . simp only[kW,kS];omega
 . simp only[kY,dC];omega
theorem uL{bs:List (Str × Int)}{s1 s2 s3:List Str}{hs:List (Str × List Rw)}{p:PV}(P:xh bs s1 s2 s3 hs p): ∃ x:Str,∀ g,dc [p] g= .ok (.str x) g:=by
 have a0:Sh (.tup (bs.map bW)) ((22+1)*20) 2:=dM P.bx.1 λz m=>by have:=P.bx.2 z m;exact AK this.1 this.2.1 (by omega)
 have nm: ∀ s:List Str,rN s->Sh (.tup (s.map PV.str)) ((20+1)*20) 1:=λs h=>dM h.1 λz m=>CH (h.2 z m).1;obtain⟨n1,n2,n3⟩:=P.nm;have a1:=nm s1 n1;have a2:=nm s2 n2;have a3:=nm s3 n3;have a4:Sh (.tup (hs.map aG)) ((4000+1)*4) 15:=dM P.many.2 λz m=>zf (P.hd z m);rw[P.at_];refine qY ?_ ?_ ?_
 . simp only[cR,a0.ok,a1.ok,a2.ok,a3.ok,a4.ok,Bool.and_self]
 . have b0:=a0.dp;have b1:=a1.dp;have b2:=a2.dp;have b3:=a3.dp;have b4:=a4.dp;simp only[dC];omega
 . have b0:=a0.bk;have b1:=a1.bk;have b2:=a2.bk;have b3:=a3.bk;have b4:=a4.bk;simp only[kS];omega
theorem yc{x:Str × List Rw}(h:eX x):Sh (bf (aO x)) 200 3:=by
 obtain⟨_,h2,L,l1,l2,h3⟩:=h;have so:=ky (λr m=>(h3 r m).1) 200 ⟨0,[],[]⟩ ⟨.nil,Nat.zero_le _⟩;have pl:=so.pk.len;have pk:Sh (uQ (aO x).ps) ((22+1)*6) 2:=dM (by show(br x.2 200 ⟨0,[],[]⟩).ps.length<=6;omega) λz m=>by
  have:=so.pk.mem z m;exact AK (l2 _ this.1) (by omega) (by omega)
 have hr:(aO x).row<=x.2.length:=so.le;obtain⟨p1,p2,p3⟩:=pk;have sv:bf (aO x)= .tup [.int (aO x).row,uQ (aO x).ps,.tup []]:=by unfold bf;rw[AG];rfl
 rw[sv];refine⟨?_,?_,?_⟩
 . simp only[ju,cR,p1,Bool.and_true,decide_eq_true_eq];omega
 . simp only[kW,kS];omega
 . simp only[kY,dC];omega
theorem rC{bs:List (Str × Int)}{s1 s2 s3:List Str}{hs:List (Str × List Rw)}{p:PV}(P:xh bs s1 s2 s3 hs p): ∃ x:Str,∀ g,dc [xi bs s1 s2 s3 hs] g= .ok (.str x) g:=by
 have a0:Sh (.tup (hs.map λ_=>PV.int 0)) ((0+1)*4) 1:=dM P.many.2 λz m=>⟨rfl,Nat.le_refl _,Nat.le_refl _⟩
 have a1:Sh (.tup (hs.map λx=>bf (aO x))) ((200+1)*4) 4:=dM P.many.2 λz m=>yc (P.hd z m);have a2:Sh (.tup (bs.map λb=>PV.tup [.int b.2,.non])) ((2+1)*20) 2:=dM P.bx.1 λz m=>by
  have:=P.bx.2 z m;refine⟨?_,?_,?_⟩
  . simp only[ju,cR,Bool.and_true,decide_eq_true_eq];omega
  . simp only[kW,kS];omega
  . simp only[kY,dC];omega
 obtain⟨n1,n2,n3⟩:=P.nm;have a3:Sh (.tup (s1.map λ_=>PV.tup [.non,.non])) ((2+1)*20) 2:=dM n1.1 λz m=>⟨rfl,by decide,by decide⟩
 have a4:Sh (.tup (s2.map λ_=>PV.tup [.int 0,.int 0,.tup []])) ((3+1)*20) 3:=dM n2.1 λz m=>⟨by decide,by decide,by decide⟩
 have a5:Sh (.tup (s3.map λ_=>PV.int 0)) ((0+1)*20) 1:=dM n3.1 λz m=>⟨rfl,Nat.le_refl _,Nat.le_refl _⟩
 unfold xi;refine qY ?_ ?_ ?_
 . simp only[cR,a0.ok,a1.ok,a2.ok,a3.ok,a4.ok,a5.ok,Bool.and_self]
 . have b0:=a0.dp;have b1:=a1.dp;have b2:=a2.dp;have b3:=a3.dp;have b4:=a4.dp;have b5:=a5.dp;simp only[dC];omega
 . have b0:=a0.bk;have b1:=a1.bk;have b2:=a2.bk;have b3:=a3.bk;have b4:=a4.bk;have b5:=a5.bk;simp only[kS];omega
noncomputable def room:Nat:=20
noncomputable def Hb:ME:=(ai "_law_own_first" (aa (ab 1) (aa (ai "_law_program" (aa (ab 1) ae)) ae)))
noncomputable def G2:ME:=(ai "_law_stand" (aa (ai "_law_first" (aa (ab 7) ae)) ae))
noncomputable def He:MS:=(ah (aA (eB dc (aa (ag ao (ab 2) (ab 4)) ae)) (gN 5)) (ah (aA (ai "first_stand" (aa (ag ao (ab 2) (ab 4)) ae)) (gN 6)) (dU (xv (yn (aF (eB wo (aa (ab 6) (aa (eC (.ty "tuple")) ae))))) (xv (aF (ag jD (eB dc (aa (ab 6) ae)) (eB dc (aa (ag ao (ab 3) (ab 4)) ae)))) (aF (ag jD (eB dc (aa (ag ao (ab 2) (ab 4)) ae)) (ab 5))))) (aN (eC (.bl false))) eA)))
theorem mT{it:js}{st:PV->PH->RV (Option PV)}{x y:PV}{xs ys:List PV}{h h1:PH}(hf:it.gF h=true)(hl:ys.length<=100)(e:st x h= .ok (some y) h1):eZ it st (x::xs) ys h=eZ it st xs (ys++[y]) h1:=by
 rw[P3.eZ,if_pos ⟨hf,Nat.lt_of_le_of_lt hl (by decide)⟩,e,cm]
theorem vV{it:js}{st:PV->PH->RV (Option PV)}{ys:List PV}{h:PH}(hf:it.gF h=true):eZ it st [] ys h= .ok ys h:=by rw[P3.eZ,if_pos hf]
section
variable{pg:Tb}(T:dm pg)
include T
theorem vS{H:PH}{p1 p2 d1 d2:PV}{nd nl:Nat}{xs0:List PV}(h2:H[2]?=some (.lst [p1,p2]))(hd:H[nd]?=some (.lst [d1,d2]))(hl:H[nl]?=some (.lst xs0))(ok: ∀ k,k=0\/k=1-> ∃(p d:PV)(x y:Str),cZ [p1,p2] k=some p/\cZ [d1,d2] k=some d/\(∀ g,dc [p] g= .ok (.str x) g)/\(∀ g,dc [d] g= .ok (.str y) g)/\(∃ zs,d= .tup zs)/\ ∀ g,run pg 20 "first_stand" [p] g= .ok d g)(e0 e1:Option PV) :
  ∀(ks:List Int)(e4 e5 e6:Option PV),(∀ k∈ks,k=0\/k=1)-> ∃ f4 f5 f6:Option PV,bE ⟨some nl,xs0⟩ (cg (gN 4) He (run pg 20)) (ks.map PV.int) [e0,e1,some (.ref 2),some (.ref nd),e4,e5,e6] H= .ok (.nx [e0,e1,some (.ref 2),some (.ref nd),f4,f5,f6]) H:=by
 intro ks
 induction ks with
 | nil=>intro e4 e5 e6 _;exact⟨e4,e5,e6,nF (cG hl)⟩
 | cons k ks ih =>
  intro e4 e5 e6 hk
  obtain⟨p,d,x,y,a1,a2,a3,a4,⟨zs,rfl⟩,a6⟩:=ok k (hk k List.mem_cons_self)
  obtain⟨f4,f5,f6,i1⟩:=ih (some (.int k)) (some (.str x)) (some (.tup zs)) λz m=>hk z (List.mem_cons_of_mem _ m)
  refine⟨f4,f5,f6,?_⟩
  have b1:ao (.ref 2) (.int k) H= .ok p H:=by rw[o8,h2,tf,a1];rfl
  have b2:ao (.ref nd) (.int k) H= .ok (.tup zs) H:=by rw[o8,hd,tf,a2];rfl
  have st:cg (gN 4) He (run pg 20) (.int k) [e0,e1,some (.ref 2),some (.ref nd),e4,e5,e6] H= .ok (.nx [e0,e1,some (.ref 2),some (.ref nd),some (.int k),some (.str x),some (.tup zs)]) H:=by
   simp? [He,b1,b2,a3,a4,a6,Ea]
  rw[List.map_cons,mC (cG hl),st,d7,dA]
  exact i1
end
theorem ur: ∀ ns:List Int,ns.length<=63->Ok (run tb (room+1) "law" [.ref 0] [.iu (ns.map PV.int)]) λv _=>v= .bl true:=by
 intro ns hn;have T:dm tb:=has;show Ok (run tb (20+1) "law" [.ref 0] [mY ns]) _;obtain⟨q0,bx⟩:=Ei T 19 ns hn;obtain⟨b1,s11,s12,s13,g1,p1,q1,P1,e1⟩:=kJ T 13 (mY ns) q0 [];obtain⟨h1,r1,q2,Q1,e2⟩:=lF T 18 (mY ns) P1 q1 [];obtain⟨b2,s21,s22,s23,g2,p2,q3,P2,e3⟩:=kJ T 13 (mY ns) q2 [];obtain⟨h2,r2,q4,Q2,e4⟩:=lF T 18 (mY ns) P2 q3 []
 let H0:PH:=[mY ns,bj q4,.lst [r1,r2]]
 obtain⟨X1,f1,f2⟩:=oP T 8 H0 Q1;obtain⟨X2,f3,f4⟩:=oP T 8 (H0++X1) Q2
 let d1:PV:=xi b1 s11 s12 s13 h1
 let d2:PV:=xi b2 s21 s22 s23 h2
 let H1:PH:=H0++X1++X2
 let H2:PH:=H1++[.lst [d1,d2],.lst [.int 0,.int 1,.int 0,.int 1]]
 obtain⟨x1,sx1⟩:=uL Q1;obtain⟨x2,sx2⟩:=uL Q2;obtain⟨y1,sy1⟩:=rC Q1;obtain⟨y2,sy2⟩:=rC Q2;have z2:H2[2]?=some (.lst [r1,r2]):=rfl;have zd:H2[H1.length]?=some (.lst [d1,d2]):=cD;have zl:H2[H1.length+(0+1)]?=some (.lst [.int 0,.int 1,.int 0,.int 1]):=by show(H1++_)[_]?=_;rw[aK];rfl
 obtain⟨w4,w5,w6,lp⟩:=vS T z2 zd zl (λk hk=>by
  rcases hk with rfl | rfl
  . exact⟨r1,d1,x1,y1,jP,jP,sx1,sy1,⟨_,rfl⟩,λg=>fL T 8 g Q1⟩
  . exact⟨r2,d2,x2,y2,nZ,nZ,sx2,sy2,⟨_,rfl⟩,λg=>fL T 8 g Q2⟩) (some (.ref 0)) (some (.ref 1)) [0,1,0,1] none none none (λk m=>by
  simp only[List.mem_cons,List.not_mem_nil,or_false] at m;omega)
 have c1:eZ ⟨none,ax 0 2⟩ (aY 1 (gN 7) aV Hb (run tb 20) [some (.ref 0),some (.ref 1),none,none,none,none,none]) (ax 0 2) [] [mY ns,bj q0]= .ok [r1,r2] [mY ns,bj q4]:=by
  show eZ _ _ [.int (0+((0:Nat):Int)),.int (0+((1:Nat):Int))] [] _=_;rw[mT (y:=r1) (h1:=[mY ns,bj q2]) rfl (by simp) (by simp? [Hb,e1,e2]),mT (y:=r2) (h1:=[mY ns,bj q4]) rfl (by simp) (by simp? [Hb,e3,e4]),vV rfl];rfl
 have c2:eZ ⟨some 2,[r1,r2]⟩ (aY 1 (gN 7) aV G2 (run tb 20) [some (.ref 0),some (.ref 1),some (.ref 2),none,none,none,none]) [r1,r2] [] H0= .ok [d1,d2] H1:=by
  have st2:aY 1 (gN 7) aV G2 (run tb 20) [some (.ref 0),some (.ref 1),some (.ref 2),none,none,none,none] r2 (H0++X1)= .ok (some d2) (H0++X1++X2):=by
   generalize H0++X1=K at f3 f4;generalize K++X2=W at f3 f4;simp? [G2,f3,f4,d2]
  rw[mT (y:=d1) (h1:=H0++X1) (cG rfl) (by simp) (by simp? [G2,f1,f2,d1]),mT (y:=d2) (h1:=H1) (cG rfl) (by simp) st2,vV (cG rfl)];rfl
 have A:qN (run tb 20) [some (.ref 0),none,none,none,none,none,none] [mY ns]= .ok (.rt (.bl true)) H2:=by
  show ah _ (ah _ (ah _ (ah _ _))) _ _ _=_;refine(bY (e1:=[some (.ref 0),some (.ref 1),none,none,none,none,none]) (h1:=[mY ns,bj q0]) ?_).trans ?_
  . simp? [bx]
  refine(bY (e1:=[some (.ref 0),some (.ref 1),some (.ref 2),none,none,none,none]) (h1:=H0) ?_).trans ?_
  . have t2:ax 0 (2:Int).toNat=ax 0 2:=rfl;unfold Hb at c1;simp? [t2,c1];rfl
  refine(bY (e1:=[some (.ref 0),some (.ref 1),some (.ref 2),some (.ref H1.length),none,none,none]) (h1:=H1++[.lst [d1,d2]]) ?_).trans ?_
  . have z0:nc (.ref 2) H0= .ok ⟨some 2,[r1,r2]⟩ H0:=rfl;unfold G2 at c2;generalize H0=K at z0 c2;simp? [z0,c2]
  . show _=RV.ok (Fl.rt (PV.bl true)) (H1++[.lst [d1,d2],.lst [.int 0,.int 1,.int 0,.int 1]]);unfold He at lp;have lp':=lp;simp only[H2,List.map_cons,List.map_nil] at lp';generalize H1=K at lp';simp? [lp']
 rw[run_eq T.AU rfl];show Ok (fin _ (qN (run tb 20) [some (.ref 0),none,none,none,none,none,none] [mY ns])) _;rw[A,jT];unfold P3.settle;split<;>exact⟨_,_,rfl,rfl⟩
open PySem PySem.W PyProof.Rows
set_option maxHeartbeats 8000000
theorem all_mk{l:PySem.W.OpenLaw}{w:World}{K:PySem.W.Frag}{h:Heap}{mg:Str->Option Value}{fa:Addr}(X:K.In h)(G:h.Ns mainGlobals mg)(hfa:mg "law" =some (.ref fa)){tWORTHS:Tok}{tMOST_OWN_ROWS:Tok}
  (A0:At K mg "worth" (top 2))
  (A1:At K mg "joined_worth" (top 3))
  (A2:At K mg "rows_of" (top 5))
  (A3:At K mg "first_seat" (top 8))
  (A4:At K mg "rested" (top 9))
  (A5:At K mg "is_rested" (top 10))
  (A6:At K mg "is_own_row" (top 11))
  (A7:At K mg "behind_own_row" (top 12))
  (A8:At K mg "laid" (top 13))
  (A9:At K mg "first_stand" (top 15))
  (A10:At K mg "hands_of" (top 16))
  (A11:At K mg "_law_box" (top 18))
  (A12:At K mg "_law_take" (top 19))
  (A13:At K mg "_law_sum" (top 20))
  (A14:At K mg "_law_touch_row" (top 21))
  (A15:At K mg "_law_rows" (top 22))
  (A16:At K mg "_law_program" (top 23))
  (A17:At K mg "_law_worth" (top 24))
  (A18:At K mg "_law_is_own" (top 25))
  (A19:At K mg "_law_rest" (top 26))
  (A20:At K mg "_law_first" (top 27))
  (A21:At K mg "_law_stand" (top 28))
  (A22:At K mg "_law_own_first" (top 29))
  (A23:At K mg "law" (top 30))
  (z0:PySem.W.nsIn K mainGlobals "len" =some none)
  (z1:PySem.W.nsIn K mainGlobals "range" =some none)
  (z2:PySem.W.nsIn K mainGlobals "isinstance" =some none)
  (z3:PySem.W.nsIn K mainGlobals "int" =some none)
  (z4:PySem.W.nsIn K mainGlobals "bool" =some none)
  (z5:PySem.W.nsIn K mainGlobals "tuple" =some none)
  (z6:PySem.W.nsIn K mainGlobals "dict" =some none)
  (z7:PySem.W.nsIn K mainGlobals "sorted" =some none)
  (z8:PySem.W.nsIn K mainGlobals "min" =some none)
  (z9:PySem.W.nsIn K mainGlobals "max" =some none)
  (z10:PySem.W.nsIn K mainGlobals "abs" =some none)
  (z11:PySem.W.nsIn K mainGlobals "all" =some none)
  (z12:PySem.W.nsIn K mainGlobals "any" =some none)
  (z13:PySem.W.nsIn K mainGlobals "sum" =some none)
  (z14:PySem.W.nsIn K mainGlobals "str" =some none)
  (z15:PySem.W.nsIn K mainGlobals "list" =some none)
  (z16:PySem.W.nsIn K mainGlobals "zip" =some none)
  (z17:PySem.W.nsIn K mainGlobals "set" =some none)
  (z18:PySem.W.nsIn K mainGlobals "repr" =some none)
  (z19:PySem.W.nsIn K mainGlobals "enumerate" =some none)
  (wWORTHS:PySem.W.nsIn K mainGlobals "WORTHS" =some (some (.int 1000 tWORTHS)))
  (wMOST_OWN_ROWS:PySem.W.nsIn K mainGlobals "MOST_OWN_ROWS" =some (some (.int 200 tMOST_OWN_ROWS))) :
  ∃ fd:FuncData,(∀(s:Shared)(v:Value),BindsTo s fd ⟨[v],[]⟩ [("_law_script",v)])/\ ∀ base:Heap,K.In base->base.Ns mainGlobals mg->fE l.prog w K mg base nI (room+1) fa fd ["_law_script"] (qw K tb (room+1) "law"):=by
 have T:Top l.prog w K mg tb:=⟨(List.forall_mem_cons.mpr ⟨PySem.W.mg_none_of X G z0,(List.forall_mem_cons.mpr ⟨PySem.W.mg_none_of X G z1,(List.forall_mem_cons.mpr ⟨PySem.W.mg_none_of X G z2,(List.forall_mem_cons.mpr ⟨PySem.W.mg_none_of X G z3,(List.forall_mem_cons.mpr ⟨PySem.W.mg_none_of X G z4,(List.forall_mem_cons.mpr ⟨PySem.W.mg_none_of X G z5,(List.forall_mem_cons.mpr ⟨PySem.W.mg_none_of X G z6,(List.forall_mem_cons.mpr ⟨PySem.W.mg_none_of X G z7,(List.forall_mem_cons.mpr ⟨PySem.W.mg_none_of X G z8,(List.forall_mem_cons.mpr ⟨PySem.W.mg_none_of X G z9,(List.forall_mem_cons.mpr ⟨PySem.W.mg_none_of X G z10,(List.forall_mem_cons.mpr ⟨PySem.W.mg_none_of X G z11,(List.forall_mem_cons.mpr ⟨PySem.W.mg_none_of X G z12,(List.forall_mem_cons.mpr ⟨PySem.W.mg_none_of X G z13,(List.forall_mem_cons.mpr ⟨PySem.W.mg_none_of X G z14,(List.forall_mem_cons.mpr ⟨PySem.W.mg_none_of X G z15,(List.forall_mem_cons.mpr ⟨PySem.W.mg_none_of X G z16,(List.forall_mem_cons.mpr ⟨PySem.W.mg_none_of X G z17,(List.forall_mem_cons.mpr ⟨PySem.W.mg_none_of X G z18,(List.forall_mem_cons.mpr ⟨PySem.W.mg_none_of X G z19,(by intro p m;cases m)⟩)⟩)⟩)⟩)⟩)⟩)⟩)⟩)⟩)⟩)⟩)⟩)⟩)⟩)⟩)⟩)⟩)⟩)⟩)⟩),Ap (conT:=conT) rfl (List.forall_mem_cons.mpr ⟨uM (PySem.W.mg_of X G wWORTHS) (.int _ _),(List.forall_mem_cons.mpr ⟨uM (PySem.W.mg_of X G wMOST_OWN_ROWS) (.int _ _),(by intro p m;cases m)⟩)⟩),zx (dcT:=dcT) rfl (by intro p m;cases m)⟩
 have gs: ∀ p∈gL,∃ st N,aS l.prog w K mg tb p.1 p.2 st N:=(List.forall_mem_cons.mpr ⟨⟨_,_,yF has A0⟩,(List.forall_mem_cons.mpr ⟨⟨_,_,kR has A1⟩,(List.forall_mem_cons.mpr ⟨⟨_,_,r9 has A2⟩,(List.forall_mem_cons.mpr ⟨⟨_,_,ny has A3⟩,(List.forall_mem_cons.mpr ⟨⟨_,_,u7 has A4⟩,(List.forall_mem_cons.mpr ⟨⟨_,_,oX has A5⟩,(List.forall_mem_cons.mpr ⟨⟨_,_,l9 has A6⟩,(List.forall_mem_cons.mpr ⟨⟨_,_,iC has A7⟩,(List.forall_mem_cons.mpr ⟨⟨_,_,BV has A8⟩,(List.forall_mem_cons.mpr ⟨⟨_,_,lu has A9⟩,(List.forall_mem_cons.mpr ⟨⟨_,_,pj has A10⟩,(List.forall_mem_cons.mpr ⟨⟨_,_,p4 has A11⟩,(List.forall_mem_cons.mpr ⟨⟨_,_,nU has A12⟩,(List.forall_mem_cons.mpr ⟨⟨_,_,pP has A13⟩,(List.forall_mem_cons.mpr ⟨⟨_,_,iS has A14⟩,(List.forall_mem_cons.mpr ⟨⟨_,_,oZ has A15⟩,(List.forall_mem_cons.mpr ⟨⟨_,_,jY has A16⟩,(List.forall_mem_cons.mpr ⟨⟨_,_,mX has A17⟩,(List.forall_mem_cons.mpr ⟨⟨_,_,lx has A18⟩,(List.forall_mem_cons.mpr ⟨⟨_,_,nP has A19⟩,(List.forall_mem_cons.mpr ⟨⟨_,_,mJ has A20⟩,(List.forall_mem_cons.mpr ⟨⟨_,_,mH has A21⟩,(List.forall_mem_cons.mpr ⟨⟨_,_,jd has A22⟩,(List.forall_mem_cons.mpr ⟨⟨_,_,Av has A23⟩,(by intro p m;cases m)⟩)⟩)⟩)⟩)⟩)⟩)⟩)⟩)⟩)⟩)⟩)⟩)⟩)⟩)⟩)⟩)⟩)⟩)⟩)⟩)⟩)⟩)⟩)⟩)
 exact BG T (uZ rfl gs) has.AU rfl (Av has A23) hfa
theorem walk{l:PySem.W.OpenLaw}{q:Program}{loose:List Str}{XP:(Str->Option Value)->Heap->Prop}{YP:World->Heap->Prop}{d:DefRec}{K:Params->PySem.W.Frag}(hn:l.most=some 63)(hdf:d.params.defaults=[])
  (hY: ∀(w:World)(h:Heap),YP w h->(K w.params).In h)
  (F: ∀(w:World)(mg:Str->Option Value)(fa:Addr)(h:Heap),(K w.params).In h->h.Ns mainGlobals mg->mg d.name=some (.ref fa) ->
   ∃ fd:FuncData,(∀(s:Shared)(u:Value),BindsTo s fd ⟨[u],[]⟩ [("_law_script",u)])/\ ∀ base:Heap,(K w.params).In base->base.Ns mainGlobals mg->fE l.prog w (K w.params) mg base nI (room+1) fa fd ["_law_script"] (qw (K w.params) tb (room+1) "law")) :
  PySem.W.WalkO q loose XP YP l.row.toRowW d [] (λf vs=>PySem.call f vs) :=
 L2.zw (n:=63) (k:=room+1) (x:= "_law_script") (CX:=λ_=>nI) (sp:=λw=>qw (K w.params) tb (room+1) "law") hn (by decide) hdf ⟨rfl,by decide,by decide,rfl⟩ hY F (λ_ H a ns hl hO hS=>D3 ur H a ns hl hO hS) λ_ _ _ _ _ z=>z
end K19
open PySem PySem.W PyProof.Rows
set_option maxRecDepth 100000 in
set_option maxHeartbeats 0 in
theorem PySem.Challenge.cw_leastrecord_k19_first_stands_holds : PySem.Challenge.rw_leastrecord_k19_first_stands.Holds := by
 w_on;o_law;k_head;(case hw=>w_witness2)
 k_fill
 refine K19.walk (l:=PySem.Challenge.rw_leastrecord_k19_first_stands) rfl rfl (λw h Y=>PySem.W.kIn_of Y) ?F
 case F =>
  intro w mg fa h KX G hmg
  refine' K19.all_mk KX G hmg (L2.bM KX G ?_ ?_ ?_ ?_) (L2.bM KX G ?_ ?_ ?_ ?_) (L2.bM KX G ?_ ?_ ?_ ?_) (L2.bM KX G ?_ ?_ ?_ ?_) (L2.bM KX G ?_ ?_ ?_ ?_) (L2.bM KX G ?_ ?_ ?_ ?_) (L2.bM KX G ?_ ?_ ?_ ?_) (L2.bM KX G ?_ ?_ ?_ ?_) (L2.bM KX G ?_ ?_ ?_ ?_) (L2.bM KX G ?_ ?_ ?_ ?_) (L2.bM KX G ?_ ?_ ?_ ?_) (L2.bM KX G ?_ ?_ ?_ ?_) (L2.bM KX G ?_ ?_ ?_ ?_) (L2.bM KX G ?_ ?_ ?_ ?_) (L2.bM KX G ?_ ?_ ?_ ?_) (L2.bM KX G ?_ ?_ ?_ ?_) (L2.bM KX G ?_ ?_ ?_ ?_) (L2.bM KX G ?_ ?_ ?_ ?_) (L2.bM KX G ?_ ?_ ?_ ?_) (L2.bM KX G ?_ ?_ ?_ ?_) (L2.bM KX G ?_ ?_ ?_ ?_) (L2.bM KX G ?_ ?_ ?_ ?_) (L2.bM KX G ?_ ?_ ?_ ?_) (L2.bM KX G ?_ ?_ ?_ ?_) ?z0 ?z1 ?z2 ?z3 ?z4 ?z5 ?z6 ?z7 ?z8 ?z9 ?z10 ?z11 ?z12 ?z13 ?z14 ?z15 ?z16 ?z17 ?z18 ?z19 ?wWORTHS ?wMOST_OWN_ROWS
  all_goals try k_is
  all_goals try k_is
  all_goals exact rfl
end
end
end
