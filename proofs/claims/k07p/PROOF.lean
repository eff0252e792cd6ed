import PyProof.Rows.All
import Wide.All
import OpenK.AllK
import Wide.FinOn
import Lean
import PyProof.EqAt
import PyProof.EqKinds
import PyProof.TupleCall
import KE.KDictSum
import PyProof.AttrMissHeap
import PyProof.WalksMore
import KE.LcSums
import PyProof.AutoListH
import PyProof.ListMulRoad
import KE.KSortTup
import PyProof.ZipIter
import PySem.Challenge.RW_leastrecord_k07_own_rows
set_option genSizeOf false
def PySem.W.Fast.tw4314379728540486386 : Nat := 0
def PySem.W.Fast.tw9087954175001800578 : Nat := 0
def PySem.W.Fast.tw16873934990418374701 : Nat := 0
def PySem.W.Fast.tw2514990282974359815 : Nat := 0
def PySem.W.Fast.tw4087166003836769514 : Nat := 0
def PySem.W.Fast.tw31681415090358336 : Nat := 0
def PySem.W.Fast.tw5467349926571337148 : Nat := 0
def PySem.W.Fast.tw10144394652886114188 : Nat := 0
def PySem.W.Fast.tw4000600516155816347 : Nat := 0
def PySem.W.Fast.tw8729754249103772262 : Nat := 0
def PySem.W.Fast.tw1447899930196878078 : Nat := 0
def PySem.W.Fast.tw12020133963747802397 : Nat := 0
def PySem.W.Fast.tw16498494448956643297 : Nat := 0
def PySem.W.Fast.tw5159639448465822810 : Nat := 0
def PySem.W.Fast.tw7120790208457483217 : Nat := 0
def PySem.W.Fast.tw15349442283086508206 : Nat := 0
def PySem.W.Fast.tw17822518485453694252 : Nat := 0
def PySem.W.Fast.tw3204967573757927911 : Nat := 0
def PySem.W.Fast.tw13353872230839539780 : Nat := 0
def PySem.W.Fast.tw15651407450026079844 : Nat := 0
def PySem.W.Fast.tw9578691857267282894 : Nat := 0
def PySem.W.Fast.tw4439397159829435345 : Nat := 0
def PySem.W.Fast.tw13113524244826926526 : Nat := 0
def PySem.W.Fast.tw6325060279300757554 : Nat := 0
def PySem.W.Fast.tw3561535419594502233 : Nat := 0
def PySem.W.Fast.tw7175136332838463708 : Nat := 0
def PySem.W.Fast.tw1455253917246642029 : Nat := 0
def PySem.W.Fast.tw1949198897068996360 : Nat := 0
def PySem.W.Fast.tw1762901788843521295 : Nat := 0
def PySem.W.Fast.tw1050083623646177177 : Nat := 0
def PySem.W.Fast.tw11621186060828382530 : Nat := 0
def PySem.W.Fast.tw10793800884943291166 : Nat := 0
noncomputable section
set_option Elab.async false
set_option linter.all false
set_option maxRecDepth 100000
section
namespace L2
open PySem PySem.Spec PyProof.Rows
abbrev Key := Sum Int Str
noncomputable def keyIs : Key → Value → Bool
  | .inl k, v => Value.isInt k v
  | .inr x, v => Value.isStrOf x v
noncomputable def keyH (w : World) : Key → Int
  | .inl k => hashInt k
  | .inr x => hashStr w x
theorem keyIs_shape : ∀ {k : Key} {v : Value}, keyIs k v = true → (∃ i t, k = Sum.inl i ∧ v = Value.int i t) ∨ (∃ x t, k = Sum.inr x ∧ v = Value.str x t)
  | .inl i, v, h => by
    obtain ⟨t, e⟩ := Value.isInt_shape (k := i) (v := v) h
    exact .inl ⟨i, t, rfl, e⟩
  | .inr x, v, h => by
    obtain ⟨t, e⟩ := Value.isStrOf_shape (x := x) (v := v) h
    exact .inr ⟨x, t, rfl, e⟩
theorem keyIs_int (i : Int) (t : Tok) : keyIs (.inl i) (.int i t) = true := by simp [keyIs, Value.isInt]
theorem keyIs_str (x : Str) (t : Tok) : keyIs (.inr x) (.str x t) = true := by simp [keyIs, Value.isStrOf]
theorem key_ll (a b : Int) : decide ((Sum.inl a : Key) = Sum.inl b) = (a == b) := by
  by_cases e : a = b
  · subst e; simp
  · have h : ¬ (Sum.inl a : Key) = Sum.inl b := fun q => e (Sum.inl.inj q)
    rw [decide_eq_false h]
    exact (beq_eq_false_iff_ne.mpr e).symm
theorem key_rr (a b : Str) : decide ((Sum.inr a : Key) = Sum.inr b) = decide (a = b) := by
  by_cases e : a = b
  · subst e; simp
  · have h : ¬ (Sum.inr a : Key) = Sum.inr b := fun q => e (Sum.inr.inj q)
    rw [decide_eq_false h, decide_eq_false e]
theorem key_lr (a : Int) (b : Str) : decide ((Sum.inl a : Key) = Sum.inr b) = false := decide_eq_false (fun q => nomatch q)
theorem key_rl (a : Str) (b : Int) : decide ((Sum.inr a : Key) = Sum.inl b) = false := decide_eq_false (fun q => nomatch q)
noncomputable def mixKind (prog : Program) (w : World) : PySem.KeyKind prog w Key where
  is := keyIs
  hash := keyH w
  inj := fun v a b ha hb => by
    rcases keyIs_shape ha with ⟨i, t, rfl, rfl⟩ | ⟨x, t, rfl, rfl⟩
    · rcases keyIs_shape hb with ⟨j, u, rfl, e⟩ | ⟨y, u, rfl, e⟩
      · injection e with e1 _; rw [e1]
      · exact nomatch e
    · rcases keyIs_shape hb with ⟨j, u, rfl, e⟩ | ⟨y, u, rfl, e⟩
      · exact nomatch e
      · injection e with e1 _; rw [e1]
  byValue := fun k v h => by
    rcases keyIs_shape h with ⟨i, t, rfl, rfl⟩ | ⟨x, t, rfl, rfl⟩ <;> rfl
  pyHash := fun hv h => by
    rcases keyIs_shape hv with ⟨i, t, rfl, rfl⟩ | ⟨x, t, rfl, rfl⟩
    · exact wpAny_pyHash_int h
    · exact wpAny_pyHash_str h
  eqBool := fun hu hv h => by
    rcases keyIs_shape hu with ⟨i, t, rfl, rfl⟩ | ⟨x, t, rfl, rfl⟩
    · rcases keyIs_shape hv with ⟨j, u, rfl, rfl⟩ | ⟨y, u, rfl, rfl⟩
      · rw [key_ll] at h; exact wpAny_eqBool_int h
      · rw [key_lr] at h; exact SeqAt.EqAt.int_str i t y u _ _ _ _ h
    · rcases keyIs_shape hv with ⟨j, u, rfl, rfl⟩ | ⟨y, u, rfl, rfl⟩
      · rw [key_rl] at h; exact SeqAt.EqAt.str_int x t j u _ _ _ _ h
      · rw [key_rr] at h; exact wpAny_eqBool_str h
  «strs» := fun k x t v h => by
    rcases keyIs_shape h with ⟨i, u, rfl, e⟩ | ⟨y, u, rfl, e⟩
    · exact nomatch e
    · injection e with e1 _
      subst e1
      cases v <;> rfl
theorem mixKind_int (prog : Program) (w : World) (i : Int) (t : Tok) : (mixKind prog w).is (.inl i) (.int i t) = true := keyIs_int i t
theorem mixKind_str (prog : Program) (w : World) (x : Str) (t : Tok) : (mixKind prog w).is (.inr x) (.str x t) = true := keyIs_str x t
end L2
namespace L2
open PySem PySem.Spec PyProof.Rows
inductive V where
  | non | bl (b : Bool) | int (i : Int) | str (x : Str) | byt (b : Array UInt8) | flt (b : UInt64) | ref (a : Addr) | ty (n : String)
  deriving DecidableEq
noncomputable def RelV : V → Value → Prop
  | .non, u => u = Value.none
  | .bl b, u => u = Value.bool b
  | .int i, u => ∃ t, u = Value.int i t
  | .str x, u => ∃ t, u = Value.str x t
  | .byt b, u => ∃ t, u = Value.bytes b t
  | .flt b, u => ∃ t, u = Value.float b t
  | .ref a, u => u = Value.ref a
  | .ty n, u => u = Value.type n
abbrev Vals : List V → List Value → Prop := Paired RelV
theorem Vals.length {xs : List V} {us : List Value} (r : Vals xs us) : xs.length = us.length := Paired.length r
theorem Vals.get : ∀ {xs : List V} {us : List Value} {i : Nat} {x : V}, Vals xs us → xs[i]? = some x → ∃ u, us[i]? = some u ∧ RelV x u
  | _, _, _, _, .nil, e => by simp at e
  | _, _, 0, _, .cons r _, e => by simp at e; subst e; exact ⟨_, rfl, r⟩
  | _, _, i + 1, x, .cons _ t, e => by
    obtain ⟨u, h1, h2⟩ := Vals.get (i := i) (x := x) t (by simpa using e)
    exact ⟨u, by simpa using h1, h2⟩
theorem Vals.set {x : V} {u : Value} (r : RelV x u) : ∀ {xs : List V} {us : List Value} (i : Nat), Vals xs us → Vals (xs.set i x) (us.set i u)
  | _, _, _, .nil => .nil
  | _, _, 0, .cons _ t => .cons r t
  | _, _, i + 1, .cons q t => .cons q (Vals.set r i t)
theorem Vals.append : ∀ {xs ys : List V} {us ws : List Value}, Vals xs us → Vals ys ws → Vals (xs ++ ys) (us ++ ws)
  | _, _, _, _, .nil, s => s
  | _, _, _, _, .cons r t, s => .cons r (Vals.append t s)
theorem Vals.take : ∀ {xs : List V} {us : List Value} (n : Nat), Vals xs us → Vals (xs.take n) (us.take n)
  | _, _, 0, _ => .nil
  | _, _, _ + 1, .nil => .nil
  | _, _, n + 1, .cons r t => .cons r (Vals.take n t)
theorem Vals.drop : ∀ {xs : List V} {us : List Value} (n : Nat), Vals xs us → Vals (xs.drop n) (us.drop n)
  | _, _, 0, r => r
  | _, _, _ + 1, .nil => .nil
  | _, _, n + 1, .cons _ t => Vals.drop n t
noncomputable def RelO : Option V → Option Value → Prop
  | some v, some u => RelV v u
  | none, none => True
  | _, _ => False
noncomputable def KV {κ : Type} : List (κ × V) → List (κ × Value) → Prop := Paired fun (p : κ × V) (q : κ × Value) => p.1 = q.1 ∧ RelV p.2 q.2
noncomputable def kV : Key → V
  | .inl i => .int i
  | .inr x => .str x
inductive HO where
    | lst (xs : List V)
    | tup (xs : List V)
    | dK (kvs : List (Key × V)) | dT (kvs : List (List Key × V))
    | set (S : Int → Bool) (n : Nat)
    | ins (C dx : Addr) (fs : List (Str × V))
    | own (x : Addr)
    | xd (fs : List (Str × V))
    | met (f x : Addr)
    | rng (lo hi : Int)
    | frz (o : Obj) (u : HO)
    | tbl (ps : Array Value)
    | ext (φ : Heap → Prop)
abbrev Hp := Addr → Option HO
noncomputable def upd (H : Hp) (a : Addr) (o : HO) : Hp := fun b => if b = a then some o else H b
theorem upd_same {H : Hp} {a : Addr} {o : HO} : upd H a o a = some o := by unfold upd; rw [if_pos rfl]
theorem upd_ne {H : Hp} {a b : Addr} {o : HO} (h : b ≠ a) : upd H a o b = H b := by unfold upd; rw [if_neg h]
theorem ne_of {H : Hp} {a b : Addr} {o u : HO} (h : H a = some o) (h' : H b = some u) (d : o ≠ u) : a ≠ b := by
  intro e; subst e; rw [h] at h'; exact d (Option.some.inj h')
theorem ne_of_none {H : Hp} {a b : Addr} {o : HO} (h : H a = some o) (h' : H b = none) : a ≠ b := by
  intro e; subst e; rw [h] at h'; cases h'
noncomputable def TupN (h : Heap) (a : Addr) (items : Array Value) : Prop := ∃ o, h.get? a = some o ∧ o.cls = .type "tuple" ∧ ∃ n, o.data = .seq items n ∧ o.dict = none
theorem TupN.tup {h : Heap} {a : Addr} {items : Array Value} (x : TupN h a items) : IsTup h a items := let ⟨o, e, c, n, d, _⟩ := x; ⟨o, e, c, n, d⟩
theorem TupN.new (h : Heap) (items : Array Value) : TupN (h.push { cls := .type "tuple", data := .seq items }) h.objs.size items := ⟨_, Heap.get?_push_size _ rfl, rfl, _, rfl, rfl⟩
section
variable (P : Program) (w : World)
noncomputable def ObjOk (H : Hp) (h : Heap) (a : Addr) : HO → Prop
  | .lst xs => xs.length ≤ sizeLine ∧ ∃ (its : List Value) (n : Nat), Vals xs its ∧ h.get? a = some { cls := .type "list", data := .seq its.toArray n }
  | .tup xs => xs.length ≤ sizeLine ∧ ∃ its : List Value, Vals xs its ∧ TupN h a its.toArray
  | .dK kvs => kvs.length ≤ sizeLine ∧ (a == sysModules) = false ∧ ∃ vs, KV kvs vs ∧ h.DictOf (mixKind P w) a vs
  | .dT kvs => kvs.length ≤ sizeLine ∧ (a == sysModules) = false ∧ ∃ xs : List (List Key × Addr × Value),
      Paired (fun (p : List Key × V) (q : List Key × Addr × Value) => p.1 = q.1 ∧ H q.2.1 = some (.tup (p.1.map kV)) ∧ RelV p.2 q.2.2) kvs xs ∧
      ∃ o es ep, h.get? a = some o ∧ o.ExactDict ∧ o.data = .dict es ep ∧ es.toList = xs.map (entryOfKey (tupleKind (mixKind P w))) ∧ (xs.map (·.1)).Nodup
  | .set S n => h.SetOf (intKind P w) a S n
  | .ins C dx fs => H dx = some (.own a) ∧ fs.length ≤ 1000 ∧ dx ≠ a ∧ h.get? a = some (PySem.W.instObj C dx) ∧
      ∃ mA, h.Ns1 dx mA ∧ (∀ f, RelO (fs.lookup f) (mA f)) ∧ PySem.Within mA (fs.map (·.1))
  | .own _ => ∃ o, h.get? a = some o
  | .xd fs => ∃ mA, h.Ns1 a mA ∧ ∀ f, RelO (fs.lookup f) (mA f)
  | .rng lo hi => ∃ t u v, h.get? a = some { cls := .type "range", data := .fields #[.int lo t, .int hi u, .int 1 v] }
  | .frz o u => h.get? a = some o ∧ ObjOk H h a u
  | .tbl ps => h.get? a = some { cls := .none, data := .fields ps }
  | .met f x => h.get? a = some (PySem.W.methodObj (.ref f) (.ref x))
  | .ext φ => φ h ∧ (∃ o, h.get? a = some o) ∧ ∀ h1 h2 : Heap, φ h1 → (∀ o, h1.get? a = some o → h2.get? a = some o) → φ h2
noncomputable def HOk (H : Hp) (h : Heap) : Prop := ∀ a o, H a = some o → ObjOk P w H h a o
end
section
variable {P : Program} {w : World} {H H' : Hp} {h h' : Heap} {a : Addr} {o : HO}
theorem ObjOk.lt (x : ObjOk P w H h a o) : a < h.objs.size := by
  cases o with
  | lst xs => obtain ⟨_, _, _, _, e⟩ := x; exact Heap.lt_size e
  | tup xs => obtain ⟨_, _, _, p⟩ := x; exact p.tup.lt
  | dK kvs => obtain ⟨_, _, _, _, o, _, _, e, _⟩ := x; exact Heap.lt_size e
  | dT kvs => obtain ⟨_, _, _, _, o, _, _, e, _⟩ := x; exact Heap.lt_size e
  | set S n => obtain ⟨o, _, _, _, e, _⟩ := x; exact Heap.lt_size e
  | ins C dx fs => obtain ⟨_, _, _, e, _⟩ := x; exact Heap.lt_size e
  | own y => obtain ⟨_, e⟩ := x; exact Heap.lt_size e
  | xd fs => obtain ⟨_, ⟨_, _, _, e, _⟩, _⟩ := x; exact Heap.lt_size e
  | rng lo hi => obtain ⟨_, _, _, e⟩ := x; exact Heap.lt_size e
  | frz ob u => obtain ⟨e, _⟩ := x; exact Heap.lt_size e
  | tbl ps => exact Heap.lt_size (show h.get? a = some _ from x)
  | met f y => exact Heap.lt_size (show h.get? a = some _ from x)
  | ext φ => obtain ⟨_, ⟨_, e⟩, _⟩ := x; exact Heap.lt_size e
theorem Paired.mapP {α β : Type} {F G : α → β → Prop} : ∀ {l₁ : List α} {l₂ : List β}, Paired F l₁ l₂ → (∀ a b, F a b → G a b) → Paired G l₁ l₂
  | _, _, .nil, _ => .nil
  | _, _, .cons r t, f => .cons (f _ _ r) (Paired.mapP t f)
theorem ObjOk.stay (x : ObjOk P w H h a o) (k : ∀ b u, (b = a ∨ H b = some (.own a)) → h.get? b = some u → h'.get? b = some u)
    (ho : ∀ b, H b = some (.own a) → H' b = some (.own a)) (ht : ∀ b xs, H b = some (.tup xs) → H' b = some (.tup xs)) : ObjOk P w H' h' a o := by
  induction o with
  | lst xs => obtain ⟨z, its, n, r, e⟩ := x; exact ⟨z, its, n, r, k _ _ (.inl rfl) e⟩
  | tup xs => obtain ⟨z, its, r, ob, e, c⟩ := x; exact ⟨z, its, r, ob, k _ _ (.inl rfl) e, c⟩
  | dK kvs => obtain ⟨z, y, vs, r, ob, es, ep, e, c⟩ := x; exact ⟨z, y, vs, r, ob, es, ep, k _ _ (.inl rfl) e, c⟩
  | dT kvs =>
    obtain ⟨z, y, xs, r, ob, es, ep, e, c⟩ := x
    exact ⟨z, y, xs, Paired.mapP r fun p q z => ⟨z.1, ht _ _ z.2.1, z.2.2⟩, ob, es, ep, k _ _ (.inl rfl) e, c⟩
  | set S n => obtain ⟨ob, es, ep, t, e, c⟩ := x; exact ⟨ob, es, ep, t, k _ _ (.inl rfl) e, c⟩
  | ins C dx fs =>
    obtain ⟨d, z, ne, e, mA, ⟨od, es, ep, e2, c⟩, r⟩ := x
    exact ⟨ho _ d, z, ne, k _ _ (.inl rfl) e, mA, ⟨od, es, ep, k _ _ (.inr d) e2, c⟩, r⟩
  | own y => obtain ⟨ob, e⟩ := x; exact ⟨ob, k _ _ (.inl rfl) e⟩
  | xd fs => obtain ⟨mA, ⟨od, es, ep, e, c⟩, r⟩ := x; exact ⟨mA, ⟨od, es, ep, k _ _ (.inl rfl) e, c⟩, r⟩
  | rng lo hi => obtain ⟨t, u, v, e⟩ := x; exact ⟨t, u, v, k _ _ (.inl rfl) e⟩
  | frz ob u ih => obtain ⟨e, q⟩ := x; exact ⟨k _ _ (.inl rfl) e, ih q⟩
  | tbl ps =>
    have e : h.get? a = some { cls := .none, data := .fields ps } := x
    show h'.get? a = some { cls := .none, data := .fields ps }
    exact k a _ (.inl rfl) e
  | met f y =>
    have e : h.get? a = some (PySem.W.methodObj (.ref f) (.ref y)) := x
    show h'.get? a = some (PySem.W.methodObj (.ref f) (.ref y))
    exact k a _ (.inl rfl) e
  | ext φ => obtain ⟨p, ⟨o, e⟩, st⟩ := x; exact ⟨st _ _ p fun o q => k _ _ (.inl rfl) q, ⟨o, k _ _ (.inl rfl) e⟩, st⟩
theorem HOk.lt (x : HOk P w H h) (e : H a = some o) : a < h.objs.size := (x a o e).lt
theorem HOk.fresh (x : HOk P w H h) (e : h.objs.size ≤ a) : H a = none := by
  cases q : H a with
  | none => rfl
  | some u => exact absurd (Nat.lt_of_lt_of_le (x.lt q) e) (Nat.lt_irrefl _)
theorem HOk.kept (x : HOk P w H h) (k : ∀ b u, h.get? b = some u → h'.get? b = some u) : HOk P w H h' := fun a o e =>
  (x a o e).stay (fun b u _ q => k b u q) (fun _ q => q) fun _ _ q => q
theorem HOk.laid (x : HOk P w H h) (k : ∀ b u, h.get? b = some u → h'.get? b = some u) (hp : h.objs.size ≤ a) (new : ObjOk P w (upd H a o) h' a o) : HOk P w (upd H a o) h' := fun b u e => by
  have hn := x.fresh hp
  by_cases hb : b = a
  · subst hb; rw [upd_same] at e; cases e; exact new
  · rw [upd_ne hb] at e
    exact (x b u e).stay (fun c v _ q => k c v q) (fun c q => by rw [upd_ne (ne_of_none q hn)]; exact q) fun c xs q => by rw [upd_ne (ne_of_none q hn)]; exact q
end
noncomputable def Rd (H : Hp) (a : Addr) (u : HO) : Prop := H a = some u ∨ ∃ o, H a = some (.frz o u)
theorem Rd.of {H : Hp} {a : Addr} {u : HO} (h : H a = some u) : Rd H a u := .inl h
theorem Rd.ok {P : Program} {w : World} {H : Hp} {h : Heap} {a : Addr} {u : HO} (r : Rd H a u) (x : HOk P w H h) : ObjOk P w H h a u := by
  rcases r with r | ⟨o, r⟩
  · exact x a u r
  · obtain ⟨_, q⟩ := x a _ r
    exact q
noncomputable def Mut : Option HO → Prop
  | some (.lst _) => True
  | some (.dK _) => True
  | some (.dT _) => True
  | some (.set _ _) => True
  | some (.ins _ _ _) => True
  | some (.ext _) => True
  | _ => False
section
variable {P : Program} {w : World} {H : Hp} {h h' : Heap} {x e : Addr} {o' : HO}
theorem HOk.write (ok : HOk P w H h) (mu : Mut (H x)) (he : e = x ∨ H e = some (.own x)) (k : ∀ b u, b ≠ e → h.get? b = some u → h'.get? b = some u) (heo : ∃ u, h'.get? e = some u)
    (new : ObjOk P w (upd H x o') h' x o') : HOk P w (upd H x o') h' := fun b u q => by
  have nown : ∀ c y, H c = some (.own y) → c ≠ x := fun c y r z => by subst z; rw [r] at mu; exact mu
  have ntup : ∀ c xs, H c = some (.tup xs) → c ≠ x := fun c xs r z => by subst z; rw [r] at mu; exact mu
  by_cases hb : b = x
  · subst hb; rw [upd_same] at q; cases q; exact new
  · rw [upd_ne hb] at q
    by_cases hbe : b = e
    · have q' : H b = some (.own x) := by
        rcases he with z | z
        · exact absurd (hbe.trans z) hb
        · rw [hbe]; exact z
      rw [q] at q'; cases q'
      obtain ⟨v, hv⟩ := heo
      exact ⟨v, by rw [hbe]; exact hv⟩
    · refine (ok b u q).stay (fun c v hc r => k c v ?_ r) (fun c r => by rw [upd_ne (nown c b r)]; exact r) fun c xs r => by rw [upd_ne (ntup c xs r)]; exact r
      rcases hc with rfl | hc
      · exact hbe
      · rintro rfl
        rcases he with z | z
        · exact nown c b hc z
        · rw [hc] at z; cases z; exact hb rfl
end
structure Un (fs ex : List Addr) (H H' : Hp) (h h' : Heap) : Prop where
  keep : ∀ b o, h.get? b = some o → H b = none → b ∉ fs → b ∉ ex → h'.get? b = some o
  slot : ∀ b o, h.get? b = some o → H b = none → b ∈ fs → b ∉ ex → ∃ sl, h'.get? b = some { o with slots := sl }
  free : ∀ b o, h.get? b = some o → H b = none → b ∉ ex → H' b = none
  there : ∀ b o, h.get? b = some o → b ∉ ex → ∃ o', h'.get? b = some o'
  tups : ∀ b xs, H b = some (.tup xs) → H' b = some (.tup xs)
  frzs : ∀ b o u, H b = some (.frz o u) → H' b = some (.frz o u)
  tbls : ∀ b ps, H b = some (.tbl ps) → ∃ more, H' b = some (.tbl (ps ++ more))
section
variable {fs fs' ex ex' : List Addr} {H H1 H2 : Hp} {h h1 h2 h' : Heap} {a x e : Addr} {o : HO}
theorem Un.any (u : Un fs ex H H1 h h1) {b : Addr} {ob : Obj} (q : h.get? b = some ob) (n : H b = none) (hx : b ∉ ex) : ∃ sl, h1.get? b = some { ob with slots := sl } := by
  by_cases hb : b ∈ fs
  · exact u.slot b ob q n hb hx
  · exact ⟨ob.slots, u.keep b ob q n hb hx⟩
theorem Un.trans (a : Un fs ex H H1 h h1) (b : Un fs ex H1 H2 h1 h2) : Un fs ex H H2 h h2 where
  keep := fun c ob q n hc hx => b.keep c ob (a.keep c ob q n hc hx) (a.free c ob q n hx) hc hx
  slot := fun c ob q n hc hx => by
    obtain ⟨sl, e1⟩ := a.slot c ob q n hc hx
    obtain ⟨sl', e2⟩ := b.slot c _ e1 (a.free c ob q n hx) hc hx
    exact ⟨sl', e2⟩
  free := fun c ob q n hx => by
    obtain ⟨o', e1⟩ := a.there c ob q hx
    exact b.free c o' e1 (a.free c ob q n hx) hx
  there := fun c ob q hx => by
    obtain ⟨o', e1⟩ := a.there c ob q hx
    exact b.there c o' e1 hx
  tups := fun c xs q => b.tups c xs (a.tups c xs q)
  frzs := fun c ob xs q => b.frzs c ob xs (a.frzs c ob xs q)
  tbls := fun c ps q => by
    obtain ⟨m1, e1⟩ := a.tbls c ps q
    obtain ⟨m2, e2⟩ := b.tbls c _ e1
    exact ⟨m1 ++ m2, by rw [e2, Array.append_assoc]⟩
theorem Un.kept (k : ∀ b u, h.get? b = some u → h'.get? b = some u) : Un fs ex H H h h' :=
  ⟨fun b ob q _ _ _ => k b ob q, fun b ob q _ _ _ => ⟨ob.slots, k b ob q⟩, fun _ _ _ n _ => n, fun b ob q _ => ⟨ob, k b ob q⟩, fun _ _ q => q, fun _ _ _ q => q, fun _ ps q => ⟨#[], by rw [q]; simp⟩⟩
theorem Un.refl : Un fs ex H H h h := Un.kept fun _ _ q => q
theorem Un.laid (k : ∀ b u, h.get? b = some u → h'.get? b = some u) (hp : h.objs.size ≤ a) (hn : H a = none) : Un fs ex H (upd H a o) h h' where
  keep := fun b u q _ _ _ => k b u q
  slot := fun b u q _ _ _ => ⟨u.slots, k b u q⟩
  free := fun b u q n _ => by rw [upd_ne (Nat.ne_of_lt (Nat.lt_of_lt_of_le (Heap.lt_size q) hp))]; exact n
  there := fun b u q _ => ⟨u, k b u q⟩
  tups := fun b xs q => by rw [upd_ne (ne_of_none q hn)]; exact q
  frzs := fun b u xs q => by rw [upd_ne (ne_of_none q hn)]; exact q
  tbls := fun b ps q => ⟨#[], by rw [upd_ne (ne_of_none q hn), q]; simp⟩
theorem Un.write (mu : Mut (H x)) (he : e = x ∨ H e = some (.own x)) (k : ∀ b u, b ≠ e → h.get? b = some u → h'.get? b = some u) (heo : ∃ u, h'.get? e = some u) : Un fs ex H (upd H x o) h h' := by
  have hx : ∀ b, H b = none → b ≠ x := fun b n z => by subst z; rw [n] at mu; exact mu
  have hb : ∀ b, H b = none → b ≠ e := fun b n z => by
    subst z
    rcases he with r | r
    · exact hx b n r
    · rw [n] at r; cases r
  have hm : ∀ b u, H b = some u → ¬ Mut (some u) → b ≠ x := fun b u q nm z => by subst z; rw [q] at mu; exact nm mu
  refine ⟨fun b u q n _ _ => k b u (hb b n) q, fun b u q n _ _ => ⟨u.slots, k b u (hb b n) q⟩, fun b u q n _ => by rw [upd_ne (hx b n)]; exact n, fun b u q _ => ?_,
    fun b xs q => by rw [upd_ne (hm b _ q fun z => z)]; exact q, fun b u xs q => by rw [upd_ne (hm b _ q fun z => z)]; exact q, fun b ps q => ⟨#[], by rw [upd_ne (hm b _ q fun z => z), q]; simp⟩⟩
  by_cases hbe : b = e
  · subst hbe; exact heo
  · exact ⟨u, k b u hbe q⟩
theorem Un.mono (u : Un fs ex H H1 h h1) (hs : ∀ b ∈ fs, b ∈ fs') (hx : ∀ b ∈ ex, b ∈ ex') : Un fs' ex' H H1 h h1 :=
  ⟨fun b ob q n hb he => u.keep b ob q n (fun z => hb (hs b z)) fun z => he (hx b z), fun _ _ q n _ he => u.any q n fun z => he (hx _ z), fun b ob q n he => u.free b ob q n fun z => he (hx b z), fun b ob q he => u.there b ob q fun z => he (hx b z), u.tups, u.frzs, u.tbls⟩
end
noncomputable def trk (h : Heap) (H : Hp) : List Addr := (List.range h.objs.size).filter fun a => (H a).isSome
noncomputable def hidT (h : Heap) (H : Hp) : Heap := PySem.W.hideAll h (trk h H)
theorem hidT_size (h : Heap) (H : Hp) : (hidT h H).objs.size = h.objs.size := PySem.W.hideAll_size _ _
theorem hidT_get {h : Heap} {H : Hp} {b : Addr} {o : Obj} (e : h.get? b = some o) (n : H b = none) : (hidT h H).get? b = some o :=
  PySem.W.hideAll_get _ e fun hm => by
    have q : (H b).isSome = true := (List.mem_filter.mp hm).2
    rw [n] at q; simp at q
theorem of_hidT {h : Heap} {H : Hp} {b : Addr} {o : Obj} (e : (hidT h H).get? b = some o) : h.get? b = some o ∧ H b = none := by
  have e' : h.get? b = some o := PySem.W.of_hideAll (trk h H) e
  refine ⟨e', ?_⟩
  cases q : H b with
  | none => rfl
  | some x =>
    have hm : b ∈ trk h H := List.mem_filter.mpr ⟨List.mem_range.mpr (Heap.lt_size e'), by simp [q]⟩
    have z : (hidT h H).get? b = none := PySem.W.hideAll_none (trk h H) hm
    rw [z] at e; cases e
noncomputable def allNews (g h : Heap) (L : Addr) : List (Addr × Obj) := (List.range h.objs.size).filterMap fun a => if a = L ∨ (g.get? a).isSome = true then none else (h.get? a).map fun o => (a, o)
noncomputable def rest (g h : Heap) (L d : Addr) : List (Addr × Obj) := (allNews g h L).filter fun p => decide (p.1 ≠ d)
end L2
namespace L2
open PySem PySem.Spec PyProof.Rows
structure Mod (K : PySem.W.Frag) (mg : Str → Option Value) (base : Heap) : Prop where
  kin : K.In base
  glob : base.Ns mainGlobals mg
  blt : ∃ mb, base.Ns builtinsNs mb ∧ ∀ x : Str, x ≠ "__name__" → mb x = bootBuiltins x
  nolimit : base.NoLimit
structure Cx where
  prog : Program
  w : World
  K : PySem.W.Frag
  mg : Str → Option Value
  base : Heap
  A : Around
  N : List Str
  s₀ : Shared
  H₀ : Hp
  env : Env
  outer : List Env
  stack : List Env
  ex : List Addr
  fn : Str → Bool
  calm : Bool
  pn : List (Addr × Obj)
  xe : Value → Shared → Prop
noncomputable def frs (l : List Env) : List Addr := l.filterMap (·.frame)
abbrev Cx.fs (X : Cx) : List Addr := frs X.outer
noncomputable def Vis (sc : Scope) (x : Str) : Prop := sc.names.lookup x = some .local ∨ sc.names.lookup x = some .cell ∨ sc.names.lookup x = some .free
noncomputable def Loc (sc : Scope) (x : Str) : Prop := sc.names.lookup x = some .local ∨ sc.names.lookup x = some .cell
noncomputable def Look (env : Env) (h : Heap) (m : Str → Option Value) (x : Str) (u : Value) : Prop :=
  (env.kindOf x = some .local ∧ m x = some u) ∨ ((env.kindOf x = some .cell ∨ env.kindOf x = some .free) ∧ ∃ c, env.cells.lookup x = some c ∧ h.IsCell c (some u))
structure Cx.Ok (X : Cx) : Prop where
  mod : Mod X.K X.mg X.base
  kind : X.env.scope.kind = .function
  glob : X.env.globals = mainGlobals
  blt : X.env.builtins = builtinsNs
  above : X.s₀.heap.objs.size ≤ X.env.locals
  inj : ∀ x y c, X.env.cells.lookup x = some c → X.env.cells.lookup y = some c → x = y
  has : ∀ x, (X.env.kindOf x = some .cell ∨ X.env.kindOf x = some .free) → ∃ c, X.env.cells.lookup x = some c
  cab : ∀ x c, X.fn x = true → X.env.cells.lookup x = some c → X.s₀.heap.objs.size ≤ c
  hd : X.calm = true → X.A.handled = none
  frames : X.A.frames = some X.stack
  stk : X.stack = X.outer ∨ (X.stack = X.env :: X.outer ∧ X.env.frame = some X.env.locals)
  exf : ∀ b ∈ X.ex, b ≠ X.env.locals ∧ ∀ x c, X.env.cells.lookup x = some c → c ≠ b
  bs : ∀ b o, X.base.get? b = some o → X.s₀.heap.get? b = some o ∧ X.H₀ b = none
  bsz : X.base.objs.size ≤ X.s₀.heap.objs.size
  noex : ∀ b o, X.base.get? b = some o → b ∉ X.ex
  exfs : ∀ b ∈ X.ex, b ∉ X.fs
  funs : X.s₀.heap.FunFrames X.base X.outer
  frf : ∀ b ∈ X.fs, X.H₀ b = none
structure Inv (X : Cx) (pins : List (Addr × Obj)) (σ : List (Option V)) (H : Hp) (s : Shared) : Prop where
  ok : X.Ok
  os : s.os = X.s₀.os
  bare : AllBare s.gens
  base : Un X.fs X.ex X.H₀ H X.s₀.heap s.heap
  loc : ∃ m, s.heap.Ns X.env.locals m ∧ ∀ (i : Nat) (x : Str) (v : V), X.N[i]? = some x → σ[i]? = some (some v) → Vis X.env.scope x → ∃ u, RelV v u ∧ Look X.env s.heap m x u
  cell : ∀ x c, X.env.cells.lookup x = some c → ∃ v, s.heap.IsCell c v
  free : H X.env.locals = none
  freeC : ∀ x c, X.env.cells.lookup x = some c → H c = none
  pin : ∀ p ∈ X.pn ++ pins, s.heap.get? p.1 = some p.2 ∧ H p.1 = none ∧ p.1 ≠ X.env.locals ∧ p.1 ∉ X.fs ∧ ∀ v, p.2.data ≠ .cell v
  hok : HOk X.prog X.w H s.heap
  len : σ.length = X.N.length
section
variable {X : Cx} {pins : List (Addr × Obj)} {σ : List (Option V)} {H H' : Hp} {s : Shared} {h' : Heap}
theorem Cx.Ok.nofr (ok : X.Ok) {b : Addr} {o : Obj} (e : X.base.get? b = some o) : b ∉ X.fs := fun hb => by
  have := (ok.funs.mem hb).1
  rw [e] at this; cases this
theorem Inv.bs (I : Inv X pins σ H s) : ∀ b o, X.base.get? b = some o → s.heap.get? b = some o ∧ H b = none := fun b o e =>
  ⟨I.base.keep b o (I.ok.bs b o e).1 (I.ok.bs b o e).2 (I.ok.nofr e) (I.ok.noex b o e), I.base.free b o (I.ok.bs b o e).1 (I.ok.bs b o e).2 (I.ok.noex b o e)⟩
theorem Inv.bk (I : Inv X pins σ H s) : ∀ b o, X.base.get? b = some o → s.heap.get? b = some o := fun b o e => (I.bs b o e).1
theorem Inv.mod (I : Inv X pins σ H s) : Mod X.K X.mg X.base := I.ok.mod
theorem Inv.kIn (I : Inv X pins σ H s) : X.K.In s.heap := I.ok.mod.kin.keeps I.bk
theorem Inv.nolimit (I : Inv X pins σ H s) : s.heap.NoLimit := I.ok.mod.nolimit.keeps I.bk
theorem Inv.fr (I : Inv X pins σ H s) : ∃ m, Fr X.base X.env.locals s.heap m :=
  let ⟨m, hn, _⟩ := I.loc
  ⟨m, hn, I.bk, Nat.le_trans I.ok.bsz I.ok.above⟩
theorem Inv.lt (I : Inv X pins σ H s) : X.env.locals < s.heap.objs.size := let ⟨_, hn, _⟩ := I.loc; hn.lt
theorem Inv.sz (I : Inv X pins σ H s) : X.s₀.heap.objs.size ≤ s.heap.objs.size := Nat.le_trans I.ok.above (Nat.le_of_lt I.lt)
theorem Inv.nofs (I : Inv X pins σ H s) {a : Addr} (h : s.heap.objs.size ≤ a) : a ∉ X.fs := fun hb => by
  obtain ⟨_, o, ho, _⟩ := I.ok.funs.mem hb
  exact absurd (Nat.lt_of_lt_of_le (Heap.lt_size ho) (Nat.le_trans I.sz h)) (Nat.lt_irrefl _)
theorem Inv.cne (I : Inv X pins σ H s) : ∀ x c, X.env.cells.lookup x = some c → c ≠ X.env.locals := fun x c e z => by
  obtain ⟨v, o, ho, hd⟩ := I.cell x c e
  obtain ⟨m, ⟨o', es, ep, ho', hd', _⟩, _⟩ := I.loc
  rw [z, ho'] at ho; cases ho; rw [hd'] at hd; cases hd
theorem Inv.funs (I : Inv X pins σ H s) : s.heap.FunFrames X.base X.outer := by
  have all : ∀ (l : List Env), (∀ b ∈ frs l, b ∈ X.fs) → X.s₀.heap.FunFrames X.base l → s.heap.FunFrames X.base l := by
    intro l
    induction l with
    | nil => intro _ _; trivial
    | cons env r ih =>
      intro hs hl
      obtain ⟨hk, ⟨L, o, hf, hn, ho, hd⟩, hr⟩ := hl
      have hL : L ∈ X.fs := hs L (by unfold frs; rw [List.filterMap_cons, hf]; exact List.mem_cons_self)
      obtain ⟨sl, e⟩ := I.base.slot L o ho (I.ok.frf L hL) hL fun z => I.ok.exfs L z hL
      exact ⟨hk, ⟨L, _, hf, hn, e, hd⟩, ih (fun b hb => hs b (by unfold frs; rw [List.filterMap_cons, hf]; exact List.mem_cons_of_mem _ hb)) hr⟩
  exact all X.outer (fun _ hb => hb) I.ok.funs
theorem Inv.stack (I : Inv X pins σ H s) : s.heap.FunFrames X.base X.stack := by
  rcases I.ok.stk with e | ⟨e, hf⟩
  · rw [e]; exact I.funs
  · rw [e]
    obtain ⟨m, hn, _⟩ := I.loc
    refine .cons (by rw [I.ok.kind]; decide) hf hn ?_ I.funs
    exact Heap.get?_none_of_le (Nat.le_trans I.ok.bsz I.ok.above)
theorem Inv.stkSub (I : Inv X pins σ H s) : ∀ b ∈ frs X.stack, b ∈ X.env.locals :: X.fs := fun b hb => by
  rcases I.ok.stk with e | ⟨e, hf⟩
  · rw [e] at hb; exact List.mem_cons_of_mem _ hb
  · rw [e] at hb
    unfold frs at hb
    rw [List.filterMap_cons, hf] at hb
    exact hb
theorem Inv.stkFree (I : Inv X pins σ H s) : ∀ b ∈ frs X.stack, H b = none := fun b hb => by
  rcases List.mem_cons.mp (I.stkSub b hb) with e | hb
  · rw [e]; exact I.free
  · obtain ⟨_, o, ho, _⟩ := I.ok.funs.mem hb
    exact I.base.free b o ho (I.ok.frf b hb) fun z => I.ok.exfs b z hb
theorem Inv.step {g' : Array GenState} {t' : Nat} {d' : Drawn} {ch : List Addr} (I : Inv X pins σ H s)
    (hch : ∀ b ∈ ch, (b ∈ X.ex ∨ X.s₀.heap.objs.size ≤ b) ∧ b ≠ X.env.locals ∧ (∀ x c, X.env.cells.lookup x = some c → c ≠ b) ∧ ∀ p ∈ X.pn ++ pins, p.1 ≠ b)
    (keep : ∀ b o, b ≠ X.env.locals → b ∉ X.fs → b ∉ ch → s.heap.get? b = some o → H b = none → h'.get? b = some o)
    (slot : ∀ b o, b ≠ X.env.locals → b ∈ X.fs → b ∉ ch → s.heap.get? b = some o → H b = none → ∃ sl, h'.get? b = some { o with slots := sl }) (free : ∀ b o, b ∉ ch → s.heap.get? b = some o → H b = none → H' b = none)
    (there : ∀ b o, b ∉ ch → s.heap.get? b = some o → ∃ o', h'.get? b = some o')
    (tups : ∀ b xs, H b = some (.tup xs) → H' b = some (.tup xs)) (frzs : ∀ b o u, H b = some (.frz o u) → H' b = some (.frz o u)) (tbls : ∀ b ps, H b = some (.tbl ps) → ∃ more, H' b = some (.tbl (ps ++ more)))
    (ns : ∀ m, s.heap.Ns X.env.locals m → h'.Ns X.env.locals m) (hok : HOk X.prog X.w H' h') (hg : AllBare g') :
    Inv X pins σ H' { s with heap := h', gens := g', drawn := d', toks := t' } := by
  have neL : ∀ b o, X.s₀.heap.get? b = some o → b ≠ X.env.locals := fun b o e => Nat.ne_of_lt (Nat.lt_of_lt_of_le (Heap.lt_size e) I.ok.above)
  have neC : ∀ b o, X.s₀.heap.get? b = some o → b ∉ X.ex → b ∉ ch := fun b o e hx hb => by
    rcases (hch b hb).1 with z | z
    · exact hx z
    · exact absurd (Nat.lt_of_lt_of_le (Heap.lt_size e) z) (Nat.lt_irrefl _)
  have cellK : ∀ x c, X.env.cells.lookup x = some c → ∀ v, s.heap.IsCell c v → h'.IsCell c v := fun x c e v ⟨o, ho, hd⟩ => by
    have nch : c ∉ ch := fun z => (hch c z).2.2.1 x c e rfl
    by_cases hc : c ∈ X.fs
    · obtain ⟨sl, q⟩ := slot c o (I.cne x c e) hc nch ho (I.freeC x c e)
      exact ⟨_, q, hd⟩
    · exact ⟨o, keep c o (I.cne x c e) hc nch ho (I.freeC x c e), hd⟩
  refine ⟨I.ok, I.os, hg, ⟨fun b o e n hb hx => ?_, fun b o e n hb hx => ?_, fun b o e n hx => ?_, fun b o e hx => ?_, fun b xs e => tups b xs (I.base.tups b xs e), fun b o xs e => frzs b o xs (I.base.frzs b o xs e), fun b ps e => ?_⟩, ?_, fun x c e => ?_, ?_, fun x c e => ?_, fun p hp => ?_, hok, I.len⟩
  · exact keep b o (neL b o e) hb (neC b o e hx) (I.base.keep b o e n hb hx) (I.base.free b o e n hx)
  · obtain ⟨sl, e1⟩ := I.base.slot b o e n hb hx
    obtain ⟨sl', e2⟩ := slot b _ (neL b o e) hb (neC b o e hx) e1 (I.base.free b o e n hx)
    exact ⟨sl', e2⟩
  · obtain ⟨o', e1⟩ := I.base.there b o e hx
    exact free b o' (neC b o e hx) e1 (I.base.free b o e n hx)
  · obtain ⟨o', e1⟩ := I.base.there b o e hx
    exact there b o' (neC b o e hx) e1
  · obtain ⟨m1, e1⟩ := I.base.tbls b ps e
    obtain ⟨m2, e2⟩ := tbls b _ e1
    exact ⟨m1 ++ m2, by rw [e2, Array.append_assoc]⟩
  · obtain ⟨m, hn, hl⟩ := I.loc
    refine ⟨m, ns m hn, fun i x v e1 e2 e3 => ?_⟩
    obtain ⟨u, r, l⟩ := hl i x v e1 e2 e3
    refine ⟨u, r, ?_⟩
    rcases l with l | ⟨k, c, e, z⟩
    · exact .inl l
    · exact .inr ⟨k, c, e, cellK x c e _ z⟩
  · obtain ⟨v, z⟩ := I.cell x c e
    exact ⟨v, cellK x c e v z⟩
  · obtain ⟨m, ⟨o, _, _, ho, _⟩, _⟩ := I.loc
    exact free _ o (fun z => (hch _ z).2.1 rfl) ho I.free
  · obtain ⟨v, o, ho, hd⟩ := I.cell x c e
    exact free c o (fun z => (hch c z).2.2.1 x c e rfl) ho (I.freeC x c e)
  · obtain ⟨e, n, ne, nf, d⟩ := I.pin p hp
    have nch : p.1 ∉ ch := fun z => (hch p.1 z).2.2.2 p hp rfl
    exact ⟨keep p.1 p.2 ne nf nch e n, free p.1 p.2 nch e n, ne, nf, d⟩
theorem Inv.un {t' : Nat} (I : Inv X pins σ H s) (u : Un X.fs [] H H' s.heap h') (hok : HOk X.prog X.w H' h') : Inv X pins σ H' { s with heap := h', toks := t' } := by
  obtain ⟨m, ⟨o, es, ep, ho, r⟩, _⟩ := id I.loc
  obtain ⟨sl, hL⟩ := u.any ho I.free (by simp)
  exact I.step (g' := s.gens) (d' := s.drawn) (ch := []) (fun _ z => nomatch z) (fun b o _ hb _ e n => u.keep b o e n hb (by simp)) (fun b o _ hb _ e n => u.slot b o e n hb (by simp)) (fun b o _ e n => u.free b o e n (by simp)) (fun b o _ e => u.there b o e (by simp)) u.tups u.frzs u.tbls (fun m' hm => by
    obtain ⟨o', es', ep', ho', r'⟩ := hm
    rw [ho] at ho'; cases ho'
    exact ⟨_, es', ep', hL, r'⟩) hok I.bare
theorem Inv.call {g' : Array GenState} {t' : Nat} {d' : Drawn} {ch : List Addr} (I : Inv X pins σ H s) (u : Un (frs X.stack) ch H H' s.heap h') (hok : HOk X.prog X.w H' h') (hg : AllBare g')
    (hch : ∀ b ∈ ch, (b ∈ X.ex ∨ X.s₀.heap.objs.size ≤ b) ∧ b ≠ X.env.locals ∧ (∀ x c, X.env.cells.lookup x = some c → c ≠ b) ∧ ∀ p ∈ X.pn ++ pins, p.1 ≠ b) :
    Inv X pins σ H' { s with heap := h', gens := g', drawn := d', toks := t' } := by
  obtain ⟨m, ⟨o, es, ep, ho, r⟩, _⟩ := id I.loc
  obtain ⟨sl, hL⟩ := u.any ho I.free fun z => (hch _ z).2.1 rfl
  exact I.step (ch := ch) hch (fun b o hL hb hc e n => u.keep b o e n (fun z => (List.mem_cons.mp (I.stkSub b z)).elim hL hb) hc) (fun b o _ _ hc e n => u.any e n hc) (fun b o hc e n => u.free b o e n hc) (fun b o hc e => u.there b o e hc) u.tups u.frzs u.tbls (fun m' hm => by
    obtain ⟨o', es', ep', ho', r'⟩ := hm
    rw [ho] at ho'; cases ho'
    exact ⟨_, es', ep', hL, r'⟩) hok hg
theorem Inv.turned {t' : Nat} {it : Addr} (I : Inv X pins σ H s) (k : ∀ b o, b ≠ it → s.heap.get? b = some o → h'.get? b = some o) (hn : H it = none) (hL : it ≠ X.env.locals)
    (h1 : it ∈ X.ex ∨ X.s₀.heap.objs.size ≤ it) (h2 : ∀ x c, X.env.cells.lookup x = some c → c ≠ it) (h3 : ∀ p ∈ X.pn ++ pins, p.1 ≠ it) : Inv X pins σ H { s with heap := h', toks := t' } := by
  have nit : ∀ b u, H b = some u → b ≠ it := fun b u e z => by rw [z, hn] at e; cases e
  refine I.step (g' := s.gens) (d' := s.drawn) (ch := [it]) (fun b hb => ?_) (fun b o _ _ hc e _ => k b o (fun z => hc (by simp [z])) e) (fun b o _ _ hc e _ => ⟨o.slots, k b o (fun z => hc (by simp [z])) e⟩) (fun _ _ _ _ n => n)
    (fun b o hc e => ⟨o, k b o (fun z => hc (by simp [z])) e⟩) (fun _ _ e => e) (fun _ _ _ e => e) (fun b ps e => ⟨#[], by rw [e]; simp⟩) (fun m hm => ?_) (fun b u e => ?_) I.bare
  · have e : b = it := by simpa using hb
    subst e
    exact ⟨h1, hL, h2, h3⟩
  · obtain ⟨o, es, ep, ho, r⟩ := hm
    exact ⟨o, es, ep, k _ o (Ne.symm hL) ho, r⟩
  · refine (I.hok b u e).stay (fun c v hc q => k c v ?_ q) (fun _ q => q) fun _ _ q => q
    rcases hc with z | z
    · rw [z]; exact nit b u e
    · exact nit c _ z
theorem Inv.tok (I : Inv X pins σ H s) (t : Nat) : Inv X pins σ H { s with toks := t } := I.un (h' := s.heap) (t' := t) Un.refl I.hok
theorem Inv.kept {t' : Nat} (I : Inv X pins σ H s) (k : ∀ b u, s.heap.get? b = some u → h'.get? b = some u) : Inv X pins σ H { s with heap := h', toks := t' } := I.un (Un.kept k) (I.hok.kept k)
theorem Inv.laid {a : Addr} {o : HO} {t' : Nat} (I : Inv X pins σ H s) (k : ∀ b u, s.heap.get? b = some u → h'.get? b = some u) (hp : s.heap.objs.size ≤ a) (new : ObjOk X.prog X.w (upd H a o) h' a o) :
    Inv X pins σ (upd H a o) { s with heap := h', toks := t' } := I.un (Un.laid k hp (I.hok.fresh hp)) (I.hok.laid k hp new)
theorem Inv.write {x e : Addr} {o : HO} {t' : Nat} (I : Inv X pins σ H s) (mu : Mut (H x)) (he : e = x ∨ H e = some (.own x)) (k : ∀ b u, b ≠ e → s.heap.get? b = some u → h'.get? b = some u) (heo : ∃ u, h'.get? e = some u)
    (new : ObjOk X.prog X.w (upd H x o) h' x o) : Inv X pins σ (upd H x o) { s with heap := h', toks := t' } := I.un (Un.write mu he k heo) (I.hok.write mu he k heo new)
theorem Inv.weak {σ' : List (Option V)} (I : Inv X pins σ H s) (hl : σ'.length = σ.length) (w : ∀ (i : Nat) v, σ'[i]? = some (some v) → σ[i]? = some (some v)) : Inv X pins σ' H s :=
  ⟨I.ok, I.os, I.bare, I.base, let ⟨m, hn, hl'⟩ := I.loc; ⟨m, hn, fun i x v e1 e2 e3 => hl' i x v e1 (w i v e2) e3⟩, I.cell, I.free, I.freeC, I.pin, I.hok, hl.trans I.len⟩
theorem Inv.pins_of {pins' : List (Addr × Obj)} (I : Inv X pins σ H s) (h : ∀ p ∈ pins', s.heap.get? p.1 = some p.2 ∧ H p.1 = none ∧ p.1 ≠ X.env.locals ∧ p.1 ∉ X.fs ∧ ∀ v, p.2.data ≠ .cell v) : Inv X pins' σ H s :=
  ⟨I.ok, I.os, I.bare, I.base, I.loc, I.cell, I.free, I.freeC, fun p hp => (List.mem_append.mp hp).elim (fun z => I.pin p (List.mem_append_left _ z)) (h p), I.hok, I.len⟩
theorem nodup_ix {N : List Str} (hN : N.Nodup) {i j : Nat} {x : Str} (a : N[i]? = some x) (b : N[j]? = some x) : i = j := by
  obtain ⟨h1, e1⟩ := List.getElem?_eq_some_iff.mp a
  obtain ⟨h2, e2⟩ := List.getElem?_eq_some_iff.mp b
  exact (List.getElem_inj hN).mp (e1.trans e2.symm)
theorem store_ok2 {M : Model} {A : Around} {E : Value → Shared → Prop} {i : Nat} {x : Str} {v : V} {u : Value} {Q : Unit → Shared → Prop} (I : Inv X pins σ H s) (hN : X.N.Nodup) (hi : X.N[i]? = some x) (hx : Loc X.env.scope x) (r : RelV v u)
    (h : ∀ s', Inv X pins (σ.set i (some v)) H s' → (∃ a, Heap.SameBut a s.heap s'.heap ∧ (a = X.env.locals ∨ X.env.cells.lookup x = some a)) → Q () s') (hf : X.fn x = true ∨ X.env.scope.names.lookup x = some .local := by first | exact .inl rfl | exact .inr rfl | assumption) : wpAny M A (storeName X.env x u) Q E s := by
  obtain ⟨m, hn, hl⟩ := id I.loc
  have hcls : (X.env.scope.kind == .class || (X.env.scope.kind == .module && X.env.locals != X.env.globals)) = false := by rw [I.ok.kind]; rfl
  have hiσ : i < σ.length := by rw [I.len]; exact (List.getElem?_eq_some_iff.mp hi).1
  have cne := I.cne
  have tracked : ∀ {a : Addr} {h' : Heap}, (∃ o, s.heap.get? a = some o ∧ H a = none) → Heap.SameBut a s.heap h' → HOk X.prog X.w H h' := fun {a h'} ha hs b ob e => by
    obtain ⟨_, _, hfree⟩ := ha
    refine (I.hok b ob e).stay (fun c w' hc q => (hs.2 c ?_).trans q) (fun _ q => q) fun _ _ q => q
    rintro rfl
    rcases hc with rfl | hc
    · rw [hfree] at e; cases e
    · rw [hfree] at hc; cases hc
  rcases hx with hk | hk
  · refine wpAny_storeName_local hk hn (fun h' hn' hs => ?_) hcls
    obtain ⟨oL, _, _, hoL, _⟩ := id hn
    refine h _ ⟨I.ok, I.os, I.bare, ⟨fun b o e n hb hx => ?_, fun b o e n hb hx => ?_, I.base.free, fun b o e hx => ?_, I.base.tups, I.base.frzs, I.base.tbls⟩, ⟨_, hn', fun j y v' e1 e2 e3 => ?_⟩, fun y c e => ?_, I.free, I.freeC, fun p hp => ?_, tracked ⟨oL, hoL, I.free⟩ hs, by simpa using I.len⟩ ⟨_, hs, .inl rfl⟩
    · exact (hs.2 b (Nat.ne_of_lt (Nat.lt_of_lt_of_le (Heap.lt_size e) I.ok.above))).trans (I.base.keep b o e n hb hx)
    · obtain ⟨sl, e1⟩ := I.base.slot b o e n hb hx
      exact ⟨sl, (hs.2 b (Nat.ne_of_lt (Nat.lt_of_lt_of_le (Heap.lt_size e) I.ok.above))).trans e1⟩
    · obtain ⟨o', e1⟩ := I.base.there b o e hx
      exact ⟨o', (hs.2 b (Nat.ne_of_lt (Nat.lt_of_lt_of_le (Heap.lt_size e) I.ok.above))).trans e1⟩
    · by_cases hj : j = i
      · subst hj
        rw [hi] at e1; cases e1
        rw [List.getElem?_set_self hiσ] at e2
        cases e2
        exact ⟨u, r, .inl ⟨hk, by simp⟩⟩
      · rw [List.getElem?_set_ne (Ne.symm hj)] at e2
        obtain ⟨u', r', q⟩ := hl j y v' e1 e2 e3
        refine ⟨u', r', ?_⟩
        rcases q with ⟨k, e⟩ | ⟨k, c, e, z⟩
        · refine .inl ⟨k, ?_⟩
          have : y ≠ x := fun e => hj (nodup_ix hN e1 (e ▸ hi))
          simp [this, e]
        · exact .inr ⟨k, c, e, z.sameBut hs (cne y c e)⟩
    · obtain ⟨w', z⟩ := I.cell y c e
      exact ⟨w', z.sameBut hs (cne y c e)⟩
    · obtain ⟨e, n, ne, nf, d⟩ := I.pin p hp
      exact ⟨(hs.2 p.1 ne).trans e, n, ne, nf, d⟩
  · have hfn : X.fn x = true := by
      rcases hf with z | z
      · exact z
      · rw [z] at hk; cases hk
    obtain ⟨c, hc⟩ := I.ok.has x (.inl hk)
    obtain ⟨w', z⟩ := I.cell x c hc
    refine wpAny_storeName_cell I.ok.kind hk hc z (fun h' hc' hs => ?_)
    obtain ⟨oc, hoc, hocd⟩ := id z
    refine h { s with heap := h' } ⟨I.ok, I.os, I.bare, ⟨fun b o e n hb hx => ?_, fun b o e n hb hx => ?_, I.base.free, fun b o e hx => ?_, I.base.tups, I.base.frzs, I.base.tbls⟩, ⟨m, hn.sameBut hs (Ne.symm (cne x c hc)), fun j y v' e1 e2 e3 => ?_⟩, fun y c' e => ?_, I.free, I.freeC, fun p hp => ?_, tracked ⟨oc, hoc, I.freeC x c hc⟩ hs, by simpa using I.len⟩ ⟨c, hs, .inr hc⟩
    · exact (hs.2 b (Nat.ne_of_lt (Nat.lt_of_lt_of_le (Heap.lt_size e) (I.ok.cab x c hfn hc)))).trans (I.base.keep b o e n hb hx)
    · obtain ⟨sl, e1⟩ := I.base.slot b o e n hb hx
      exact ⟨sl, (hs.2 b (Nat.ne_of_lt (Nat.lt_of_lt_of_le (Heap.lt_size e) (I.ok.cab x c hfn hc)))).trans e1⟩
    · obtain ⟨o', e1⟩ := I.base.there b o e hx
      exact ⟨o', (hs.2 b (Nat.ne_of_lt (Nat.lt_of_lt_of_le (Heap.lt_size e) (I.ok.cab x c hfn hc)))).trans e1⟩
    · by_cases hj : j = i
      · subst hj
        rw [hi] at e1; cases e1
        rw [List.getElem?_set_self hiσ] at e2
        cases e2
        exact ⟨u, r, .inr ⟨.inl hk, c, hc, hc'⟩⟩
      · rw [List.getElem?_set_ne (Ne.symm hj)] at e2
        obtain ⟨u', r', q⟩ := hl j y v' e1 e2 e3
        refine ⟨u', r', ?_⟩
        rcases q with q | ⟨k, c', e, z'⟩
        · exact .inl q
        · refine .inr ⟨k, c', e, z'.sameBut hs ?_⟩
          rintro rfl
          exact hj (nodup_ix hN e1 (I.ok.inj _ _ _ e hc ▸ hi))
    · by_cases hcc : c' = c
      · subst hcc; exact ⟨_, hc'⟩
      · obtain ⟨w2, z2⟩ := I.cell y c' e
        exact ⟨w2, z2.sameBut hs hcc⟩
    · obtain ⟨e, n, ne, nf, d⟩ := I.pin p hp
      refine ⟨(hs.2 p.1 ?_).trans e, n, ne, nf, d⟩
      intro q
      rw [q, hoc] at e
      have q' : oc = p.2 := Option.some.inj e
      exact d w' (by rw [← q']; exact hocd)
theorem store_ok {M : Model} {A : Around} {E : Value → Shared → Prop} {i : Nat} {x : Str} {v : V} {u : Value} {Q : Unit → Shared → Prop} (I : Inv X pins σ H s) (hN : X.N.Nodup) (hi : X.N[i]? = some x) (hx : Loc X.env.scope x) (r : RelV v u)
    (h : ∀ s', Inv X pins (σ.set i (some v)) H s' → Q () s') (hf : X.fn x = true ∨ X.env.scope.names.lookup x = some .local := by first | exact .inl rfl | exact .inr rfl | assumption) : wpAny M A (storeName X.env x u) Q E s :=
  store_ok2 I hN hi hx r (fun s' I' _ => h s' I') hf
theorem Inv.call' {s' : Shared} {ch : List Addr} (I : Inv X pins σ H s) (ho : s'.os = s.os) (u : Un (frs X.stack) ch H H' s.heap s'.heap) (hok : HOk X.prog X.w H' s'.heap) (hg : AllBare s'.gens)
    (hch : ∀ b ∈ ch, (b ∈ X.ex ∨ X.s₀.heap.objs.size ≤ b) ∧ b ≠ X.env.locals ∧ (∀ x c, X.env.cells.lookup x = some c → c ≠ b) ∧ ∀ p ∈ X.pn ++ pins, p.1 ≠ b) : Inv X pins σ H' s' := by
  obtain ⟨h', g', d', t', o'⟩ := s'
  have e : o' = s.os := ho
  subst e
  exact I.call (g' := g') (t' := t') (d' := d') u hok hg hch
end
abbrev XK := Value → Option Addr → Hp → Prop
abbrev St := List (Option V)
abbrev VK := V → Hp → Prop
abbrev TE := St → Hp → VK → Prop
abbrev TT := St → Hp → (Bool → Hp → Prop) → Prop
abbrev TA := St → Hp → (List V → Hp → Prop) → Prop
structure Ends where
  nx : St → Hp → Prop
  rt : VK
  bk : St → Hp → Prop := fun _ _ => False
  ct : St → Hp → Prop := fun _ _ => False
abbrev TS := Ends → St → Hp → Prop
noncomputable def EP (X : Cx) (pins : List (Addr × Obj)) (σ : St) (Q : VK) (u : Value) (s' : Shared) : Prop := ∃ v H', Inv X pins σ H' s' ∧ RelV v u ∧ Q v H'
noncomputable def TP (X : Cx) (pins : List (Addr × Obj)) (σ : St) (Q : Bool → Hp → Prop) (b : Bool) (s' : Shared) : Prop := ∃ H', Inv X pins σ H' s' ∧ Q b H'
noncomputable def AP (X : Cx) (pins : List (Addr × Obj)) (σ : St) (Q : List V → Hp → Prop) (us : List Value) (s' : Shared) : Prop := ∃ vs H', Inv X pins σ H' s' ∧ Vals vs us ∧ Q vs H'
noncomputable def SP (X : Cx) (pins : List (Addr × Obj)) (D : Ends) (f : Flow) (s' : Shared) : Prop :=
  match f with
  | .next => ∃ σ' H', Inv X pins σ' H' s' ∧ D.nx σ' H'
  | .brk => ∃ σ' H', Inv X pins σ' H' s' ∧ D.bk σ' H'
  | .cont => ∃ σ' H', Inv X pins σ' H' s' ∧ D.ct σ' H'
  | .ret u => ∃ v σ' H', Inv X pins σ' H' s' ∧ RelV v u ∧ D.rt v H'
noncomputable def PE (X : Cx) (e : Expr) (t : TE) : Prop :=
  ∀ (pins : List (Addr × Obj)) (s : Shared) (σ : St) (H : Hp) (Q : VK), Inv X pins σ H s → t σ H Q → wpAny (model X.prog X.w) X.A (eval e X.env) (EP X pins σ Q) X.xe s
noncomputable def PT (X : Cx) (e : Expr) (t : TT) : Prop :=
  ∀ (pins : List (Addr × Obj)) (s : Shared) (σ : St) (H : Hp) (Q : Bool → Hp → Prop), Inv X pins σ H s → t σ H Q → wpAny (model X.prog X.w) X.A (isTrue e X.env (eval e X.env)) (TP X pins σ Q) X.xe s
noncomputable def PW (X : Cx) (e : Expr) (t : TT) : Prop :=
  ∀ (whole : Sem Value) (pins : List (Addr × Obj)) (s : Shared) (σ : St) (H : Hp) (Q : Bool → Hp → Prop), Inv X pins σ H s → t σ H Q → wpAny (model X.prog X.w) X.A (isTrue e X.env whole) (TP X pins σ Q) X.xe s
theorem PW.pt {X : Cx} {e : Expr} {t : TT} (h : PW X e t) : PT X e t := h _
noncomputable def PA (X : Cx) (es : List Expr) (t : TA) : Prop :=
  ∀ (pos : Pos) (pins : List (Addr × Obj)) (s : Shared) (σ : St) (H : Hp) (Q : List V → Hp → Prop), Inv X pins σ H s → t σ H Q → wpAny (model X.prog X.w) X.A (spliced (backTo pos (starEach es X.env))) (AP X pins σ Q) X.xe s
noncomputable def PS (X : Cx) (st : Stmt) (t : TS) : Prop :=
  ∀ (pins : List (Addr × Obj)) (s : Shared) (σ : St) (H : Hp) (D : Ends), Inv X pins σ H s → t D σ H → wpAny (model X.prog X.w) X.A (exec st X.env) (SP X pins D) X.xe s
noncomputable def PSs (X : Cx) (st : List Stmt) (t : TS) : Prop :=
  ∀ (pins : List (Addr × Obj)) (s : Shared) (σ : St) (H : Hp) (D : Ends), Inv X pins σ H s → t D σ H → wpAny (model X.prog X.w) X.A (execs st X.env) (SP X pins D) X.xe s
theorem thn {α : Type} {t : Sem α} {Q Q' : α → Shared → Prop} {M : Model} {A : Around} {E : Value → Shared → Prop} {s : Shared} (h : wpAny M A t Q E s) (hQ : ∀ a s, Q a s → Q' a s) : wpAny M A t Q' E s := wpAny_mono h hQ fun _ _ x => x
end L2
namespace L2
open PySem PySem.Spec PyProof.Rows
section
variable {X : Cx}
theorem bin {a b : Expr} {ta tb : TE} (ha : PE X a ta) (hb : PE X b tb) {pins : List (Addr × Obj)} {s : Shared} {σ : St} {H : Hp} {R : V → V → Hp → Prop} (I : Inv X pins σ H s) (h : ta σ H fun x H1 => tb σ H1 fun y H2 => R x y H2)
    {α : Type} {Q : α → Shared → Prop} {f : Value → Value → Sem α}
    (hf : ∀ v u s2 x y H2, Inv X pins σ H2 s2 → RelV x v → RelV y u → R x y H2 → wpAny (model X.prog X.w) X.A (f v u) Q X.xe s2) :
    wpAny (model X.prog X.w) X.A (eval a X.env) (fun v s₁ => wpAny (model X.prog X.w) X.A (eval b X.env) (fun u s₂ => wpAny (model X.prog X.w) X.A (f v u) Q X.xe s₂) X.xe s₁) X.xe s := by
  refine thn (ha pins s σ H _ I h) fun v s1 ⟨x, H1, I1, r1, q1⟩ => ?_
  refine thn (hb pins s1 σ H1 _ I1 q1) fun u s2 ⟨y, H2, I2, r2, q2⟩ => ?_
  exact hf v u s2 x y H2 I2 r1 r2 q2
noncomputable def tVar (i : Nat) : TE := fun σ H Q => ∃ v, σ[i]? = some (some v) ∧ Q v H
noncomputable def tC (v : V) : TE := fun _ H Q => Q v H
theorem pe_var {i : Nat} {x : Str} {pos : Pos} (hN : X.N[i]? = some x) (hv : Vis X.env.scope x) (hd : (x == ("__debug__" : Str)) = false := by decide) (hcd : (x == ("__classdict__" : Str)) = false := by decide) : PE X (.Name x pos) (tVar i) := by
  intro pins s σ H Q I h
  obtain ⟨v, e, h⟩ := h
  obtain ⟨m, hn, hl⟩ := I.loc
  obtain ⟨u, r, l⟩ := hl i x v hN e hv
  have fin : EP X pins σ Q u s := ⟨v, H, I, r, h⟩
  rcases l with ⟨hk, hm⟩ | ⟨hk, c, hc, hcell⟩
  · exact wpAny_Name (wpAny_loadName_local I.ok.kind hk hn hm fin) hd
  · rcases hk with hk | hk
    · exact wpAny_Name (wpAny_loadName_cell I.ok.kind hk hc hcell fin) hd
    · exact wpAny_Name (wpAny_loadName_free I.ok.kind hk hc hcell fin hcd) hd
theorem pe_int {i j pos} : PE X (.Constant (.int i) j pos) (tC (.int i)) := fun _ _ _ H _ I h => wpAny_Constant_int ⟨.int i, H, I.tok _, ⟨_, rfl⟩, h⟩
theorem pe_bl {b j pos} : PE X (.Constant (.bool b) j pos) (tC (.bl b)) := fun _ _ _ H _ I h => Constant_bool ⟨.bl b, H, I, rfl, h⟩
theorem pe_non {j pos} : PE X (.Constant .none j pos) (tC .non) := fun _ _ _ H _ I h => Constant_none ⟨.non, H, I, rfl, h⟩
theorem pe_str {x j pos} : PE X (.Constant (.str x) j pos) (tC (.str x)) := fun _ _ _ H _ I h => Calls.Constant_str ⟨.str x, H, I.tok _, ⟨_, rfl⟩, h⟩
noncomputable def Gl (X : Cx) (x : Str) : Prop := X.env.kindOf x = some .globalImplicit
theorem ld_glob {E : Value → Shared → Prop} {pins : List (Addr × Obj)} {s : Shared} {σ : St} {H : Hp} {x : Str} {u : Value} {pos : Pos} {Q : Value → Shared → Prop} (I : Inv X pins σ H s) (hg : Gl X x) (hm : X.mg x = some u) (h : Q u s)
    (hd : (x == ("__debug__" : Str)) = false := by decide) : wpAny (model X.prog X.w) X.A (eval (.Name x pos) X.env) Q E s :=
  Calls.Name_function_global I.ok.kind hg (Calls.loadGlobal_global (by rw [I.ok.glob]; exact I.mod.glob.keeps I.bk) hm h) hd
theorem ld_blt {E : Value → Shared → Prop} {pins : List (Addr × Obj)} {s : Shared} {σ : St} {H : Hp} {x : Str} {u : Value} {pos : Pos} {Q : Value → Shared → Prop} (I : Inv X pins σ H s) (hg : Gl X x) (hm : X.mg x = none) (hv : bootBuiltins x = some u) (h : Q u s)
    (hn : x ≠ "__name__" := by decide) (hd : (x == ("__debug__" : Str)) = false := by decide) : wpAny (model X.prog X.w) X.A (eval (.Name x pos) X.env) Q E s := by
  obtain ⟨mb, h1, h2⟩ := I.mod.blt
  exact Calls.Name_function_global I.ok.kind hg (Calls.loadGlobal_builtin (by rw [I.ok.glob]; exact I.mod.glob.keeps I.bk) hm (by rw [I.ok.blt]; exact h1.keeps I.bk) ((h2 x hn).trans hv) h) hd
theorem pe_glob {x : Str} {v : V} {u : Value} {pos : Pos} (hg : Gl X x) (hm : X.mg x = some u) (r : RelV v u) (hd : (x == ("__debug__" : Str)) = false := by decide) : PE X (.Name x pos) (tC v) :=
  fun _ _ _ H _ I h => ld_glob I hg hm ⟨v, H, I, r, h⟩ hd
theorem pe_bltn {x : Str} {v : V} {u : Value} {pos : Pos} (hg : Gl X x) (hm : X.mg x = none) (hv : bootBuiltins x = some u) (r : RelV v u) (hn : x ≠ "__name__" := by decide) (hd : (x == ("__debug__" : Str)) = false := by decide) : PE X (.Name x pos) (tC v) :=
  fun _ _ _ H _ I h => ld_blt I hg hm hv ⟨v, H, I, r, h⟩ hn hd
variable {a b : Expr} {ta tb : TE} {pos : Pos}
noncomputable def PC (X : Cx) (op : CmpOp) (a b : Expr) (t : TE) : Prop :=
  ∀ (pins : List (Addr × Obj)) (s : Shared) (σ : St) (H : Hp) (Q : VK), Inv X pins σ H s → t σ H Q →
    wpAny (model X.prog X.w) X.A (eval a X.env) (fun v s₁ => wpAny (model X.prog X.w) X.A (eval b X.env) (fun u s₂ => wpAny (model X.prog X.w) X.A (compareOp op v u) (EP X pins σ Q) X.xe s₂) X.xe s₁) X.xe s
theorem nobehind (b : Expr) {op : CmpOp} (h : op ≠ .In) (h2 : op ≠ .NotIn) : behindInMarks op b = false := by
  have e1 : (op == CmpOp.In) = false := by cases op <;> first | rfl | exact absurd rfl h
  have e2 : (op == CmpOp.NotIn) = false := by cases op <;> first | rfl | exact absurd rfl h2
  cases b <;> simp [behindInMarks, e1, e2]
noncomputable def tIsN (ta : TE) : TE := fun σ H Q => ta σ H fun x H1 => Q (.bl (decide (x = .non))) H1
noncomputable def tNotN (ta : TE) : TE := fun σ H Q => ta σ H fun x H1 => Q (.bl (!decide (x = .non))) H1
theorem RelV.none_iff {x : V} {v : Value} (r : RelV x v) : (v == Value.none) = decide (x = .non) := by
  cases x with
  | non => cases r; rfl
  | bl _ => cases r; rfl
  | int _ => obtain ⟨t, rfl⟩ := r; rfl
  | str _ => obtain ⟨t, rfl⟩ := r; rfl
  | byt _ => obtain ⟨t, rfl⟩ := r; rfl
  | flt _ => obtain ⟨t, rfl⟩ := r; rfl
  | ref _ => cases r; rfl
  | ty _ => cases r; rfl
theorem pc_isN {j pos'} (ha : PE X a ta) : PC X .Is a (.Constant .none j pos') (tIsN ta) := by
  intro pins s σ H Q I h
  refine thn (ha pins s σ H _ I h) fun v s1 ⟨x, H1, I1, r1, q1⟩ => ?_
  exact Constant_none (is_none_gen ⟨.bl _, H1, I1, by rw [r1.none_iff]; rfl, q1⟩)
theorem pc_notN {j pos'} (ha : PE X a ta) : PC X .IsNot a (.Constant .none j pos') (tNotN ta) := by
  intro pins s σ H Q I h
  refine thn (ha pins s σ H _ I h) fun v s1 ⟨x, H1, I1, r1, q1⟩ => ?_
  exact Constant_none (isnot_none_gen ⟨.bl _, H1, I1, by rw [r1.none_iff]; rfl, q1⟩)
noncomputable def tB (t : TE) : TT := fun σ H Q => t σ H fun x H1 => ∃ c, x = .bl c ∧ Q c H1
theorem pe_cmp {op : CmpOp} {t : TE} (h : PC X op a b t) (h1 : behindInMarks op b = false := by first | exact nobehind _ (by decide) (by decide) | rfl) : PE X (.Compare a [op] [b] pos) t := fun pins s σ H Q I hw => wpAny_Compare1 (h pins s σ H Q I hw) h1
theorem pt_cmp {op : CmpOp} {t : TE} (h : PC X op a b t) (h1 : behindInMarks op b = false := by first | exact nobehind _ (by decide) (by decide) | rfl) : PT X (.Compare a [op] [b] pos) (tB t) := by
  intro pins s σ H Q I hw
  refine wpAny_isTrue_Compare1 (thn (h pins s σ H _ I hw) fun v s1 h1 => thn h1 fun u s2 h2 => thn h2 fun c s3 ⟨x, H1, I1, r1, q1⟩ => ?_) h1
  obtain ⟨d, rfl, q⟩ := q1
  cases r1
  exact wpAny_truthy_bool ⟨H1, I1, q⟩
theorem pt_val {e : Expr} {t : TE} (h : PE X e t) (he : ∀ whole, isTrue e X.env whole = (do let v ← whole; standAt e.pos; holding [v] (truthy v)) := by intro _; rfl) : PT X e (tB t) := by
  intro pins s σ H Q I hw
  refine isTrue_plain (thn (h pins s σ H _ I hw) fun v s1 ⟨x, H1, I1, r1, q1⟩ => ?_) (he _)
  obtain ⟨d, rfl, q⟩ := q1
  cases r1
  exact wpAny_truthy_bool ⟨H1, I1, q⟩
variable {tA tB' : TT} {rest : List Expr}
noncomputable def tAnd (t u : TT) : TT := fun σ H Q => t σ H fun c H1 => if c = true then u σ H1 Q else Q false H1
noncomputable def tOr (t u : TT) : TT := fun σ H Q => t σ H fun c H1 => if c = true then Q true H1 else u σ H1 Q
noncomputable def tNot (t : TT) : TT := fun σ H Q => t σ H fun c H1 => Q (!c) H1
theorem pw_and1 (ha : PT X a tA) : PW X (.BoolOp .And [a] pos) tA := by
  intro wh pins s σ H Q I h
  refine isTrue_and (thn (ha pins s σ H Q I h) fun c s1 e => ?_)
  cases c with
  | true => exact isTrue_and_nil e
  | false => exact e
theorem pw_or1 (ha : PT X a tA) : PW X (.BoolOp .Or [a] pos) tA := by
  intro wh pins s σ H Q I h
  refine isTrue_or (thn (ha pins s σ H Q I h) fun c s1 e => ?_)
  cases c with
  | false => exact isTrue_or_nil e
  | true => exact e
theorem pw_and (ha : PT X a tA) (hb : PW X (.BoolOp .And (b :: rest) pos) tB') : PW X (.BoolOp .And (a :: b :: rest) pos) (tAnd tA tB') := by
  intro wh pins s σ H Q I h
  refine isTrue_and (thn (ha pins s σ H _ I h) fun c s1 ⟨H1, I1, q1⟩ => ?_)
  cases c with
  | true => exact hb wh pins s1 σ H1 Q I1 q1
  | false => exact ⟨H1, I1, q1⟩
theorem pw_or (ha : PT X a tA) (hb : PW X (.BoolOp .Or (b :: rest) pos) tB') : PW X (.BoolOp .Or (a :: b :: rest) pos) (tOr tA tB') := by
  intro wh pins s σ H Q I h
  refine isTrue_or (thn (ha pins s σ H _ I h) fun c s1 ⟨H1, I1, q1⟩ => ?_)
  cases c with
  | true => exact ⟨H1, I1, q1⟩
  | false => exact hb wh pins s1 σ H1 Q I1 q1
theorem pt_not (ha : PT X a tA) : PT X (.UnaryOp .Not a pos) (tNot tA) := by
  intro pins s σ H Q I h
  exact isTrue_not (ha pins s σ H (fun c H1 => Q (!c) H1) I h)
noncomputable def tAndV (ta tb : TE) : TE := fun σ H Q => ta σ H fun x H1 => ∃ c, x = .bl c ∧ if c = true then tb σ H1 Q else Q (.bl false) H1
noncomputable def tOrV (ta tb : TE) : TE := fun σ H Q => ta σ H fun x H1 => ∃ c, x = .bl c ∧ if c = true then Q (.bl true) H1 else tb σ H1 Q
noncomputable def tNotV (ta : TE) : TE := fun σ H Q => ta σ H fun x H1 => ∃ c, x = .bl c ∧ Q (.bl (!c)) H1
theorem pe_one {op} {t : TE} (h : PE X a t) : PE X (.BoolOp op [a] pos) t := fun pins s σ H Q I hw => BoolOp_one (h pins s σ H Q I hw)
theorem pe_and (ha : PE X a ta) (hb : PE X (.BoolOp .And (b :: rest) pos) tb) : PE X (.BoolOp .And (a :: b :: rest) pos) (tAndV ta tb) := by
  intro pins s σ H Q I h
  refine BoolOp_and (thn (ha pins s σ H _ I h) fun v s1 ⟨x, H1, I1, r1, q1⟩ => ?_)
  obtain ⟨c, rfl, q1⟩ := q1
  cases r1
  refine wpAny_truthy_bool ?_
  cases c with
  | true => exact hb pins s1 σ H1 Q I1 q1
  | false => exact ⟨.bl false, H1, I1, rfl, q1⟩
theorem pe_or (ha : PE X a ta) (hb : PE X (.BoolOp .Or (b :: rest) pos) tb) : PE X (.BoolOp .Or (a :: b :: rest) pos) (tOrV ta tb) := by
  intro pins s σ H Q I h
  refine BoolOp_or (thn (ha pins s σ H _ I h) fun v s1 ⟨x, H1, I1, r1, q1⟩ => ?_)
  obtain ⟨c, rfl, q1⟩ := q1
  cases r1
  refine wpAny_truthy_bool ?_
  cases c with
  | false => exact hb pins s1 σ H1 Q I1 q1
  | true => exact ⟨.bl true, H1, I1, rfl, q1⟩
theorem pe_not (ha : PE X a ta) : PE X (.UnaryOp .Not a pos) (tNotV ta) := by
  intro pins s σ H Q I h
  refine UnaryOp_ (thn (ha pins s σ H _ I h) fun v s1 ⟨x, H1, I1, r1, q1⟩ => ?_)
  obtain ⟨c, rfl, q1⟩ := q1
  cases r1
  exact not_of (wpAny_truthy_bool ⟨.bl (!c), H1, I1, rfl, q1⟩)
noncomputable def tIf (t : TT) (ta tb : TE) : TE := fun σ H Q => t σ H fun c H1 => if c = true then ta σ H1 Q else tb σ H1 Q
theorem pe_ifExp {c : Expr} (hc : PT X c tA) (ha : PE X a ta) (hb : PE X b tb) : PE X (.IfExp c a b pos) (tIf tA ta tb) := by
  intro pins s σ H Q I h
  refine wpAny_IfExp (thn (hc pins s σ H _ I h) fun d s1 ⟨H1, I1, q1⟩ => ?_)
  cases d with
  | true => exact ha pins s1 σ H1 Q I1 q1
  | false => exact hb pins s1 σ H1 Q I1 q1
end
end L2
namespace L2
open PySem PySem.Spec PyProof.Rows
noncomputable def SqL (K : PySem.W.Frag) (H : Hp) (a : Addr) (xs : List V) : Prop :=
  Rd H a (.lst xs) ∨
    ∃ (o : Obj) (its : Array Value) (n : Nat), K.lookup a = some o ∧ o.cls = .type "list" ∧ o.dict = none ∧ o.data = .seq its n ∧ its.size ≤ sizeLine ∧ Vals xs its.toList
noncomputable def SqT (K : PySem.W.Frag) (H : Hp) (a : Addr) (xs : List V) : Prop :=
  Rd H a (.tup xs) ∨
    ∃ (o : Obj) (its : Array Value) (n : Nat), K.lookup a = some o ∧ o.cls = .type "tuple" ∧ o.data = .seq its n ∧ its.size ≤ sizeLine ∧ Vals xs its.toList
noncomputable def absV : Value → Option V
  | .none => some .non
  | .bool b => some (.bl b)
  | .int i _ => some (.int i)
  | .str x _ => some (.str x)
  | .bytes b _ => some (.byt b)
  | .float b _ => some (.flt b)
  | .ref a => some (.ref a)
  | .type n => some (.ty n)
  | _ => none
theorem RelV.abs {x : V} {u : Value} (r : RelV x u) : absV u = some x := by
  cases x with
  | non => cases r; rfl
  | bl _ => cases r; rfl
  | int _ => obtain ⟨t, rfl⟩ := r; rfl
  | str _ => obtain ⟨t, rfl⟩ := r; rfl
  | byt _ => obtain ⟨t, rfl⟩ := r; rfl
  | flt _ => obtain ⟨t, rfl⟩ := r; rfl
  | ref _ => cases r; rfl
  | ty _ => cases r; rfl
theorem RelV.inj {x y : V} {u : Value} (r : RelV x u) (q : RelV y u) : x = y := Option.some.inj (r.abs.symm.trans q.abs)
theorem Vals.inj : ∀ {xs ys : List V} {us : List Value}, Vals xs us → Vals ys us → xs = ys
  | _, _, _, .nil, .nil => rfl
  | _, _, _, .cons r t, .cons r' t' => by rw [r.inj r', Vals.inj t t']
section
variable {X : Cx} {pins : List (Addr × Obj)} {σ : St} {H : Hp} {s : Shared} {a : Addr} {xs ys : List V}
theorem SqL.of {K : PySem.W.Frag} (h : H a = some (.lst xs)) : SqL K H a xs := .inl (.inl h)
theorem SqT.of {K : PySem.W.Frag} (h : H a = some (.tup xs)) : SqT K H a xs := .inl (.inl h)
theorem Inv.list (I : Inv X pins σ H s) (h : SqL X.K H a xs) : ∃ its : List Value, Vals xs its ∧ PlainL s.heap a its.toArray ∧ xs.length ≤ sizeLine := by
  rcases h with h | ⟨o, its, n, hk, hc, hd, hs, hz, r⟩
  · obtain ⟨z, its, n, r, e⟩ := h.ok I.hok
    exact ⟨its, r, ⟨_, n, e, rfl, rfl, rfl⟩, z⟩
  · refine ⟨its.toList, r, ⟨o, n, I.kIn a o hk, hc, hd, by simpa using hs⟩, ?_⟩
    have e := r.length
    simp only [Array.length_toList] at e
    omega
theorem Inv.tuple (I : Inv X pins σ H s) (h : SqT X.K H a xs) : ∃ its : List Value, Vals xs its ∧ IsTup s.heap a its.toArray ∧ xs.length ≤ sizeLine := by
  rcases h with h | ⟨o, its, n, hk, hc, hs, hz, r⟩
  · obtain ⟨z, its, r, p⟩ := h.ok I.hok
    exact ⟨its, r, p.tup, z⟩
  · refine ⟨its.toList, r, ⟨o, I.kIn a o hk, hc, n, by simpa using hs⟩, ?_⟩
    have e := r.length
    simp only [Array.length_toList] at e
    omega
theorem Inv.list_inj (I : Inv X pins σ H s) (h : SqL X.K H a xs) (h' : SqL X.K H a ys) : xs = ys := by
  obtain ⟨its, r, ⟨o, n, e, _, _, d⟩, _⟩ := I.list h
  obtain ⟨its', r', ⟨o', n', e', _, _, d'⟩, _⟩ := I.list h'
  rw [e] at e'; cases e'
  rw [d] at d'
  injection d' with d1 _
  have : its = its' := by simpa using congrArg Array.toList d1
  subst this
  exact r.inj r'
theorem Inv.tuple_inj (I : Inv X pins σ H s) (h : SqT X.K H a xs) (h' : SqT X.K H a ys) : xs = ys := by
  obtain ⟨its, r, ⟨o, e, _, n, d⟩, _⟩ := I.tuple h
  obtain ⟨its', r', ⟨o', e', _, n', d'⟩, _⟩ := I.tuple h'
  rw [e] at e'; cases e'
  rw [d] at d'
  injection d' with d1 _
  have : its = its' := by simpa using congrArg Array.toList d1
  subst this
  exact r.inj r'
end
abbrev Cx.wish (X : Cx) (E : Value → Shared → Prop) : Cx := { X with xe := E }
abbrev Cx.nox (X : Cx) : Cx := X.wish fun _ _ => False
theorem Cx.Ok.wish {X : Cx} (ok : X.Ok) (E : Value → Shared → Prop) : (X.wish E).Ok :=
  ⟨ok.mod, ok.kind, ok.glob, ok.blt, ok.above, ok.inj, ok.has, ok.cab, ok.hd, ok.frames, ok.stk, ok.exf, ok.bs, ok.bsz, ok.noex, ok.exfs, ok.funs, ok.frf⟩
theorem Cx.Ok.unwish {X : Cx} {E : Value → Shared → Prop} (ok : (X.wish E).Ok) : X.Ok :=
  ⟨ok.mod, ok.kind, ok.glob, ok.blt, ok.above, ok.inj, ok.has, ok.cab, ok.hd, ok.frames, ok.stk, ok.exf, ok.bs, ok.bsz, ok.noex, ok.exfs, ok.funs, ok.frf⟩
section
variable {X : Cx} {pins : List (Addr × Obj)} {σ : St} {H : Hp} {s : Shared} {E : Value → Shared → Prop}
theorem Inv.wish (I : Inv X pins σ H s) (E : Value → Shared → Prop) : Inv (X.wish E) pins σ H s := ⟨I.ok.wish E, I.os, I.bare, I.base, I.loc, I.cell, I.free, I.freeC, I.pin, I.hok, I.len⟩
theorem Inv.unwish (I : Inv (X.wish E) pins σ H s) : Inv X pins σ H s := ⟨I.ok.unwish, I.os, I.bare, I.base, I.loc, I.cell, I.free, I.freeC, I.pin, I.hok, I.len⟩
theorem SP.unwish {D : Ends} {f : Flow} {s' : Shared} (h : SP (X.wish E) pins D f s') : SP X pins D f s' := by
  cases f with
  | next => obtain ⟨σ', H', I, q⟩ := h; exact ⟨σ', H', I.unwish, q⟩
  | brk => obtain ⟨σ', H', I, q⟩ := h; exact ⟨σ', H', I.unwish, q⟩
  | cont => obtain ⟨σ', H', I, q⟩ := h; exact ⟨σ', H', I.unwish, q⟩
  | ret u => obtain ⟨v, σ', H', I, r, q⟩ := h; exact ⟨v, σ', H', I.unwish, r, q⟩
theorem PE.nox {e : Expr} {t : TE} (h : PE X.nox e t) : PE X e t := fun pins s σ H Q I hw =>
  wpAny_mono (h pins s σ H Q (I.wish _) hw) (fun _ _ ⟨v, H', I', r, q⟩ => ⟨v, H', I'.unwish, r, q⟩) fun _ _ z => False.elim z
theorem PT.nox {e : Expr} {t : TT} (h : PT X.nox e t) : PT X e t := fun pins s σ H Q I hw =>
  wpAny_mono (h pins s σ H Q (I.wish _) hw) (fun _ _ ⟨H', I', q⟩ => ⟨H', I'.unwish, q⟩) fun _ _ z => False.elim z
theorem PSs.nox {st : List Stmt} {t : TS} (h : PSs X.nox st t) : PSs X st t := fun pins s σ H D I hw =>
  wpAny_mono (h pins s σ H D (I.wish _) hw) (fun _ _ q => q.unwish) fun _ _ z => False.elim z
end
section
variable {X : Cx} {st : Stmt} {rest : List Stmt} {t u : TS} {e : Expr} {te : TE} {pos : Pos}
noncomputable def tNext : TS := fun D σ H => D.nx σ H
noncomputable def tSeq (t u : TS) : TS := fun D σ H => t { D with nx := u D } σ H
theorem pss_nil : PSs X [] tNext := fun _ _ σ H _ I h => wpAny_execs_nil ⟨σ, H, I, h⟩
theorem pss_cons (h1 : PS X st t) (h2 : PSs X rest u) : PSs X (st :: rest) (tSeq t u) := by
  intro pins s σ H D I h
  refine wpAny_execs_cons (thn (h1 pins s σ H { D with nx := u D } I h) fun f s1 q => ?_)
  cases f with
  | next =>
    obtain ⟨σ', H', I', q⟩ := q
    exact h2 pins s1 σ' H' D I' q
  | ret v => exact q
  | brk => exact q
  | cont => exact q
theorem pss_one (h1 : PS X st t) : PSs X [st] t := by
  intro pins s σ H D I h
  refine wpAny_execs_cons (thn (h1 pins s σ H D I h) fun f s1 q => ?_)
  cases f with
  | next => exact wpAny_execs_nil q
  | ret v => exact q
  | brk => exact q
  | cont => exact q
noncomputable def tBreak : TS := fun D σ H => D.bk σ H
noncomputable def tCont : TS := fun D σ H => D.ct σ H
theorem Inv.quiet {pins : List (Addr × Obj)} {σ : St} {H : Hp} {s : Shared} (I : Inv X pins σ H s) : interactive X.env = false := by simp [interactive, I.ok.kind]
noncomputable def tDrop (te : TE) : TS := fun D σ H => te σ H fun _ H1 => D.nx σ H1
theorem ps_expr (he : PE X e te) (hs : swapsWith e none pos.line X.env = pure false := by rfl) : PS X (.Expr e pos) (tDrop te) := by
  intro pins s σ H D I h
  exact wpAny_Expr_any (thn (he pins s σ H _ I h) fun v s1 ⟨x, H1, I1, r1, q1⟩ => ⟨σ, H1, I1, q1⟩) I.quiet hs
noncomputable def tRet (te : TE) : TS := fun D σ H => te σ H D.rt
theorem ps_ret (he : PE X e te) : PS X (.Return (some e) pos) (tRet te) := by
  intro pins s σ H D I h
  exact wpAny_Return_some (thn (he pins s σ H _ I h) fun v s1 ⟨x, H1, I1, r1, q1⟩ => ⟨x, σ, H1, I1, r1, q1⟩)
noncomputable def tRetN : TS := fun D _ H => D.rt .non H
noncomputable def tIfS (c : TT) (t u : TS) : TS := fun D σ H => c σ H fun b H1 => if b = true then t D σ H1 else u D σ H1
theorem ps_if {c : Expr} {a b : List Stmt} {tc : TT} (hc : PT X c tc) (ha : PSs X a t) (hb : PSs X b u) : PS X (.If c a b pos) (tIfS tc t u) := by
  intro pins s σ H D I h
  refine wpAny_If (thn (hc pins s σ H _ I h) fun d s1 ⟨H1, I1, q1⟩ => ?_)
  cases d with
  | true => exact ha pins s1 σ H1 D I1 q1
  | false => exact hb pins s1 σ H1 D I1 q1
end
abbrev TG := V → St → Hp → (St → Hp → Prop) → Prop
abbrev TGs := List V → St → Hp → (St → Hp → Prop) → Prop
noncomputable def PG (X : Cx) (target : Expr) (t : TG) : Prop :=
  ∀ (pins : List (Addr × Obj)) (s : Shared) (σ : St) (H : Hp) (v : V) (u : Value) (Q : St → Hp → Prop), Inv X pins σ H s → RelV v u → t v σ H Q →
    wpAny (model X.prog X.w) X.A (assign target X.env u) (fun _ s' => ∃ σ' H', Inv X pins σ' H' s' ∧ Q σ' H') X.xe s
noncomputable def PGs (X : Cx) (ts : List Expr) (t : TGs) : Prop :=
  ∀ (pins : List (Addr × Obj)) (s : Shared) (σ : St) (H : Hp) (vs : List V) (us : List Value) (Q : St → Hp → Prop), Inv X pins σ H s → Vals vs us → t vs σ H Q →
    wpAny (model X.prog X.w) X.A (assignInOrder ((assignEach ts X.env).map (·.2)) us) (fun _ s' => ∃ σ' H', Inv X pins σ' H' s' ∧ Q σ' H') X.xe s
abbrev TSet := V → V → V → Hp → (Hp → Prop) → Prop
noncomputable def PSet (X : Cx) (t : TSet) : Prop :=
  ∀ (pins : List (Addr × Obj)) (s : Shared) (σ : St) (H : Hp) (o i v : V) (ov iv u : Value) (Q : Hp → Prop), Inv X pins σ H s → RelV o ov → RelV i iv → RelV v u → t o i v H Q →
    wpAny (model X.prog X.w) X.A (setItem ov iv u) (fun _ s' => ∃ H', Inv X pins σ H' s' ∧ Q H') X.xe s
section
variable {X : Cx} {pos : Pos}
noncomputable def gName (i : Nat) : TG := fun v σ H Q => Q (σ.set i (some v)) H
theorem pg_name {i : Nat} {x : Str} (hN : X.N.Nodup) (hi : X.N[i]? = some x) (hx : Loc X.env.scope x) (hf : X.fn x = true ∨ X.env.scope.names.lookup x = some .local := by first | exact .inl rfl | exact .inr rfl | assumption) : PG X (.Name x pos) (gName i) := by
  intro pins s σ H v u Q I r h
  exact wpAny_assign_Name (store_ok I hN hi hx r (fun s' I' => ⟨_, H, I', h⟩) hf)
noncomputable def gNil : TGs := fun vs σ H Q => vs = [] ∧ Q σ H
noncomputable def gCons (t : TG) (u : TGs) : TGs := fun vs σ H Q => ∃ v r, vs = v :: r ∧ t v σ H fun σ' H' => u r σ' H' Q
theorem pgs_nil : PGs X [] gNil := by
  intro pins s σ H vs us Q I r h
  obtain ⟨e, h⟩ := h
  subst e
  cases r
  exact assignInOrder_nil ⟨σ, H, I, h⟩
theorem pgs_cons {e : Expr} {es : List Expr} {t : TG} {u : TGs} (h1 : PG X e t) (h2 : PGs X es u)
    (hs : (assignEach (e :: es) X.env).map (·.2) = assign e X.env :: (assignEach es X.env).map (·.2) := by rfl) : PGs X (e :: es) (gCons t u) := by
  intro pins s σ H vs us Q I r h
  obtain ⟨v, vr, e1, h⟩ := h
  subst e1
  cases r with
  | cons r rr =>
    rw [hs]
    refine assignInOrder_cons (thn (h1 pins s σ H _ _ _ I r h) fun _ s1 ⟨σ1, H1, I1, q1⟩ => ?_)
    exact h2 pins s1 σ1 H1 _ _ Q I1 rr q1
noncomputable def gTup (K : PySem.W.Frag) (n : Nat) (t : TGs) : TG := fun v σ H Q => ∃ a xs, v = .ref a ∧ SqT K H a xs ∧ xs.length = n ∧ t xs σ H Q
theorem pg_tup {es : List Expr} {k : Nat} {t : TGs} {n : Nat} (hc : X.calm = true) (h : PGs X es t)
    (hn : (assignEach es X.env).length = n := by rfl) (hst : (assignEach es X.env).findIdx? (·.1) = none := by rfl) : PG X (.Tuple es k pos) (gTup X.K n t) := by
  intro pins s σ H v u Q I r hw
  obtain ⟨a, xs, e1, hq, hl, hw⟩ := hw
  subst e1
  cases r
  obtain ⟨its, rv, ht, hz⟩ := I.tuple hq
  refine assign_Tuple_tuple (I.ok.hd hc) ht (by simp [hn, ← hl, rv.length]) hst fun h' hx => ?_
  have I1 : Inv X pins σ H { s with heap := h' } := I.kept (t' := s.toks) fun b o e => hx b o (Nat.ne_of_lt (Heap.lt_size e)) e
  exact h pins _ σ H xs _ Q I1 (by simpa using rv) hw
noncomputable def gSub (to ti : TE) (t : TSet) : TG := fun v σ H Q => to σ H fun o H1 => ti σ H1 fun i H2 => t o i v H2 fun H3 => Q σ H3
theorem pg_sub {o i : Expr} {to ti : TE} {t : TSet} (ho : PE X o to) (hi : PE X i ti) (hs : PSet X t)
    (ha : ∀ v, assign (.Subscript o i pos) X.env v = (do
      let ov ← holding [v] (eval o X.env)
      let iv ← holding [v, ov] (eval i X.env)
      standAt pos
      holding [v, ov, iv] (setItem ov iv v)
      release [v, ov, iv] []) := by intro _; rfl) : PG X (.Subscript o i pos) (gSub to ti t) := by
  intro pins s σ H v u Q I r h
  rw [ha]
  refine wpAny_bind (wpAny_holding (thn (ho pins s σ H _ I h) fun ov s1 ⟨x, H1, I1, r1, q1⟩ => ?_))
  refine wpAny_bind (wpAny_holding (thn (hi pins s1 σ H1 _ I1 q1) fun iv s2 ⟨y, H2, I2, r2, q2⟩ => ?_))
  refine wpAny_bind (wpAny_standAt (wpAny_bind (wpAny_holding (thn (hs pins s2 σ H2 x y v ov iv u _ I2 r1 r2 r q2) fun _ s3 ⟨H3, I3, q3⟩ => ?_))))
  exact wpAny_release ⟨σ, H3, I3, q3⟩
noncomputable def tAsg (te : TE) (g : TG) : TS := fun D σ H => te σ H fun x H1 => g x σ H1 D.nx
theorem ps_asg {tg e : Expr} {te : TE} {g : TG} (he : PE X e te) (hg : PG X tg g) (hs : swapsWithSole [tg] e pos.line X.env = pure false := by rfl) (hw : swappedStores [tg] e X.env = pure none := by rfl)
    (h1 : (assignEach [tg] X.env).map (·.2) = [assign tg X.env] := by rfl) : PS X (.Assign [tg] e pos) (tAsg te g) := by
  intro pins s σ H D I h
  refine wpAny_Assign_stores (thn (he pins s σ H _ I h) fun v s1 ⟨x, H1, I1, r1, q1⟩ => ?_) hs hw
  rw [h1]
  exact thn (hg pins s1 σ H1 x v _ I1 r1 q1) fun _ s2 q => q
theorem ps_set {i : Nat} {x : Str} {e : Expr} {te : TE} {pos' : Pos} (hN : X.N.Nodup) (hi : X.N[i]? = some x) (hx : Loc X.env.scope x) (he : PE X e te) (hs : swapsWith e (some (.Name x pos')) pos.line X.env = pure false := by rfl) (hf : X.fn x = true ∨ X.env.scope.names.lookup x = some .local := by first | exact .inl rfl | exact .inr rfl | assumption) :
    PS X (.Assign [.Name x pos'] e pos) (tAsg te (gName i)) := by
  intro pins s σ H D I h
  refine wpAny_Assign_Name (thn (he pins s σ H _ I h) fun v s1 ⟨y, H1, I1, r1, q1⟩ => ?_) hs
  exact store_ok I1 hN hi hx r1 (fun s2 I2 => ⟨_, H1, I2, q1⟩) hf
end
section
variable {X : Cx} {pos : Pos}
noncomputable def tWhile (c : TT) (tb : TS) : TS := fun D σ H => ∃ W : Nat → St → Hp → Prop, (∃ m, W m σ H) ∧ ∀ m σ H, W m σ H →
  c σ H fun b H1 => if b = true then ∃ N : St → Hp → Prop, (∀ σ' H', N σ' H' → ∃ m', m' < m ∧ W m' σ' H') ∧ tb { D with nx := N, ct := N, bk := D.nx } σ H1 else D.nx σ H1
theorem ps_while {c : Expr} {body : List Stmt} {tc : TT} {tb : TS} (hp : PassesOwn (model X.prog X.w) X.A X.env X.xe) (hc : PT X c tc) (hb : PSs X body tb) : PS X (.While c body [] pos) (tWhile tc tb) := by
  intro pins s σ H D I h
  obtain ⟨W, ⟨m0, w0⟩, turn⟩ := h
  refine wpAny_While (codeAny_whileLoop (fun n s' => ∃ σ' H', Inv X pins σ' H' s' ∧ W n σ' H') ?_ m0 ⟨σ, H, I, w0⟩)
  rintro n s1 ⟨σ1, H1, I1, w1⟩
  refine wpAny_passesOwn hp (thn (hc pins s1 σ1 H1 _ I1 (turn n σ1 H1 w1)) fun b s2 ⟨H2, I2, q2⟩ => ?_)
  cases b with
  | true =>
    obtain ⟨N, hN, q2⟩ := q2
    rw [if_pos rfl]
    refine wpAny_passesOwn hp (thn (hb pins s2 σ1 H2 _ I2 q2) fun f s3 q3 => ?_)
    cases f with
    | next =>
      obtain ⟨σ3, H3, I3, n3⟩ := q3
      obtain ⟨m', hm, w3⟩ := hN σ3 H3 n3
      exact ⟨m', hm, σ3, H3, I3, w3⟩
    | cont =>
      obtain ⟨σ3, H3, I3, n3⟩ := q3
      obtain ⟨m', hm, w3⟩ := hN σ3 H3 n3
      exact ⟨m', hm, σ3, H3, I3, w3⟩
    | brk => exact q3
    | ret v => exact q3
  | false =>
    rw [if_neg Bool.false_ne_true]
    exact wpAny_execs_nil ⟨σ1, H2, I2, q2⟩
end
structure It where
  go : Nat → Hp → Prop
  yld : Nat → Hp → V → Hp → Prop
  stop : Nat → Hp → Prop
noncomputable def FpOk (X : Cx) (pins : List (Addr × Obj)) (H : Hp) (b : Addr) : Prop :=
  H b = none ∧ b ≠ X.env.locals ∧ b ∉ X.fs ∧ (b ∈ X.ex ∨ X.s₀.heap.objs.size ≤ b) ∧ (∀ x c, X.env.cells.lookup x = some c → c ≠ b) ∧ ∀ p ∈ X.pn ++ pins, p.1 ≠ b
theorem Inv.fpOk {X : Cx} {pins : List (Addr × Obj)} {σ : St} {H H' : Hp} {s : Shared} {b : Addr} (I : Inv X pins σ H s) (hb : s.heap.objs.size ≤ b) (hn : H' b = none) : FpOk X pins H' b := by
  refine ⟨hn, Nat.ne_of_gt (Nat.lt_of_lt_of_le I.lt hb), I.nofs hb, .inr (Nat.le_trans I.sz hb), fun x c e z => ?_, fun p hp z => ?_⟩
  · obtain ⟨v, q⟩ := I.cell x c e
    exact absurd (Nat.lt_of_lt_of_le q.lt (by rw [z]; exact hb)) (Nat.lt_irrefl _)
  · exact absurd (Nat.lt_of_lt_of_le (Heap.lt_size (I.pin p hp).1) (by rw [z]; exact hb)) (Nat.lt_irrefl _)
structure Turn (P : Program) (w : World) (K : PySem.W.Frag) (tg : Expr) (J : It) (fp : List Addr) (it : Addr) (tn : Nat → Heap → Prop) : Prop where
  mem : it ∈ fp
  obj : ∀ i h, tn i h → ∀ b ∈ fp, ∃ o, h.get? b = some o ∧ ∀ v, o.data ≠ .cell v
  keep : ∀ i h h', tn i h → (∀ b ∈ fp, ∀ o, h.get? b = some o → h'.get? b = some o) → tn i h'
  item : ∀ (X : Cx), X.prog = P → X.w = w → X.K = K → X.calm = true → ∀ (i : Nat) (pins : List (Addr × Obj)) (s : Shared) (σ : St) (H : Hp) (E : Value → Shared → Prop), Inv X pins σ H s → (∀ b ∈ fp, FpOk X pins H b) → tn i s.heap → J.go i H →
    wpAny (model P w) X.A (pyNext (.ref it)) (fun r s1 => ∃ u, r = some u ∧
      wpAny (model P w) X.A (letOwnedTupleGo tg (.ref it) u) (fun _ s2 => ∃ x H', Inv X pins σ H' s2 ∧ RelV x u ∧ J.yld i H x H' ∧ tn (i + 1) s2.heap ∧ ∀ b ∈ fp, H' b = none) E s1) E s
  done : ∀ (X : Cx), X.prog = P → X.w = w → X.K = K → X.calm = true → ∀ (i : Nat) (pins : List (Addr × Obj)) (s : Shared) (σ : St) (H : Hp) (E : Value → Shared → Prop), Inv X pins σ H s → (∀ b ∈ fp, FpOk X pins H b) → tn i s.heap → J.stop i H →
    wpAny (model P w) X.A (pyNext (.ref it)) (fun r s1 => r = none ∧ Inv X pins σ H s1) E s
  self : ∀ (A : Around) (i : Nat) (s : Shared) (Q : Value → Shared → Prop) (E : Value → Shared → Prop), tn i s.heap → Q (.ref it) s → wpAny (model P w) A (pyIter (.ref it)) Q E s
abbrev TI := St → Hp → (It → Hp → Prop) → Prop
noncomputable def PIE (X : Cx) (pins : List (Addr × Obj)) (σ : St) (tg : Expr) (R : It → Hp → Prop) (itv : Value) (s2 : Shared) : Prop :=
  ∃ (it : Addr) (fp : List Addr) (tn : Nat → Heap → Prop) (J : It) (H' : Hp), itv = .ref it ∧ Inv X pins σ H' s2 ∧ Turn X.prog X.w X.K tg J fp it tn ∧ tn 0 s2.heap ∧ (∀ b ∈ fp, FpOk X pins H' b) ∧ R J H'
noncomputable def PI (X : Cx) (tg iter : Expr) (wi : TI) : Prop :=
  ∀ (pins : List (Addr × Obj)) (s : Shared) (σ : St) (H : Hp) (R : It → Hp → Prop), Inv X pins σ H s → wi σ H R →
    wpAny (model X.prog X.w) X.A (eval iter X.env) (fun v s1 => wpAny (model X.prog X.w) X.A (pyIter v) (PIE X pins σ tg R) X.xe s1) X.xe s
theorem go_of {M : Model} {A : Around} {E : Value → Shared → Prop} {s : Shared} {tg : Expr} {it : Addr} {u : Value} {o : Obj} {n : String} {vs : Array Value} {Q : Unit → Shared → Prop} (ho : s.heap.get? it = some o) (hc : o.cls = .type n) (hd : o.data = .fields vs)
    (hn : ["enumerate", "zip", "dict_itemiterator", "dict_reverseitemiterator", "odict_iterator", "itertools.zip_longest", "itertools.pairwise"].contains n = false) (hQ : Q () s) : wpAny M A (letOwnedTupleGo tg (.ref it) u) Q E s := by
  unfold letOwnedTupleGo
  cases tg <;> first
    | exact wpAny_pure hQ
    | (cases u <;> first
        | exact wpAny_pure hQ
        | (refine wpAny_bind (wpAny_load ho ?_)
           rw [hc, hd]
           show wpAny M A (if (["enumerate", "zip", "dict_itemiterator", "dict_reverseitemiterator", "odict_iterator", "itertools.zip_longest", "itertools.pairwise"].contains n && vs[0]? == some (rawInt _)) = true then _ else _) Q E s
           rw [if_neg (by intro h; rw [hn, Bool.false_and] at h; cases h)]
           exact wpAny_pure hQ))
noncomputable def Itl (K : PySem.W.Frag) (a : Addr) : It :=
  ⟨fun i H => ∃ xs x, SqL K H a xs ∧ xs[i]? = some x, fun i H x H' => H' = H ∧ ∀ xs, SqL K H a xs → xs[i]? = some x, fun i H => ∃ xs, SqL K H a xs ∧ xs.length ≤ i⟩
noncomputable def Itt (K : PySem.W.Frag) (a : Addr) : It :=
  ⟨fun i H => ∃ xs x, SqT K H a xs ∧ xs[i]? = some x, fun i H x H' => H' = H ∧ ∀ xs, SqT K H a xs → xs[i]? = some x, fun i H => ∃ xs, SqT K H a xs ∧ xs.length ≤ i⟩
noncomputable def Itr (lo : Int) (n : Nat) : It := ⟨fun i _ => i < n, fun i H x H' => H' = H ∧ x = .int (lo + i), fun i _ => n ≤ i⟩
theorem turn_list {P : Program} {w : World} {K : PySem.W.Frag} {tg : Expr} (a it : Addr) : Turn P w K tg (Itl K a) [it] it (fun i h => h.IsListIter it a i) where
  mem := by simp
  obj := fun i h st b hb => by
    have e : b = it := by simpa using hb
    subst e
    obtain ⟨o, e, c, d⟩ := st
    exact ⟨o, e, fun v z => by rw [d] at z; cases z⟩
  keep := fun i h h' st k => st.at fun o e => k it (by simp) o e
  item := by
    intro X hP hw hK hc i pins s σ H E I hf st hg
    subst hP hw hK
    obtain ⟨xs, x, hq, hx⟩ := hg
    obtain ⟨its, rv, p, hz⟩ := I.list hq
    obtain ⟨u, hu, ru⟩ := rv.get hx
    obtain ⟨f0, f1, f2, f3, f4, f5⟩ := hf it (by simp)
    refine wpAny_pyNext_list_item st p.isList (x := u) (by simpa using hu) fun h' st' sb => ?_
    have I1 : Inv X pins σ H { s with heap := h' } := I.turned (t' := s.toks) (fun b o hb e => (sb.2 b hb).trans e) f0 f1 f3 f4 f5
    obtain ⟨o, e, c, d⟩ := id st'
    exact ⟨u, rfl, go_of (s := { s with heap := h' }) e c d (by decide) ⟨x, H, I1, ru, ⟨rfl, fun ys hy => by rw [I.list_inj hy hq]; exact hx⟩, st', fun b hb => (hf b hb).1⟩⟩
  done := by
    intro X hP hw hK hc i pins s σ H E I hf st hg
    subst hP hw hK
    obtain ⟨xs, hq, hx⟩ := hg
    obtain ⟨its, rv, p, hz⟩ := I.list hq
    obtain ⟨f0, f1, f2, f3, f4, f5⟩ := hf it (by simp)
    have hl := rv.length
    exact wpAny_pyNext_list_end (I.ok.hd hc) st p.isList (by simp; omega) fun h' eb => ⟨rfl, I.turned (t' := s.toks) (fun b o hb e => eb b o hb e) f0 f1 f3 f4 f5⟩
  self := fun _ _ _ _ _ st h => wpAny_pyIter_listiter st h
theorem turn_tuple {P : Program} {w : World} {K : PySem.W.Frag} {tg : Expr} (a it : Addr) : Turn P w K tg (Itt K a) [it] it (fun i h => h.IsTupleIter it a i) where
  mem := by simp
  obj := fun i h st b hb => by
    have e : b = it := by simpa using hb
    subst e
    obtain ⟨o, e, c, d⟩ := st
    exact ⟨o, e, fun v z => by rw [d] at z; cases z⟩
  keep := fun i h h' st k => st.at fun o e => k it (by simp) o e
  item := by
    intro X hP hw hK hc i pins s σ H E I hf st hg
    subst hP hw hK
    obtain ⟨xs, x, hq, hx⟩ := hg
    obtain ⟨its, rv, p, hz⟩ := I.tuple hq
    obtain ⟨u, hu, ru⟩ := rv.get hx
    obtain ⟨f0, f1, f2, f3, f4, f5⟩ := hf it (by simp)
    refine wpAny_pyNext_tuple_item st (show s.heap.IsTuple a its.toArray from p) (x := u) (by simpa using hu) fun h' st' sb => ?_
    have I1 : Inv X pins σ H { s with heap := h' } := I.turned (t' := s.toks) (fun b o hb e => (sb.2 b hb).trans e) f0 f1 f3 f4 f5
    obtain ⟨o, e, c, d⟩ := id st'
    exact ⟨u, rfl, go_of (s := { s with heap := h' }) e c d (by decide) ⟨x, H, I1, ru, ⟨rfl, fun ys hy => by rw [I.tuple_inj hy hq]; exact hx⟩, st', fun b hb => (hf b hb).1⟩⟩
  done := by
    intro X hP hw hK hc i pins s σ H E I hf st hg
    subst hP hw hK
    obtain ⟨xs, hq, hx⟩ := hg
    obtain ⟨its, rv, p, hz⟩ := I.tuple hq
    obtain ⟨f0, f1, f2, f3, f4, f5⟩ := hf it (by simp)
    have hl := rv.length
    exact wpAny_pyNext_tuple_end (I.ok.hd hc) st (show s.heap.IsTuple a its.toArray from p) (by simp; omega) fun h' eb => ⟨rfl, I.turned (t' := s.toks) (fun b o hb e => eb b o hb e) f0 f1 f3 f4 f5⟩
  self := fun _ _ _ _ _ st h => wpAny_pyIter_tupleiter st h
theorem turn_range {P : Program} {w : World} {K : PySem.W.Frag} {tg : Expr} (it : Addr) (lo : Int) (n : Nat) : Turn P w K tg (Itr lo n) [it] it (fun i h => IsRangeIter h it (lo + (i : Nat) * 1) ((n : Int) - (i : Nat)) 1) where
  mem := by simp
  obj := fun i h st b hb => by
    have e : b = it := by simpa using hb
    subst e
    exact ⟨_, st, fun v z => by
      have z' : Data.fields _ = Data.cell v := z
      cases z'⟩
  keep := fun i h h' st k => k it (by simp) _ st
  item := by
    intro X hP hw hK hc i pins s σ H E I hf st hg
    subst hP hw hK
    obtain ⟨f0, f1, f2, f3, f4, f5⟩ := hf it (by simp)
    have W := Walks.range (prog := X.prog) (w := X.w) (I.ok.hd hc) it lo 1 n
    refine W.item i s _ _ hg st fun v h' tk hv st' kk => ?_
    obtain ⟨t, rfl⟩ := hv
    have I1 : Inv X pins σ H { s with heap := h', toks := tk } := I.turned (fun b o hb e => kk b o (by simpa using hb) e) f0 f1 f3 f4 f5
    refine ⟨_, rfl, go_of (s := { s with heap := h', toks := tk }) (n := "range_iterator") st' rfl rfl (by decide) ⟨.int (lo + i), H, I1, ⟨t, ?_⟩, ⟨rfl, rfl⟩, st', fun b hb => (hf b hb).1⟩⟩
    rw [Int.mul_one]
  done := by
    intro X hP hw hK hc i pins s σ H E I hf st hg
    subst hP hw hK
    obtain ⟨f0, f1, f2, f3, f4, f5⟩ := hf it (by simp)
    exact wpAny_pyNext_range_end (I.ok.hd hc) st (by have : n ≤ i := hg; omega) fun h' eb => ⟨rfl, I.turned (t' := s.toks) (fun b o hb e => eb b o hb e) f0 f1 f3 f4 f5⟩
  self := fun _ _ _ _ _ st h => wpAny_pyIter_rangeiter st h
end L2
namespace L2
open PySem PySem.Spec PyProof.Rows
section
variable {X : Cx} {tg : Expr}
noncomputable def iList (K : PySem.W.Frag) (tl : TE) : TI := fun σ H R => tl σ H fun x H1 => ∃ a, x = .ref a ∧ (∃ xs, SqL K H1 a xs) ∧ R (Itl K a) H1
noncomputable def iTup (K : PySem.W.Frag) (tl : TE) : TI := fun σ H R => tl σ H fun x H1 => ∃ a, x = .ref a ∧ (∃ xs, SqT K H1 a xs) ∧ R (Itt K a) H1
theorem range_it {pins : List (Addr × Obj)} {σ : St} {H : Hp} {s : Shared} {R : It → Hp → Prop} {E : Value → Shared → Prop} {lo hi : Int} {t u v : Tok} {tk : Nat} (I : Inv X pins σ H s) (h1 : -(2 ^ 62) ≤ lo) (h2 : lo < 2 ^ 62) (h3 : -(2 ^ 62) ≤ hi) (h4 : hi < 2 ^ 62)
    (q : R (Itr lo (hi - lo).toNat) H) : wpAny (model X.prog X.w) X.A (pyIter (.ref s.heap.objs.size)) (PIE X pins σ tg R) E { s with heap := s.heap.push { cls := .type "range", data := .fields #[.int lo t, .int hi u, .int 1 v] }, toks := tk } := by
  refine wpAny_pyIter_range (IsRange.new ..) (small_one h1 h2 h3 h4) ?_
  have I1 : Inv X pins σ H { s with heap := s.heap.push { cls := .type "range", data := .fields #[.int lo t, .int hi u, .int 1 v] }, toks := tk } := I.kept fun b o e => Heap.get?_push_of_some _ e
  refine ⟨(s.heap.push { cls := .type "range", data := .fields #[.int lo t, .int hi u, .int 1 v] }).objs.size, [(s.heap.push { cls := .type "range", data := .fields #[.int lo t, .int hi u, .int 1 v] }).objs.size], _, _, H, rfl,
    I1.kept (t' := tk) fun b o e => Heap.get?_push_of_some _ e, turn_range _ lo (hi - lo).toNat, ?_, fun b hb => ?_, q⟩
  · have e1 : lo + ((0 : Nat) : Int) * 1 = lo := by simp
    have e2 : (((hi - lo).toNat : Nat) : Int) - ((0 : Nat) : Int) = Builtin.Range.rangeSize lo hi 1 := by rw [rangeSize_one]; split <;> omega
    show IsRangeIter _ _ (lo + ((0 : Nat) : Int) * 1) ((((hi - lo).toNat : Nat) : Int) - ((0 : Nat) : Int)) 1
    rw [e1, e2]
    exact Heap.get?_push_size _ rfl
  · have e : b = (s.heap.push { cls := .type "range", data := .fields #[.int lo t, .int hi u, .int 1 v] }).objs.size := by simpa using hb
    subst e
    exact I1.fpOk (Nat.le_refl _) (I1.hok.fresh (Nat.le_refl _))
noncomputable def iRng1 (ta : TA) : TI := fun σ H R => ta σ H fun vs H1 => ∃ j : Int, vs = [.int j] ∧ -(2 ^ 62) ≤ j ∧ j < 2 ^ 62 ∧ R (Itr 0 j.toNat) H1
theorem pi_range1 {a : Expr} {ta : TA} {p pos : Pos} (hg : Gl X "range") (hm : X.mg "range" = none) (ha : PA X [a] ta) (hs : starEach [a] X.env = [(false, eval a X.env)] := by rfl) : PI X tg (.Call (.Name "range" p) [a] [] pos) (iRng1 ta) := by
  intro pins s σ H R I h
  refine Call_ (ld_blt I hg hm boot_range (PyProof.Rows.callWith_type1 (thn (ha pos pins s σ H _ I h) fun us s1 ⟨vs, H1, I1, r1, q1⟩ => ?_) hs rfl))
  obtain ⟨j, e, q1, q2, q⟩ := q1
  subst e
  cases r1 with
  | cons r rr =>
    cases rr
    obtain ⟨t, rfl⟩ := r
    exact call_range_1 (range_it I1 (by omega) (by omega) q1 q2 (by simpa using q))
noncomputable def tFor (wi : TI) (g : TG) (tb : TS) : TS := fun D σ H => wi σ H fun J H1 => ∃ W : Nat → Nat → St → Hp → Prop, (∃ m, W 0 m σ H1) ∧ ∀ i m σ H, W i m σ H →
  (J.stop i H ∧ D.nx σ H) ∨ (J.go i H ∧ ∃ N : St → Hp → Prop, (∀ σ' H', N σ' H' → ∃ m', m' < m ∧ W (i + 1) m' σ' H') ∧ ∀ x H', J.yld i H x H' → g x σ H' fun σ2 H2 => tb { D with nx := N, ct := N, bk := D.nx } σ2 H2)
noncomputable def pinsAt (fp : List Addr) (h : Heap) : List (Addr × Obj) := fp.filterMap fun b => (h.get? b).map fun o => (b, o)
theorem mem_pinsAt {fp : List Addr} {h : Heap} {b : Addr} {o : Obj} (hb : b ∈ fp) (e : h.get? b = some o) : (b, o) ∈ pinsAt fp h := List.mem_filterMap.mpr ⟨b, hb, by rw [e]; rfl⟩
theorem of_pinsAt {fp : List Addr} {h : Heap} {p : Addr × Obj} (hp : p ∈ pinsAt fp h) : p.1 ∈ fp ∧ h.get? p.1 = some p.2 := by
  obtain ⟨b, hb, e⟩ := List.mem_filterMap.mp hp
  cases q : h.get? b with
  | none => rw [q] at e; cases e
  | some o =>
    rw [q] at e
    have e' : (b, o) = p := Option.some.inj e
    subst e'
    exact ⟨hb, q⟩
theorem Inv.pinned {pins : List (Addr × Obj)} {σ : St} {H : Hp} {s : Shared} {fp : List Addr} (I : Inv X pins σ H s) (hf : ∀ b ∈ fp, FpOk X pins H b) (ho : ∀ b ∈ fp, ∃ o, s.heap.get? b = some o ∧ ∀ v, o.data ≠ .cell v) : Inv X (pins ++ pinsAt fp s.heap) σ H s :=
  I.pins_of fun p hp => (List.mem_append.mp hp).elim (fun z => I.pin p (List.mem_append_right _ z)) fun z => by
    obtain ⟨hb, e⟩ := of_pinsAt z
    obtain ⟨f0, f1, f2, _⟩ := hf p.1 hb
    obtain ⟨o, e', d⟩ := ho p.1 hb
    rw [e] at e'; cases e'
    exact ⟨e, f0, f1, f2, d⟩
theorem Inv.unpinned {pins pl : List (Addr × Obj)} {σ : St} {H : Hp} {s : Shared} (I : Inv X (pins ++ pl) σ H s) : Inv X pins σ H s := I.pins_of fun p hp => I.pin p (List.mem_append_right _ (List.mem_append_left _ hp))
theorem ps_for {iter : Expr} {body : List Stmt} {wi : TI} {g : TG} {tb : TS} {pos : Pos} (hp : PassesOwn (model X.prog X.w) X.A X.env X.xe) (hc : X.calm = true) (hi : PI X tg iter wi) (hg : PG X tg g) (hb : PSs X body tb)
    (hs : ∀ x, foldedSetIterable iter X.env x = pure x := by intro _; rfl) : PS X (.For tg iter body [] pos) (tFor wi g tb) := by
  intro pins s σ H D I h
  refine wpAny_For (thn (hi pins s σ H _ I h) fun v s1 h1 => thn h1 fun itv s2 h2 => ?_) hs
  obtain ⟨it, fp, tn, J, H2, e, I2, T, st2, f2, W, ⟨m0, w0⟩, turn⟩ := h2
  subst e
  have stat : ∀ {H' : Hp}, (∀ b ∈ fp, H' b = none) → ∀ b ∈ fp, FpOk X pins H' b := fun hn b hb => ⟨hn b hb, (f2 b hb).2⟩
  refine codeAny_forLoop_any (fun n s' => ∃ i σ' H', Inv X pins σ' H' s' ∧ tn i s'.heap ∧ (∀ b ∈ fp, H' b = none) ∧ W i n σ' H') ?_ m0 ⟨0, σ, H2, I2, st2, fun b hb => (f2 b hb).1, w0⟩
  rintro n s3 ⟨i, σ3, H3, I3, st3, fr3, w3⟩
  rcases turn i n σ3 H3 w3 with ⟨stop, qn⟩ | ⟨go, N, hN, step⟩
  · refine wpAny_passesOwn hp (thn (T.done X rfl rfl rfl hc i pins s3 σ3 H3 X.xe I3 (stat fr3) st3 stop) fun r s4 ⟨hr, I4⟩ => ?_)
    subst hr
    exact wpAny_execs_nil ⟨σ3, H3, I4, qn⟩
  · refine wpAny_passesOwn hp (thn (T.item X rfl rfl rfl hc i pins s3 σ3 H3 X.xe I3 (stat fr3) st3 go) fun r s4 ⟨u, hr, h4⟩ => ?_)
    subst hr
    refine wpAny_passesOwn hp (thn h4 fun _ s5 ⟨x, H5, I5, r5, y5, st5, fr5⟩ => ?_)
    have I5' := I5.pinned (stat fr5) (T.obj _ _ st5)
    refine wpAny_passesOwn hp (thn (hg _ s5 σ3 H5 x u _ I5' r5 (step x H5 y5)) fun _ s6 ⟨σ6, H6, I6, q6⟩ => ?_)
    refine wpAny_passesOwn hp (thn (hb _ s6 σ6 H6 _ I6 q6) fun f s7 q7 => ?_)
    have again : ∀ {σ7 : St} {H7 : Hp}, Inv X (pins ++ pinsAt fp s5.heap) σ7 H7 s7 → N σ7 H7 → ∃ m, m < n ∧ ∃ i σ' H', Inv X pins σ' H' s7 ∧ tn i s7.heap ∧ (∀ b ∈ fp, H' b = none) ∧ W i m σ' H' := fun {σ7 H7} I7 n7 => by
      obtain ⟨m', hm, w7⟩ := hN σ7 H7 n7
      refine ⟨m', hm, i + 1, σ7, H7, I7.unpinned, T.keep _ _ _ st5 fun b hb o e => (I7.pin (b, o) (List.mem_append_right _ (List.mem_append_right _ (mem_pinsAt hb e)))).1, fun b hb => ?_, w7⟩
      obtain ⟨o, e, d⟩ := T.obj _ _ st5 b hb
      exact (I7.pin (b, o) (List.mem_append_right _ (List.mem_append_right _ (mem_pinsAt hb e)))).2.1
    cases f with
    | next => obtain ⟨σ7, H7, I7, n7⟩ := q7; exact again I7 n7
    | cont => obtain ⟨σ7, H7, I7, n7⟩ := q7; exact again I7 n7
    | brk => obtain ⟨σ7, H7, I7, q7⟩ := q7; exact ⟨σ7, H7, I7.unpinned, q7⟩
    | ret v => obtain ⟨x7, σ7, H7, I7, r7, q7⟩ := q7; exact ⟨x7, σ7, H7, I7.unpinned, r7, q7⟩
end
end L2
namespace L2
open PySem PySem.Spec PyProof.Rows
abbrev R2 := V → V → Hp → VK → Prop
noncomputable def OpR (X : Cx) (f : Value → Value → Sem Value) (r : R2) : Prop :=
  ∀ (pins : List (Addr × Obj)) (s : Shared) (σ : St) (H : Hp) (x y : V) (v u : Value) (Q : VK), Inv X pins σ H s → RelV x v → RelV y u → r x y H Q →
    wpAny (model X.prog X.w) X.A (f v u) (EP X pins σ Q) X.xe s
noncomputable def CallR (X : Cx) (f : Value) (r : List V → Hp → VK → Prop) : Prop :=
  ∀ (pins : List (Addr × Obj)) (s : Shared) (σ : St) (H : Hp) (xs : List V) (us : List Value) (Q : VK), Inv X pins σ H s → Vals xs us → r xs H Q →
    wpAny (model X.prog X.w) X.A (call f us) (EP X pins σ Q) X.xe s
noncomputable def tOp (r : R2) (ta tb : TE) : TE := fun σ H Q => ta σ H fun x H1 => tb σ H1 fun y H2 => r x y H2 Q
noncomputable def tUn (r : V → Hp → VK → Prop) (ta : TE) : TE := fun σ H Q => ta σ H fun x H1 => r x H1 Q
noncomputable def rI (C : Int → Int → Prop) (g : Int → Int → V) : R2 := fun x y H Q => ∃ i j, x = .int i ∧ y = .int j ∧ C i j ∧ Q (g i j) H
noncomputable def rI0 (g : Int → Int → V) : R2 := fun x y H Q => ∃ i j, x = .int i ∧ y = .int j ∧ Q (g i j) H
noncomputable def rU (g : Int → V) : V → Hp → VK → Prop := fun x H Q => ∃ i, x = .int i ∧ Q (g i) H
section
variable {X : Cx} {a b c : Expr} {ta tb tc : TE} {pos : Pos}
theorem binT (ha : PE X a ta) (hb : PE X b tb) {pins : List (Addr × Obj)} {s : Shared} {σ : St} {H : Hp} {R : V → V → Hp → Prop} (I : Inv X pins σ H s)
    (h : ta σ H fun x H1 => tb σ H1 fun y H2 => R x y H2) {Q : Value → Shared → Prop} {f : Value → Value → Sem Value}
    (hf : ∀ v u s2 x y H2, Inv X pins σ H2 s2 → RelV x v → RelV y u → R x y H2 → wpAny (model X.prog X.w) X.A (f v u) Q X.xe s2) :
    wpAny (model X.prog X.w) X.A (eval a X.env) (fun v s₁ => wpAny (model X.prog X.w) X.A (eval b X.env) (fun u s₂ => wpAny (model X.prog X.w) X.A (f v u) Q X.xe s₂) X.xe s₁) X.xe s := by
  refine thn (ha pins s σ H _ I h) fun v s1 ⟨x, H1, I1, r1, q1⟩ => ?_
  refine thn (hb pins s1 σ H1 _ I1 q1) fun u s2 ⟨y, H2, I2, r2, q2⟩ => ?_
  exact hf v u s2 x y H2 I2 r1 r2 q2
theorem pe_op {op : Operator} {r : R2} (ho : OpR X (binaryOp op) r) (ha : PE X a ta) (hb : PE X b tb) : PE X (.BinOp a op b pos) (tOp r ta tb) := by
  intro pins s σ H Q I h
  exact wpAny_BinOp (binT ha hb I h fun v u s2 x y H2 I2 rx ry q => ho pins s2 σ H2 x y v u Q I2 rx ry q)
theorem opI {f : Value → Value → Sem Value} {C : Int → Int → Prop} {g : Int → Int → Int}
    (rule : ∀ (i j : Int) (t u : Tok) (s : Shared) (Q : Value → Shared → Prop) (E : Value → Shared → Prop), C i j → Q (.int (g i j) s.toks) { s with toks := s.toks + 1 } → wpAny (model X.prog X.w) X.A (f (.int i t) (.int j u)) Q E s) :
    OpR X f (rI C fun i j => .int (g i j)) := by
  intro pins s σ H x y v u Q I rx ry h
  obtain ⟨i, j, rfl, rfl, hc, q⟩ := h
  obtain ⟨t, rfl⟩ := rx
  obtain ⟨t', rfl⟩ := ry
  exact rule i j t t' s _ _ hc ⟨.int (g i j), H, I.tok _, ⟨_, rfl⟩, q⟩
theorem opI0 {f : Value → Value → Sem Value} {g : Int → Int → Int}
    (rule : ∀ (i j : Int) (t u : Tok) (s : Shared) (Q : Value → Shared → Prop) (E : Value → Shared → Prop), Q (.int (g i j) s.toks) { s with toks := s.toks + 1 } → wpAny (model X.prog X.w) X.A (f (.int i t) (.int j u)) Q E s) :
    OpR X f (rI0 fun i j => .int (g i j)) := by
  intro pins s σ H x y v u Q I rx ry h
  obtain ⟨i, j, rfl, rfl, q⟩ := h
  obtain ⟨t, rfl⟩ := rx
  obtain ⟨t', rfl⟩ := ry
  exact rule i j t t' s _ _ ⟨.int (g i j), H, I.tok _, ⟨_, rfl⟩, q⟩
theorem opB0 {f : Value → Value → Sem Value} {g : Int → Int → Bool}
    (rule : ∀ (i j : Int) (t u : Tok) (s : Shared) (Q : Value → Shared → Prop) (E : Value → Shared → Prop), Q (.bool (g i j)) s → wpAny (model X.prog X.w) X.A (f (.int i t) (.int j u)) Q E s) :
    OpR X f (rI0 fun i j => .bl (g i j)) := by
  intro pins s σ H x y v u Q I rx ry h
  obtain ⟨i, j, rfl, rfl, q⟩ := h
  obtain ⟨t, rfl⟩ := rx
  obtain ⟨t', rfl⟩ := ry
  exact rule i j t t' s _ _ ⟨.bl (g i j), H, I, rfl, q⟩
noncomputable def CDiv (i j : Int) : Prop := 0 < j ∧ j < 1073741824
noncomputable def CPow (i j : Int) : Prop := 0 ≤ j ∧ j ≤ 1000000 ∧ i.natAbs < 2 ^ 64
noncomputable def CMul (i j : Int) : Prop := (-(2 ^ 64) < i ∧ i < 2 ^ 64) ∨ (-(2 ^ 64) < j ∧ j < 2 ^ 64)
theorem CMul.ok {i j : Int} (h : CMul i j) : IntMulOk i j := by
  rcases h with ⟨h1, h2⟩ | ⟨h1, h2⟩
  · exact .of_left (intBits_le_64 h1 h2)
  · exact .of_right (intBits_le_64 h1 h2)
theorem op_add : OpR X (binaryOp .Add) (rI0 fun i j => .int (i + j)) := opI0 fun _ _ _ _ _ _ _ q => add_int q
theorem op_sub : OpR X (binaryOp .Sub) (rI0 fun i j => .int (i - j)) := opI0 fun _ _ _ _ _ _ _ q => sub_int q
theorem op_mul : OpR X (binaryOp .Mult) (rI CMul fun i j => .int (i * j)) := opI fun _ _ _ _ _ _ _ hc q => mul_int q hc.ok
theorem op_fdiv : OpR X (binaryOp .FloorDiv) (rI CDiv fun i j => .int (i / j)) := opI fun i j _ _ _ _ _ hc q => by
  have h1 : (0 : Int) < j := hc.1
  have h2 : j < 1073741824 := hc.2
  exact floordiv_int (by omega) (by rw [Int.fdiv_eq_ediv_of_nonneg i (by omega)]; exact q) (.inl (PyProof.noPylong_small (by omega)))
theorem op_mod : OpR X (binaryOp .Mod) (rI (fun _ j => 0 < j) fun i j => .int (i % j)) := opI fun i j _ _ _ _ _ hc q => by
  have h1 : (0 : Int) < j := hc
  exact mod_int' (by omega) (by rw [Int.fmod_eq_emod_of_nonneg i (by omega)]; exact q)
theorem op_pow : OpR X (binaryOp .Pow) (rI CPow fun i j => .int (i ^ j.toNat)) := opI fun _ _ _ _ _ _ _ hc q => pow_int_small hc.1 hc.2.1 hc.2.2 q
end
noncomputable def scal : V → V → Bool
  | .non, .non => true | .non, .int _ => true | .int _, .non => true | .non, .bl _ => true | .bl _, .non => true | .non, .str _ => true | .str _, .non => true
  | .int _, .int _ => true | .bl _, .bl _ => true | .str _, .str _ => true | .byt _, .byt _ => true
  | .int _, .str _ => true | .str _, .int _ => true | .bl _, .str _ => true | .str _, .bl _ => true
  | _, _ => false
noncomputable def rEq : R2 := fun x y H Q => scal x y = true ∧ Q (.bl (decide (x = y))) H
noncomputable def rNe : R2 := fun x y H Q => scal x y = true ∧ Q (.bl (!decide (x = y))) H
theorem dec_int {i j : Int} : decide (V.int i = V.int j) = (i == j) := by
  rw [Bool.eq_iff_iff]
  simp
theorem dec_bl {i j : Bool} : decide (V.bl i = V.bl j) = (i == j) := by
  rw [Bool.eq_iff_iff]
  simp
theorem dec_str {i j : Str} : decide (V.str i = V.str j) = (i == j) := by
  rw [Bool.eq_iff_iff]
  simp
theorem dec_byt {i j : Array UInt8} : decide (V.byt i = V.byt j) = (i.toList == j.toList) := by
  rw [Bool.eq_iff_iff]
  cases i
  cases j
  simp
section
variable {X : Cx} {a b c : Expr} {ta tb tc : TE} {pos : Pos}
theorem fin_bl {pins : List (Addr × Obj)} {σ : St} {H : Hp} {s : Shared} {Q : VK} {k k' : Bool} (I : Inv X pins σ H s) (q : Q (.bl k) H) (e : k = k') : EP X pins σ Q (.bool k') s := by
  subst e
  exact ⟨.bl k, H, I, rfl, q⟩
theorem op_eq : OpR X (compareOp .Eq) rEq := by
  intro pins s σ H x y v u Q I rx ry h
  obtain ⟨hs, q⟩ := h
  cases x with
  | non =>
    cases rx
    cases y with
    | non => cases ry; exact PySem.EqNone.eq_none_none (fin_bl I q (by simp))
    | bl j => cases ry; exact PySem.EqNone.eq_none_bool (fin_bl I q (by simp))
    | int j => obtain ⟨t', rfl⟩ := ry; exact PySem.EqNone.eq_none_int (fin_bl I q (by simp))
    | str j => obtain ⟨t', rfl⟩ := ry; exact PySem.EqNone.eq_none_str (fin_bl I q (by simp))
    | _ => exact absurd (show false = true from hs) Bool.false_ne_true
  | bl i =>
    cases rx
    cases y with
    | non => cases ry; exact PySem.EqNone.eq_bool_none (fin_bl I q (by simp))
    | bl j => cases ry; exact eq_bool (fin_bl I q dec_bl)
    | str j => obtain ⟨t', rfl⟩ := ry; exact PySem.EqMixed.eq_bool_str (fin_bl I q (by simp))
    | _ => exact absurd (show false = true from hs) Bool.false_ne_true
  | int i =>
    obtain ⟨t, rfl⟩ := rx
    cases y with
    | non => cases ry; exact PySem.EqNone.eq_int_none (fin_bl I q (by simp))
    | int j => obtain ⟨t', rfl⟩ := ry; exact eq_int (fin_bl I q dec_int)
    | str j => obtain ⟨t', rfl⟩ := ry; exact PySem.EqMixed.eq_int_str (fin_bl I q (by simp))
    | _ => exact absurd (show false = true from hs) Bool.false_ne_true
  | str i =>
    obtain ⟨t, rfl⟩ := rx
    cases y with
    | non => cases ry; exact PySem.EqNone.eq_str_none (fin_bl I q (by simp))
    | bl j => cases ry; exact PySem.EqMixed.eq_str_bool (fin_bl I q (by simp))
    | int j => obtain ⟨t', rfl⟩ := ry; exact PySem.EqMixed.eq_str_int (fin_bl I q (by simp))
    | str j => obtain ⟨t', rfl⟩ := ry; exact eq_str (fin_bl I q dec_str)
    | _ => exact absurd (show false = true from hs) Bool.false_ne_true
  | byt i =>
    obtain ⟨t, rfl⟩ := rx
    cases y with
    | byt j => obtain ⟨t', rfl⟩ := ry; exact PySem.W.eq_bytes (fin_bl I q dec_byt)
    | _ => exact absurd (show false = true from hs) Bool.false_ne_true
  | _ => cases y <;> exact absurd (show false = true from hs) Bool.false_ne_true
theorem op_ne : OpR X (compareOp .NotEq) rNe := by
  intro pins s σ H x y v u Q I rx ry h
  obtain ⟨hs, q⟩ := h
  cases x with
  | non =>
    cases rx
    cases y with
    | non => cases ry; exact PySem.EqNone.ne_none_none (fin_bl I q (by simp))
    | bl j => cases ry; exact PySem.EqNone.ne_none_bool (fin_bl I q (by simp))
    | int j => obtain ⟨t', rfl⟩ := ry; exact PySem.EqNone.ne_none_int (fin_bl I q (by simp))
    | str j => obtain ⟨t', rfl⟩ := ry; exact PySem.EqNone.ne_none_str (fin_bl I q (by simp))
    | _ => exact absurd (show false = true from hs) Bool.false_ne_true
  | bl i =>
    cases rx
    cases y with
    | non => cases ry; exact PySem.EqNone.ne_bool_none (fin_bl I q (by simp))
    | bl j => cases ry; exact ne_bool (fin_bl I q (congrArg not dec_bl))
    | str j => obtain ⟨t', rfl⟩ := ry; exact PySem.EqMixed.ne_bool_str (fin_bl I q (by simp))
    | _ => exact absurd (show false = true from hs) Bool.false_ne_true
  | int i =>
    obtain ⟨t, rfl⟩ := rx
    cases y with
    | non => cases ry; exact PySem.EqNone.ne_int_none (fin_bl I q (by simp))
    | int j => obtain ⟨t', rfl⟩ := ry; exact ne_int (fin_bl I q (congrArg not dec_int))
    | str j => obtain ⟨t', rfl⟩ := ry; exact PySem.EqMixed.ne_int_str (fin_bl I q (by simp))
    | _ => exact absurd (show false = true from hs) Bool.false_ne_true
  | str i =>
    obtain ⟨t, rfl⟩ := rx
    cases y with
    | non => cases ry; exact PySem.EqNone.ne_str_none (fin_bl I q (by simp))
    | bl j => cases ry; exact PySem.EqMixed.ne_str_bool (fin_bl I q (by simp))
    | int j => obtain ⟨t', rfl⟩ := ry; exact PySem.EqMixed.ne_str_int (fin_bl I q (by simp))
    | str j => obtain ⟨t', rfl⟩ := ry; exact ne_str (fin_bl I q (congrArg not dec_str))
    | _ => exact absurd (show false = true from hs) Bool.false_ne_true
  | byt i =>
    obtain ⟨t, rfl⟩ := rx
    cases y with
    | byt j => obtain ⟨t', rfl⟩ := ry; exact PySem.W.ne_bytes (fin_bl I q (congrArg not dec_byt))
    | _ => exact absurd (show false = true from hs) Bool.false_ne_true
  | _ => cases y <;> exact absurd (show false = true from hs) Bool.false_ne_true
theorem op_lt : OpR X (compareOp .Lt) (rI0 fun i j => .bl (decide (i < j))) := opB0 fun _ _ _ _ _ _ _ q => lt_int q
theorem op_gt : OpR X (compareOp .Gt) (rI0 fun i j => .bl (decide (j < i))) := opB0 fun _ _ _ _ _ _ _ q => gt_int q
theorem op_ge : OpR X (compareOp .GtE) (rI0 fun i j => .bl (decide (j ≤ i))) := opB0 fun _ _ _ _ _ _ _ q => ge_int q
theorem op_in_str : OpR X (compareOp .In) (fun x y H Q => ∃ i j, x = .str i ∧ y = .str j ∧ Q (.bl (!(Builtin.Str.occurrences j i 0 j.length 1).isEmpty)) H) := by
  intro pins s σ H x y v u Q I rx ry h
  obtain ⟨i, j, rfl, rfl, q⟩ := h
  obtain ⟨t, rfl⟩ := rx
  obtain ⟨t', rfl⟩ := ry
  exact in_str (fin_bl I q rfl)
theorem OpR.or {f : Value → Value → Sem Value} {r r' : R2} (h : OpR X f r) (h' : OpR X f r') : OpR X f (fun x y H Q => r x y H Q ∨ r' x y H Q) := by
  intro pins s σ H x y v u Q I rx ry q
  rcases q with q | q
  · exact h pins s σ H x y v u Q I rx ry q
  · exact h' pins s σ H x y v u Q I rx ry q
theorem nomark (b : Expr) {op : CmpOp} (h : op ≠ .In := by decide) (h2 : op ≠ .NotIn := by decide) : behindInMarks op b = false := by
  have e1 : (op == CmpOp.In) = false := by cases op <;> first | rfl | exact absurd rfl h
  have e2 : (op == CmpOp.NotIn) = false := by cases op <;> first | rfl | exact absurd rfl h2
  cases b <;> simp [behindInMarks, e1, e2]
theorem pe_cmpR {op : CmpOp} {r : R2} (ho : OpR X (compareOp op) r) (ha : PE X a ta) (hb : PE X b tb) (hm : behindInMarks op b = false) : PE X (.Compare a [op] [b] pos) (tOp r ta tb) := by
  intro pins s σ H Q I h
  exact wpAny_Compare1 (binT ha hb I h fun v u s2 x y H2 I2 rx ry q => ho pins s2 σ H2 x y v u Q I2 rx ry q) hm
noncomputable def tTest (t : TE) : TT := fun σ H Q => t σ H fun x H' => ∃ k, x = .bl k ∧ Q k H'
theorem pt_cmpR {op : CmpOp} {r : R2} (ho : OpR X (compareOp op) r) (ha : PE X a ta) (hb : PE X b tb) (hm : behindInMarks op b = false) : PT X (.Compare a [op] [b] pos) (tTest (tOp r ta tb)) := by
  intro pins s σ H Q I h
  refine wpAny_isTrue_Compare1 (thn (ha pins s σ H _ I h) fun v s1 ⟨x, H1, I1, r1, q1⟩ => thn (hb pins s1 σ H1 _ I1 q1) fun u s2 ⟨y, H2, I2, r2, q2⟩ =>
    thn (ho pins s2 σ H2 x y v u _ I2 r1 r2 q2) fun c s3 ⟨z, H3, I3, r3, k, e, q3⟩ => ?_) hm
  subst e
  cases r3
  exact wpAny_truthy_bool ⟨H3, I3, q3⟩
noncomputable def tChain (r r' : R2) (ta tb tc : TE) : TE := fun σ H Q => ta σ H fun x H1 => tb σ H1 fun y H2 => r x y H2 fun z H3 => ∃ k, z = .bl k ∧
  (if k = true then tc σ H3 fun w' H4 => r' y w' H4 Q else Q (.bl false) H3)
theorem line63 : (sizeLine : Nat) < 2 ^ 63 := by rw [sizeLine_eq]; decide
theorem vals1 {x : V} {us : List Value} (r : Vals [x] us) : ∃ u, us = [u] ∧ RelV x u := by
  cases r with
  | cons r1 r2 => cases r2; exact ⟨_, rfl, r1⟩
theorem vals2 {x y : V} {us : List Value} (r : Vals [x, y] us) : ∃ u w', us = [u, w'] ∧ RelV x u ∧ RelV y w' := by
  cases r with
  | cons r1 r2 =>
    cases r2 with
    | cons r3 r4 => cases r4; exact ⟨_, _, rfl, r1, r3⟩
end
end L2
namespace L2
open PySem PySem.Spec PyProof.Rows
structure ObjM (h : Heap) (x dx C : Addr) (mA : Str → Option Value) : Prop where
  obj : h.get? x = some (PySem.W.instObj C dx)
  ns : h.Ns1 dx mA
  ne : dx ≠ x
theorem lookIn_ns {h : Heap} {dx : Addr} {mA : Str → Option Value} (n : h.Ns1 dx mA) : ∃ od, h.get? dx = some od ∧ ∀ name, PySem.W.lookIn name od = some (mA name) := by
  obtain ⟨o, es, ep, ho, hd, hk, _, hm⟩ := n
  refine ⟨o, ho, fun name => ?_⟩
  have e := hm name
  unfold nsFind findBy at e
  rw [← Array.find?_toList] at e
  unfold PySem.W.lookIn
  rw [hd]
  dsimp only
  split
  · rename_i y q
    rw [q] at e
    exact congrArg some e
  · rename_i q
    rw [q] at e
    have a : es.toList.any (·.refKey) = false := by
      rw [List.any_eq_false]
      intro y hy
      obtain ⟨z, t, hkey⟩ := hk y (Array.mem_toList_iff.mp hy)
      simp [DictEntry.refKey, hkey]
    have a' : ¬ es.toList.any (·.refKey) = true := by rw [a]; exact Bool.false_ne_true
    rw [if_neg a']
    exact congrArg some e
theorem ObjM.look {h : Heap} {x dx C : Addr} {mA : Str → Option Value} (I : ObjM h x dx C mA) : ∃ od, PySem.W.InstAt h x (PySem.W.instObj C dx) C (some od) ∧ ∀ name, PySem.W.lookIn name od = some (mA name) :=
  let ⟨od, ho, hl⟩ := lookIn_ns I.ns
  ⟨od, ⟨I.obj, rfl, rfl, ho⟩, hl⟩
section
variable {prog : Program} {w : World} {A : Around} {E : Value → Shared → Prop} {s : Shared} {K : PySem.W.Frag} {x dx C f : Addr} {mA : Str → Option Value} {name : Str} {v : Value}
end
theorem RelO.some_of {v : V} {o : Option Value} (r : RelO (some v) o) : ∃ u, o = some u ∧ RelV v u := by
  cases o with
  | none => exact (show False from r).elim
  | some u => exact ⟨u, rfl, r⟩
section
variable {P : Program} {w : World} {H H' : Hp} {h h' : Heap} {a C dx : Addr} {fs fs' : List (Str × V)}
theorem ins_get (hok : HOk P w H h) (e : H a = some (.ins C dx fs)) : ∃ mA, ObjM h a dx C mA ∧ (∀ f, RelO (fs.lookup f) (mA f)) ∧ PySem.Within mA (fs.map (·.1)) ∧ fs.length ≤ 1000 ∧ H dx = some (.own a) := by
  obtain ⟨d, z, ne, ob, mA, n, r, q⟩ := (show ObjOk P w H h a (.ins C dx fs) from hok a _ e)
  exact ⟨mA, ⟨ob, n, ne⟩, r, q, z, d⟩
end
structure Cls (K : PySem.W.Frag) (C : Addr) : Prop where
  pg : PySem.W.plainGet K C Str.empty = true
  hd : PySem.W.hasDictIn K C = true
  po : PySem.W.plainOver K C = true
  sa : PySem.W.findIn K (.ref C) "__setattr__" = some (some (.builtin "object.__setattr__"))
theorem Cls.get {K : PySem.W.Frag} {C : Addr} (c : Cls K C) (f : Str) : PySem.W.plainGet K C f = true := c.pg
structure Con (K : PySem.W.Frag) (C : Addr) (f : Str) (v : V) (u : Value) : Prop where
  at_ : PySem.W.findIn K (.ref C) f = some (some u)
  rel : RelV v u
  get : PySem.W.specialIn K u "__get__" = some none
  cp : PySem.W.copiedNames.contains f = false
structure Meth (K : PySem.W.Frag) (C : Addr) (m : Str) (f : Addr) : Prop where
  at_ : PySem.W.findIn K (.ref C) m = some (some (.ref f))
  fn : PySem.W.isFn K (.ref f) = true
  kp : PySem.W.keepIn K (.ref f) = true
section
variable {X : Cx} {pins : List (Addr × Obj)} {σ : St} {H : Hp} {s : Shared} {a C dx : Addr} {fs : List (Str × V)} {f : Str} {v : V} {A : Around} {E : Value → Shared → Prop}
theorem Inv.made (I : Inv X pins σ H s) : Inv X pins σ (upd (upd H s.heap.objs.size (.own (s.heap.objs.size + 1))) (s.heap.objs.size + 1) (.ins C s.heap.objs.size []))
    { s with heap := (s.heap.push PySem.W.emptyDict).push (PySem.W.instObj C s.heap.objs.size) } := by
  have e1 : (s.heap.push PySem.W.emptyDict).get? s.heap.objs.size = some PySem.W.emptyDict := Heap.get?_push_size s.heap rfl
  have e2 : ((s.heap.push PySem.W.emptyDict).push (PySem.W.instObj C s.heap.objs.size)).get? (s.heap.objs.size + 1) = some (PySem.W.instObj C s.heap.objs.size) := by
    have := Heap.get?_push_size (s.heap.push PySem.W.emptyDict) (o := PySem.W.instObj C s.heap.objs.size) rfl
    rwa [Heap.size_push] at this
  have e3 : (s.heap.push PySem.W.emptyDict).Ns s.heap.objs.size (fun _ => none) := ⟨PySem.W.emptyDict, #[], _, e1, rfl, (fun e he => absurd he (by simp)), fun _ => rfl⟩
  have I1 := I.laid (a := s.heap.objs.size) (o := .own (s.heap.objs.size + 1)) (h' := s.heap.push PySem.W.emptyDict) (t' := s.toks) (fun b u q => Heap.get?_push_of_some _ q) (Nat.le_refl _) ⟨_, e1⟩
  refine I1.laid (a := s.heap.objs.size + 1) (o := .ins C s.heap.objs.size []) (t' := s.toks) (fun b u q => Heap.get?_push_of_some _ q) (Nat.le_of_eq (Heap.size_push _ _)) ?_
  have ne : s.heap.objs.size ≠ s.heap.objs.size + 1 := Nat.ne_of_lt (Nat.lt_succ_self _)
  refine ⟨by rw [upd_ne ne, upd_same], Nat.zero_le _, ne, e2, fun _ => none, (Heap.Ns1.of_empty e3).at fun o q => Heap.get?_push_of_some _ q, fun _ => True.intro, fun y hy => absurd rfl hy⟩
end
section
variable {X : Cx} {o e value : Expr} {f : Str} {pos pos' tpos : Pos} {ta tv : TE}
end
section
variable {X : Cx} {pins : List (Addr × Obj)} {σ : St} {H : Hp} {s : Shared} {A : Around} {E : Value → Shared → Prop} {Q : Value → Shared → Prop} {c : Value} {b : Bool}
inductive TyOf (K : PySem.W.Frag) (H : Hp) : V → Value → Prop where
  | non : TyOf K H .non (.type "NoneType")
  | bl (x : Bool) : TyOf K H (.bl x) (.type "bool")
  | int (i : Int) : TyOf K H (.int i) (.type "int")
  | str (x : Str) : TyOf K H (.str x) (.type "str")
  | flt (x : UInt64) : TyOf K H (.flt x) (.type "float")
  | lst {a : Addr} {xs : List V} (e : H a = some (.lst xs)) : TyOf K H (.ref a) (.type "list")
  | frz {a : Addr} {o : Obj} {xs : List V} (e : H a = some (.frz o (.lst xs))) : TyOf K H (.ref a) (.type "list")
  | tup {a : Addr} {xs : List V} (e : H a = some (.tup xs)) : TyOf K H (.ref a) (.type "tuple")
  | dK {a : Addr} {kvs : List (Key × V)} (e : H a = some (.dK kvs)) : TyOf K H (.ref a) (.type "dict")
  | dT {a : Addr} {kvs : List (List Key × V)} (e : H a = some (.dT kvs)) : TyOf K H (.ref a) (.type "dict")
  | ins {a C dx : Addr} {fs : List (Str × V)} (e : H a = some (.ins C dx fs)) (cl : Cls K C) (ha : PySem.W.findIn K (.ref C) "__class__" = some (some (.builtin "object.__class__")))
      (hn : PySem.W.specialIn K (.builtin "object.__class__") "__get__" = some (some (.builtin "getset_descriptor.__get__"))) (htk : PySem.W.takesIn K (.builtin "object.__class__") = some true)
      (hm : PySem.W.mroIn K C (.type "object") = some true) : TyOf K H (.ref a) (.ref C)
theorem isinst_ok {x : V} {u t : Value} (I : Inv X pins σ H s) (rx : RelV x u) (ty : TyOf X.K H x t) (e : PySem.W.kitOne X.K t c = some b) (h : ∀ tk, Q (.bool b) { s with toks := tk }) :
    wpAny (model X.prog X.w) A (call (.builtin "isinstance") [u, c]) Q E s := by
  cases ty with
  | non => cases (show u = Value.none from rx); exact PySem.W.kia_one PySem.W.kitx_none I.kIn True.intro e (fun z => nomatch z) h
  | bl y => cases (show u = Value.bool y from rx); exact PySem.W.kia_one PySem.W.kitx_bool I.kIn True.intro e (fun z => nomatch z) h
  | int i => obtain ⟨t, q⟩ := (show ∃ t, u = Value.int i t from rx); cases q; exact PySem.W.kia_one PySem.W.kitx_int I.kIn True.intro e (fun z => nomatch z) h
  | str y => obtain ⟨t, q⟩ := (show ∃ t, u = Value.str y t from rx); cases q; exact PySem.W.kia_one PySem.W.kitx_str I.kIn True.intro e (fun z => nomatch z) h
  | flt y => obtain ⟨t, q⟩ := (show ∃ t, u = Value.float y t from rx); cases q; exact PySem.W.kia_one PySem.W.kitx_float I.kIn True.intro e (fun z => nomatch z) h
  | @lst a xs ea =>
    cases (show u = Value.ref a from rx)
    obtain ⟨_, _, n, _, h1⟩ := (show ObjOk X.prog X.w H s.heap a (.lst xs) from I.hok a _ ea)
    exact PySem.W.kia_one PySem.W.kitx_list I.kIn ⟨_, h1, rfl⟩ e (fun z => nomatch z) h
  | @frz a ob xs ea =>
    cases (show u = Value.ref a from rx)
    obtain ⟨_, _, _, n, _, h1⟩ := (show ObjOk X.prog X.w H s.heap a (.frz ob (.lst xs)) from I.hok a _ ea)
    exact PySem.W.kia_one PySem.W.kitx_list I.kIn ⟨_, h1, rfl⟩ e (fun z => nomatch z) h
  | @tup a xs ea =>
    cases (show u = Value.ref a from rx)
    obtain ⟨_, _, _, p⟩ := (show ObjOk X.prog X.w H s.heap a (.tup xs) from I.hok a _ ea)
    obtain ⟨o, h1, h2, _⟩ := p
    exact PySem.W.kia_one PySem.W.kitx_tuple I.kIn ⟨o, h1, h2⟩ e (fun z => nomatch z) h
  | @dK a kvs ea =>
    cases (show u = Value.ref a from rx)
    obtain ⟨_, _, vs, _, p⟩ := (show ObjOk X.prog X.w H s.heap a (.dK kvs) from I.hok a _ ea)
    obtain ⟨o, es, ep, h1, h2, _⟩ := p
    exact PySem.W.kia_one PySem.W.kitx_dict I.kIn ⟨o, h1, h2.1⟩ e (fun z => nomatch z) h
  | @dT a kvs ea =>
    cases (show u = Value.ref a from rx)
    obtain ⟨_, _, xs, _, o, es, ep, h1, h2, _⟩ := (show ObjOk X.prog X.w H s.heap a (.dT kvs) from I.hok a _ ea)
    exact PySem.W.kia_one PySem.W.kitx_dict I.kIn ⟨o, h1, h2.1⟩ e (fun z => nomatch z) h
  | @ins a C dx fs ea cl ha hn htk hm =>
    cases (show u = Value.ref a from rx)
    obtain ⟨mA, O, _⟩ := ins_get I.hok ea
    obtain ⟨od, J, _⟩ := O.look
    exact PySem.W.kia_one (PySem.W.kitx_own (cl.get _) cl.hd ha hn htk hm) I.kIn J e (fun z => nomatch z) h
end
end L2
namespace L2
open PySem PySem.Spec PyProof.Rows
structure Room (k : Nat) (A : Around) : Prop where
  hd : A.handled = none
  dp : A.depth + 3 * k + 5 < recursionLimit
  un : A.units + 16 * k + 200 < cLine
  gd : A.guards = some []
theorem Room.mono {j k : Nat} {A : Around} (r : Room k A) (h : j ≤ k) : Room j A := ⟨r.hd, by have := r.dp; omega, by have := r.un; omega, r.gd⟩
theorem Room.deeper {k : Nat} {A : Around} (r : Room (k + 1) A) (env : Env) : Room k (A.deeper env) :=
  ⟨r.hd, by have := r.dp; show A.depth + 1 + 3 * k + 5 < _; omega, by have := r.un; show A.units + 3 + 16 * k + 200 < _; omega, r.gd⟩
theorem Room.in1 {k : Nat} {A : Around} (r : Room (k + 1) A) : Room k A.in1 :=
  ⟨r.hd, by have := r.dp; show A.depth + 3 * k + 5 < _; omega, by have := r.un; show A.units + 1 + 16 * k + 200 < _; omega, r.gd⟩
theorem Room.depth {k : Nat} {A : Around} (r : Room k A) : A.depth < recursionLimit := by have := r.dp; omega
theorem Room.units {k : Nat} {A : Around} (r : Room k A) : A.units + 64 < cLine := by have := r.un; omega
theorem Room.units0 {k : Nat} {A : Around} (r : Room k A) : A.units < cLine := by have := r.un; omega
noncomputable def tNil : TA := fun _ H Q => Q [] H
noncomputable def tCons (ta : TE) (tr : TA) : TA := fun σ H Q => ta σ H fun x H1 => tr σ H1 fun xs H2 => Q (x :: xs) H2
section
variable {X : Cx} {e : Expr} {es : List Expr} {te : TE} {t : TA} {pos : Pos}
theorem pa_nil : PA X [] tNil := fun _ _ _ _ H Q I h => Calls.spliced_nil ⟨[], H, I, .nil, h⟩
theorem pa_cons (ha : PE X e te) (hr : PA X es t) (hs : starEach (e :: es) X.env = (false, eval e X.env) :: starEach es X.env := by rfl) : PA X (e :: es) (tCons te t) := by
  intro pos pins s σ H Q I h
  rw [hs]
  show wpAny _ _ (spliced ((false, eval e X.env) :: backTo pos (starEach es X.env))) _ _ s
  refine Calls.spliced_cons (thn (ha pins s σ H _ I h) fun u s1 ⟨x, H1, I1, r1, q1⟩ => ?_)
  exact thn (hr pos pins s1 σ H1 _ I1 q1) fun us s2 ⟨xs, H2, I2, r2, q2⟩ => ⟨x :: xs, H2, I2, .cons r1 r2, q2⟩
noncomputable def tTup (t : TA) : TE := fun σ H Q => t σ H fun xs H1 => xs.length ≤ sizeLine ∧ ∀ p, H1 p = none → Q (.ref p) (upd H1 p (.tup xs))
noncomputable def tLst (t : TA) : TE := fun σ H Q => t σ H fun xs H1 => xs.length ≤ sizeLine ∧ ∀ p, H1 p = none → Q (.ref p) (upd H1 p (.lst xs))
theorem pe_tup {x1} (h : PA X es t) : PE X (.Tuple es x1 pos) (tTup t) := by
  intro pins s σ H Q I hq
  refine wpAny_Tuple_spliced (thn (h pos pins s σ H _ I hq) fun us s1 ⟨xs, H1, I1, r, z, q⟩ => ⟨by rw [← r.length]; exact z, ?_⟩)
  have hf : H1 s1.heap.objs.size = none := I1.hok.fresh (Nat.le_refl _)
  refine ⟨.ref s1.heap.objs.size, upd H1 s1.heap.objs.size (.tup xs), I1.laid (t' := s1.toks) (fun b u e => Heap.get?_push_of_some _ e) (Nat.le_refl _) ?_, rfl, q _ hf⟩
  exact ⟨z, us, r, ⟨_, Heap.get?_push_size _ rfl, rfl, _, rfl, rfl⟩⟩
theorem pe_lst (h : PA X es t) : PE X (.List es pos) (tLst t) := by
  intro pins s σ H Q I hq
  refine wpAny_List_spliced (thn (h pos pins s σ H _ I hq) fun us s1 ⟨xs, H1, I1, r, z, q⟩ => ⟨by rw [← r.length]; exact z, ?_⟩)
  have hf : H1 s1.heap.objs.size = none := I1.hok.fresh (Nat.le_refl _)
  refine ⟨.ref s1.heap.objs.size, upd H1 s1.heap.objs.size (.lst xs), I1.laid (t' := s1.toks) (fun b u e => Heap.get?_push_of_some _ e) (Nat.le_refl _) ?_, rfl, q _ hf⟩
  exact ⟨z, us, 0, r, Heap.get?_push_size _ rfl⟩
end
abbrev Sp := List V → Hp → VK → XK → Prop
abbrev CXT := List Env → Hp → Shared → XK → Value → Shared → Prop
structure Env0 (P : Program) (w : World) (K : PySem.W.Frag) (mg : Str → Option Value) (base : Heap) (A : Around) (outer : List Env) (s : Shared) (H : Hp) : Prop where
  frames : A.frames = some outer
  mod : Mod K mg base
  bs : ∀ b o, base.get? b = some o → s.heap.get? b = some o ∧ H b = none
  bsz : base.objs.size ≤ s.heap.objs.size
  funs : s.heap.FunFrames base outer
  frf : ∀ b ∈ frs outer, H b = none
  hok : HOk P w H s.heap
  bare : AllBare s.gens
noncomputable def CE (outer : List Env) (P : Program) (w : World) (H : Hp) (s : Shared) (Q : VK) (u : Value) (s' : Shared) : Prop :=
  ∃ v H', s'.os = s.os ∧ AllBare s'.gens ∧ Un (frs outer) [] H H' s.heap s'.heap ∧ HOk P w H' s'.heap ∧ RelV v u ∧ Q v H'
noncomputable def CR (CX : CXT) (outer : List Env) (P : Program) (w : World) (H : Hp) (s : Shared) (Q : VK) (E : XK) (r : Result) (s' : Shared) : Prop :=
  match r with
  | .ok (.ret u) => CE outer P w H s Q u s'
  | .ok _ => False
  | .error e => CX outer H s E e s'
structure FnOk (P : Program) (w : World) (K : PySem.W.Frag) (mg : Str → Option Value) (base : Heap) (CX : CXT) (k : Nat) (f : Addr) (fd : FuncData) (ps : List Str) (sp : Sp) : Prop where
  len : ∀ vs H Q E, sp vs H Q E → vs.length = ps.length
  run : ∀ (A : Around) (outer : List Env) (s : Shared) (H : Hp) (args : Args) (us : List Value) (vs : List V) (Q : VK) (E : XK), Room k A → Env0 P w K mg base A outer s H → BindsTo s fd args (ps.zip us) → Vals vs us → sp vs H Q E →
    codeAny (model P w) A (.call (.ref f) args) (CR CX outer P w H s Q E) s
theorem FnOk.mono {P : Program} {w : World} {K : PySem.W.Frag} {mg : Str → Option Value} {base : Heap} {CX : CXT} {j k : Nat} {f : Addr} {fd : FuncData} {ps : List Str} {sp : Sp} (F : FnOk P w K mg base CX j f fd ps sp) (h : j ≤ k) :
    FnOk P w K mg base CX k f fd ps sp := ⟨F.len, fun A outer s H args us vs Q E hr => F.run A outer s H args us vs Q E (hr.mono h)⟩
theorem FnOk.imp {P : Program} {w : World} {K : PySem.W.Frag} {mg : Str → Option Value} {base : Heap} {CX : CXT} {k : Nat} {f : Addr} {fd : FuncData} {ps : List Str} {sp sp' : Sp} (F : FnOk P w K mg base CX k f fd ps sp)
    (h : ∀ vs H Q E, sp' vs H Q E → sp vs H Q E) : FnOk P w K mg base CX k f fd ps sp' :=
  ⟨fun vs H Q E q => F.len vs H Q E (h _ _ _ _ q), fun A outer s H args us vs Q E hr he hb hv hs => F.run A outer s H args us vs Q E hr he hb hv (h _ _ _ _ hs)⟩
theorem Env0.in1 {P : Program} {w : World} {K : PySem.W.Frag} {mg : Str → Option Value} {base : Heap} {A : Around} {outer : List Env} {s : Shared} {H : Hp} (e : Env0 P w K mg base A outer s H) :
    Env0 P w K mg base A.in1 outer s H := ⟨e.frames, e.mod, e.bs, e.bsz, e.funs, e.frf, e.hok, e.bare⟩
section
variable {X : Cx} {pins : List (Addr × Obj)} {σ : St} {H : Hp} {s s' : Shared}
theorem Inv.env0 (I : Inv X pins σ H s) : Env0 X.prog X.w X.K X.mg X.base X.A X.stack s H :=
  ⟨I.ok.frames, I.ok.mod, I.bs, Nat.le_trans I.ok.bsz I.sz, I.stack, I.stkFree, I.hok, I.bare⟩
theorem Inv.after {Q : VK} {u : Value} (I : Inv X pins σ H s) (h : CE X.stack X.prog X.w H s Q u s') : EP X pins σ Q u s' := by
  obtain ⟨v, H', os, bare, un, hok, r, q⟩ := h
  obtain ⟨hh, g, d, t, os'⟩ := s'
  obtain rfl : os' = s.os := os
  exact ⟨v, H', I.call (h' := hh) (g' := g) (d' := d) (t' := t) (ch := []) un hok bare (fun b z => absurd z (by simp)), r, q⟩
end
noncomputable def tCall (sp : Sp) (dvs : List V) (E : XK) (t : TA) : TE := fun σ H Q => t σ H fun vs H1 => sp (vs ++ dvs) H1 Q E
noncomputable def Binds (K : PySem.W.Frag) (fd : FuncData) (ps : List Str) (ds : List Value) : Prop :=
  ∀ (s : Shared) (us : List Value), K.In s.heap → (us ++ ds).length = ps.length → BindsTo s fd ⟨us, []⟩ (ps.zip (us ++ ds))
theorem Binds.all {K : PySem.W.Frag} {fd : FuncData} {ps : List Str} (h : ∀ us : List Value, us.length = ps.length → bindArgs fd ⟨us, []⟩ = pure (ps.zip us)) : Binds K fd ps [] := fun s us _ hl => by
  rw [List.append_nil] at hl ⊢
  exact .of_eq (h us hl)
noncomputable def Passes (CX : CXT) (X : Cx) (E : XK) : Prop := ∀ (pins : List (Addr × Obj)) (σ : St) (H : Hp) (s : Shared) (e : Value) (s' : Shared), Inv X pins σ H s → CX X.stack H s E e s' → X.xe e s'
section
variable {X : Cx} {CX : CXT} {k : Nat} {f C : Addr} {fd : FuncData} {ps : List Str} {sp : Sp} {dvs : List V} {ds : List Value} {E : XK} {x m : Str} {p pos apos : Pos} {e o : Expr} {es : List Expr} {ta : TE} {t : TA}
theorem run_fn {pins : List (Addr × Obj)} {σ : St} {H : Hp} {s : Shared} {Q : VK} {us : List Value} {vs : List V} (F : FnOk X.prog X.w X.K X.mg X.base CX k f fd ps sp) (hr : Room k X.A) (hb : Binds X.K fd ps ds) (hd : Vals dvs ds) (hx : Passes CX X E)
    (I : Inv X pins σ H s) (r : Vals vs us) (h : sp (vs ++ dvs) H Q E) : wpAny (model X.prog X.w) X.A (call (.ref f) us) (EP X pins σ Q) X.xe s := by
  have r2 : Vals (vs ++ dvs) (us ++ ds) := r.append hd
  have hl : (us ++ ds).length = ps.length := by rw [← r2.length]; exact F.len _ _ _ _ h
  refine wpAny_call (codeAny_mono (F.run X.A X.stack s H ⟨us, []⟩ (us ++ ds) (vs ++ dvs) Q E hr I.env0 (hb s us I.kIn hl) r2 h) fun r s' hq => ?_)
  cases r with
  | error e => exact hx pins σ H s e s' I hq
  | ok fl =>
    cases fl with
    | ret u => exact I.after hq
    | next => exact False.elim hq
    | brk => exact False.elim hq
    | cont => exact False.elim hq
theorem pe_call (F : FnOk X.prog X.w X.K X.mg X.base CX k f fd ps sp) (hr : Room k X.A) (hg : Gl X x) (hm : X.mg x = some (.ref f)) (hk : PySem.W.keepIn X.K (.ref f) = true) (hb : Binds X.K fd ps ds) (hd : Vals dvs ds) (hx : Passes CX X E)
    (ha : PA X (e :: es) t) (hdb : (x == ("__debug__" : Str)) = false := by decide) (he : starEach (e :: es) X.env = (false, eval e X.env) :: starEach es X.env := by rfl) (hpl : (backTo pos (starEach es X.env)).any (·.1) = false := by rfl) :
    PE X (.Call (.Name x p) (e :: es) [] pos) (tCall sp dvs E t) := by
  intro pins s σ H Q I h
  refine wpAny_Call_Name_kw (ld_glob I hg hm ?_ hdb)
  refine PySem.W.callWith_K (h₀ := X.base) I.ok.mod.kin hk (thn (ha pos pins s σ H _ I h) fun us s1 ⟨vs, H1, I1, r, q⟩ => ⟨I1.kIn, ?_⟩) he hpl
  exact run_fn F hr hb hd hx I1 r q
structure Mk (K : PySem.W.Frag) (C f : Addr) : Prop where
  makes : PySem.W.makesIn K C = true
  init : PySem.W.findIn K (.ref C) "__init__" = some (some (.ref f))
  fn : PySem.W.isFn K (.ref f) = true
  kp : PySem.W.keepIn K (.ref C) = true
end
section
variable {X : Cx} {CX : CXT} {k : Nat} {f C : Addr} {fd : FuncData} {ps ks : List Str} {sp : Sp} {E : XK} {x m : Str} {p pos apos kpos : Pos} {e o : Expr} {es : List Expr} {kws : List Keyword} {te ta : TE} {t tk : TA} {nm : Option Str}
structure KBinds (K : PySem.W.Frag) (fd : FuncData) (ps ks : List Str) (g : List Value → List Value → List Value) (gV : List V → List V → List V) : Prop where
  to : ∀ (s : Shared) (us ws : List Value), K.In s.heap → (g us ws).length = ps.length → BindsTo s fd ⟨us, ks.zip ws⟩ (ps.zip (g us ws))
  rel : ∀ {vs : List V} {us : List Value} {zs : List V} {ws : List Value}, Vals vs us → Vals zs ws → Vals (gV vs zs) (g us ws)
variable {g : List Value → List Value → List Value} {gV : List V → List V → List V}
end
structure FnScope (N P : List Str) (sc : Scope) : Prop where
  kind : sc.kind = .function
  co : sc.isCoroutine = false
  gen : sc.isGenerator = false
  nd : N.Nodup
  pre : N.take P.length = P
  par : ∀ x ∈ P, sc.names.lookup x = some .local ∨ sc.names.lookup x = some .cell
  nofree : ∀ y ∈ sc.names, y.2 ≠ .free
theorem bindL_out {kindOf : Str → Option NameKind} {x : Str} : ∀ {binds : List (Str × Value)} {m : Str → Option Value}, (∀ v, (x, v) ∉ binds) → bindL kindOf binds m x = m x
  | [], _, _ => rfl
  | (n, v) :: r, m, h => by
    unfold bindL
    rw [bindL_out fun w hw => h w (List.mem_cons_of_mem _ hw)]
    split
    · have : x ≠ n := by rintro rfl; exact h v List.mem_cons_self
      simp [this]
    · rfl
theorem bindC_out {kindOf : Str → Option NameKind} {x : Str} : ∀ {binds : List (Str × Value)} {m : Str → Option Value}, (∀ v, (x, v) ∉ binds) → bindC kindOf binds m x = m x
  | [], _, _ => rfl
  | (n, v) :: r, m, h => by
    unfold bindC
    rw [bindC_out fun w hw => h w (List.mem_cons_of_mem _ hw)]
    split
    · rfl
    · have : x ≠ n := by rintro rfl; exact h v List.mem_cons_self
      simp [this]
theorem bindL_get {kindOf : Str → Option NameKind} {x : Str} {v : Value} : ∀ {P : List Str} {vs : List Value} {i : Nat} {m : Str → Option Value}, P.Nodup → P[i]? = some x → vs[i]? = some v → kindOf x = some .local →
    bindL kindOf (P.zip vs) m x = some v
  | [], _, _, _, _, h, _, _ => by simp at h
  | _ :: _, [], _, _, _, _, h, _ => by simp at h
  | p :: P, w :: vs, 0, m, nd, h1, h2, hk => by
    simp at h1 h2; subst h1; subst h2
    show bindL kindOf ((p, w) :: P.zip vs) m p = _
    unfold bindL
    rw [bindL_out fun v hv => (List.nodup_cons.mp nd).1 (List.of_mem_zip hv).1, if_pos hk]
    simp
  | p :: P, w :: vs, i + 1, m, nd, h1, h2, hk => by
    show bindL kindOf ((p, w) :: P.zip vs) m x = _
    unfold bindL
    exact bindL_get (i := i) (List.nodup_cons.mp nd).2 (by simpa using h1) (by simpa using h2) hk
theorem bindC_get {kindOf : Str → Option NameKind} {x : Str} {v : Value} : ∀ {P : List Str} {vs : List Value} {i : Nat} {m : Str → Option Value}, P.Nodup → P[i]? = some x → vs[i]? = some v → kindOf x ≠ some .local →
    bindC kindOf (P.zip vs) m x = some v
  | [], _, _, _, _, h, _, _ => by simp at h
  | _ :: _, [], _, _, _, _, h, _ => by simp at h
  | p :: P, w :: vs, 0, m, nd, h1, h2, hk => by
    simp at h1 h2; subst h1; subst h2
    show bindC kindOf ((p, w) :: P.zip vs) m p = _
    unfold bindC
    rw [bindC_out fun v hv => (List.nodup_cons.mp nd).1 (List.of_mem_zip hv).1, if_neg hk]
    simp
  | p :: P, w :: vs, i + 1, m, nd, h1, h2, hk => by
    show bindC kindOf ((p, w) :: P.zip vs) m x = _
    unfold bindC
    exact bindC_get (i := i) (List.nodup_cons.mp nd).2 (by simpa using h1) (by simpa using h2) hk
noncomputable def start (N : List Str) (vs : List V) : St := vs.map some ++ List.replicate (N.length - vs.length) none
noncomputable def cxOf (CX : CXT) (P : Program) (w : World) (K : PySem.W.Frag) (mg : Str → Option Value) (base : Heap) (N : List Str) (qual : Str) (scope : Scope) (f : Addr) (cd : Value) (A : Around) (outer : List Env) (s : Shared) (H : Hp) (E : XK) : Cx where
  prog := P
  w := w
  K := K
  mg := mg
  base := base
  A := A.deeper (envOfC qual scope s.heap.objs.size f cd)
  N := N
  s₀ := s
  H₀ := H
  env := envOfC qual scope s.heap.objs.size f cd
  outer := outer
  stack := envOfC qual scope s.heap.objs.size f cd :: outer
  ex := []
  calm := true
  fn := fun _ => true
  pn := []
  xe := fun e s' => wpAny (model P w) (A.deeper (envOfC qual scope s.heap.objs.size f cd)) (leaving (envOfC qual scope s.heap.objs.size f cd) e) (fun _ s'' => CX outer H s E e s'') (fun e' s'' => CX outer H s E e' s'') s'
theorem cell_has {sc : Scope} {n : Nat} {x : Str} (h : sc.names.lookup x = some .cell) : ∃ c, (cellsFrom n sc.names []).lookup x = some c := by
  have q := PySem.W.cellsFrom_some sc.names n [] (.inl h)
  exact Option.isSome_iff_exists.mp q
theorem inv_start {CX : CXT} {P : Program} {w : World} {K : PySem.W.Frag} {mg : Str → Option Value} {base : Heap} {N ps : List Str} {qual : Str} {scope : Scope} {f : Addr} {cd : Value} {A : Around} {outer : List Env} {s s1 : Shared} {H : Hp} {E : XK} {us : List Value} {vs : List V}
    (S : FnScope N ps scope) (hd : A.handled = none) (e0 : Env0 P w K mg base A outer s H) (hl : vs.length = ps.length) (r : Vals vs us)
    (x : InCallC s s.heap.objs.size (bindL (envOfC qual scope s.heap.objs.size f cd).kindOf (ps.zip us) fun _ => none) (cellsFrom (s.heap.objs.size + 1) scope.names []) (bindC (envOfC qual scope s.heap.objs.size f cd).kindOf (ps.zip us) fun _ => none) s1) :
    Inv (cxOf CX P w K mg base N qual scope f cd A outer s H E) [] (start N vs) H s1 := by
  have hpl : ps.length ≤ N.length := by have := congrArg List.length S.pre; rw [List.length_take] at this; omega
  obtain ⟨h1, tk, rfl, hk⟩ := x.done
  have noA : ∀ b : Addr, b ∉ (cxOf CX P w K mg base N qual scope f cd A outer s H E).ex := fun b z => absurd (show b ∈ ([] : List Addr) from z) (by simp)
  refine ⟨⟨e0.mod, S.kind, rfl, rfl, Nat.le_refl _, fun y z c h1 h2 => ?_, fun y hy => ?_, fun y c _ h => ?_, fun _ => hd, Around.frames_deeper e0.frames, .inr ⟨rfl, rfl⟩, fun b z => absurd z (noA b), e0.bs, e0.bsz, fun b _ _ => noA b, fun b z => absurd z (noA b), e0.funs, e0.frf⟩,
    rfl, e0.bare, Un.kept hk, ⟨_, x.toInCall.ns, fun i y v h1 h2 h3 => ?_⟩, fun y c h => ⟨_, x.cell y c h⟩, e0.hok.fresh (Nat.le_refl _), fun y c h => ?_, fun p hp => absurd (show p ∈ ([] : List (Addr × Obj)) from hp) (by simp), e0.hok.kept hk, ?_⟩
  · exact name_of_addr x.apart (PySem.mem_of_lookup h1) (PySem.mem_of_lookup h2)
  · have hy : scope.names.lookup y = some .cell ∨ scope.names.lookup y = some .free := hy
    rcases hy with hy | hy
    · exact cell_has hy
    · exact absurd rfl (S.nofree _ (PySem.mem_of_lookup hy))
  · exact Nat.le_of_lt (x.above y c (PySem.mem_of_lookup h))
  · have hi : i < vs.length := by
      unfold start at h2
      by_cases hi : i < vs.length
      · exact hi
      · rw [List.getElem?_append_right (by simpa using hi)] at h2
        rw [List.getElem?_replicate] at h2
        split at h2 <;> cases h2
    have ha : vs[i]? = some v := by
      unfold start at h2
      rw [List.getElem?_append_left (by simpa using hi), List.getElem?_map] at h2
      cases e : vs[i]? with
      | none => rw [e] at h2; cases h2
      | some a => rw [e] at h2; cases h2; rfl
    obtain ⟨u, hu, rv⟩ := r.get ha
    have hp : ps[i]? = some y := by
      rw [← S.pre, List.getElem?_take_of_lt (by omega)]; exact h1
    have ndP : ps.Nodup := by rw [← S.pre]; exact S.nd.sublist (List.take_sublist _ _)
    refine ⟨u, rv, ?_⟩
    rcases S.par y (List.mem_of_getElem? hp) with k | k
    · exact .inl ⟨k, bindL_get ndP hp hu k⟩
    · obtain ⟨c, e⟩ := cell_has (n := s.heap.objs.size + 1) k
      refine .inr ⟨.inl k, c, e, ?_⟩
      have q := x.cell y c e
      rw [bindC_get ndP hp hu (by show scope.names.lookup y ≠ _; rw [k]; decide)] at q
      exact q
  · exact e0.hok.fresh (Nat.le_of_lt (x.above y c (PySem.mem_of_lookup h)))
  · unfold start
    show _ = N.length
    rw [List.length_append, List.length_map, List.length_replicate]
    omega
theorem fn_of {CX : CXT} {P : Program} {w : World} {K : PySem.W.Frag} {mg : Str → Option Value} {base : Heap} {k : Nat} {f : Addr} {name qual : Str} {params : Arguments} {body : List Stmt} {scope : Scope} {dV kV doc pm cdv ct oc : Value} {an od : Option Addr}
    {osl : Array (Option Value)} {N ps : List Str} {sp : Sp} (lk : K.lookup f = some ⟨oc, od, .func (PySem.W.fnOf name qual params body scope dV kV doc pm an cdv ct), osl⟩) (hcd : PySem.W.codeIn K cdv qual = true) (S : FnScope N ps scope)
    (len : ∀ vs H Q E, sp vs H Q E → vs.length = ps.length)
    (hbody : ∀ (A : Around) (outer : List Env) (s : Shared) (H : Hp) (vs : List V) (Q : VK) (E : XK), Room k (A.deeper (envOfC qual scope s.heap.objs.size f cdv)) → sp vs H Q E →
      ∃ t, PSs (cxOf CX P w K mg base N qual scope f cdv A outer s H E) body t ∧ t { nx := fun _ H' => Q .non H', rt := Q } (start N vs) H) :
    FnOk P w K mg base CX (k + 1) f (PySem.W.fnOf name qual params body scope dV kV doc pm an cdv ct) ps sp := by
  refine ⟨len, fun A outer s H args us vs Q E hr e0 hb r hsp => ?_⟩
  have hl := len _ _ _ _ hsp
  have KX : K.In s.heap := e0.mod.kin.keeps fun b o e => (e0.bs b o e).1
  have lim : s.heap.NoLimit := e0.mod.nolimit.keeps fun b o e => (e0.bs b o e).1
  have hkind : ∀ y ∈ ps.zip us, scope.names.lookup y.1 = some .local ∨ (scope.names.lookup y.1 = some .cell ∧ ((cellsFrom (s.heap.objs.size + 1) scope.names []).lookup y.1).isSome = true) := fun ⟨n, v⟩ hy => by
    rcases S.par n (List.of_mem_zip hy).1 with q | q
    · exact .inl q
    · exact .inr ⟨q, PySem.W.cellsFrom_some _ _ _ (.inl q)⟩
  refine codeAny_call_function hr.depth (KX _ _ lk) rfl S.co S.gen rfl (PySem.W.codeRec_of KX hcd) (hb _ _ _ _ ?_)
  refine wpAny_newFunctionEnv_cells S.kind hkind fun env he s1 x => ?_
  subst he
  refine ⟨lim.keeps x.toInCall.keep, codeAny_func ?_⟩
  obtain ⟨t, ht, hq⟩ := hbody A outer s H vs Q E (hr.deeper _) hsp
  have I : Inv (cxOf CX P w K mg base N qual scope f cdv A outer s H E) [] (start N vs) H s1 := inv_start S hr.hd e0 hl r x
  refine wpAny_mono (ht [] s1 (start N vs) H _ I hq) (fun fl s' hs => ?_) fun e s' hs => hs
  have fin : ∀ {σ' : St} {H' : Hp} {v : V} {u : Value}, Inv (cxOf CX P w K mg base N qual scope f cdv A outer s H E) [] σ' H' s' → RelV v u → Q v H' → CE outer P w H s Q u s' :=
    fun {σ' H' v u} J rv q => ⟨v, H', J.os, J.bare, J.base, J.hok, rv, q⟩
  cases fl with
  | ret u =>
    obtain ⟨v, σ', H', J, rv, q⟩ := hs
    exact fin J rv q
  | next =>
    obtain ⟨σ', H', J, q⟩ := hs
    exact fin (v := V.non) (u := Value.none) J rfl q
  | brk =>
    obtain ⟨_, _, _, q⟩ := hs
    exact False.elim q
  | cont =>
    obtain ⟨_, _, _, q⟩ := hs
    exact False.elim q
end L2
namespace L2
open PySem PySem.Spec PyProof.Rows
section
variable {X : Cx} {x : Str} {p pos : Pos} {e : Expr} {es : List Expr} {t : TA} {id T : String} {r : List V → Hp → VK → Prop}
noncomputable def tCB (r : List V → Hp → VK → Prop) (t : TA) : TE := fun σ H Q => t σ H fun vs H1 => r vs H1 Q
theorem pe_callB (hc : CallR X (.builtin id) r) (hg : Gl X x) (hm : X.mg x = none) (hv : bootBuiltins x = some (.builtin id)) (ha : PA X (e :: es) t) (hn : x ≠ "__name__" := by decide) (hdb : (x == ("__debug__" : Str)) = false := by decide)
    (he : starEach (e :: es) X.env = (false, eval e X.env) :: starEach es X.env := by rfl) (hpl : (backTo pos (starEach es X.env)).any (·.1) = false := by rfl) : PE X (.Call (.Name x p) (e :: es) [] pos) (tCB r t) := by
  intro pins s σ H Q I h
  refine wpAny_Call_Name_kw (ld_blt I hg hm hv ?_ hn hdb)
  exact PyProof.Rows.callWith_builtin1 (thn (ha pos pins s σ H _ I h) fun us s1 ⟨vs, H1, I1, r1, q1⟩ => hc pins s1 σ H1 vs us Q I1 r1 q1) he hpl
theorem pe_callTy (hc : CallR X (.type T) r) (hg : Gl X x) (hm : X.mg x = none) (hv : bootBuiltins x = some (.type T)) (ha : PA X (e :: es) t) (hn : x ≠ "__name__" := by decide) (hdb : (x == ("__debug__" : Str)) = false := by decide)
    (he : starEach (e :: es) X.env = (false, eval e X.env) :: starEach es X.env := by rfl) (hpl : (backTo pos (starEach es X.env)).any (·.1) = false := by rfl) : PE X (.Call (.Name x p) (e :: es) [] pos) (tCB r t) := by
  intro pins s σ H Q I h
  refine wpAny_Call_Name_kw (ld_blt I hg hm hv ?_ hn hdb)
  exact PyProof.Rows.callWith_type1 (thn (ha pos pins s σ H _ I h) fun us s1 ⟨vs, H1, I1, r1, q1⟩ => hc pins s1 σ H1 vs us Q I1 r1 q1) he hpl
end
end L2
namespace HT
open PySem PyProof.Rows
section
open PySem.SeqAt
open PySem.AutoSeq1 (wpAny_loadPart')
open PySem.MeetsSeq PySem.MeetsSeq2 PySem.MeetsSeq3
end
section
variable {prog : Program} {w : World} {A : Around} {E : Value → Shared → Prop} {s : Shared}
theorem cat_tup {t b : Addr} {vs ws : List Value} {Q : Value → Shared → Prop} (ht : IsTup s.heap t vs.toArray) (hb : IsTup s.heap b ws.toArray) (hv : vs ≠ [])
    (h1 : ws = [] → Q (.ref t) s) (h2 : ws ≠ [] → Q (.ref s.heap.objs.size) { s with heap := s.heap.push { cls := .type "tuple", data := .seq (vs ++ ws).toArray } })
    (hsz : vs.length + ws.length ≤ sizeLine) : wpAny (model prog w) A (binaryOp .Add (.ref t) (.ref b)) Q E s := by
  obtain ⟨⟨cls, dd, data, sl⟩, ho, hc, n, hd⟩ := id ht
  obtain ⟨⟨cls2, dd2, data2, sl2⟩, ho2, hc2, n2, hd2⟩ := id hb
  simp only at hc hd hc2 hd2
  subst hc hd hc2 hd2
  have e : vs.toArray ++ ws.toArray = (vs ++ ws).toArray := by simp
  by_cases hw : ws = []
  · exact concat_meets ⟨_, ho, rfl⟩ ⟨_, ho2, rfl⟩ noFill_tuple_add seq_tuple_add PySem.F.slot_tuple_add PySem.F.entry_tuple_add (PySem.F.args_tuple_add_2 _ _)
      (tuple_addW1 t b vs.toArray ws.toArray n n2 dd dd2 sl sl2 (by simpa using hv) (by simp [hw])) ⟨ho, ho2, h1 hw⟩
  · refine concat_meets ⟨_, ho, rfl⟩ ⟨_, ho2, rfl⟩ noFill_tuple_add seq_tuple_add PySem.F.slot_tuple_add PySem.F.entry_tuple_add (PySem.F.args_tuple_add_2 _ _)
      (tuple_addW2 t b vs.toArray ws.toArray n n2 dd dd2 sl sl2 (by simpa using hv) (by simpa using hw) (by rw [List.size_toArray, List.size_toArray]; exact hsz)) ⟨ho, ho2, ?_⟩
    rw [e]
    exact h2 hw
noncomputable def sIx (n d : Nat) : Option Int → Nat
  | none => d
  | some v => if v < 0 then (v + (n : Int)).toNat else min v.toNat n
theorem sIx_none (n d : Nat) : sIx n d none = d := rfl
theorem sIx_nat (n d k : Nat) : sIx n d (some (k : Int)) = min k n := by
  show (if (k : Int) < 0 then ((k : Int) + (n : Int)).toNat else min (k : Int).toNat n) = min k n
  rw [if_neg (by omega), Int.toNat_natCast]
theorem sIx_le (n d : Nat) (hd : d ≤ n) (o : Option Int) : sIx n d o ≤ n := by
  cases o with
  | none => exact hd
  | some v =>
    show (if v < 0 then (v + (n : Int)).toNat else min v.toNat n) ≤ n
    by_cases hv : v < 0
    · rw [if_pos hv]; omega
    · rw [if_neg hv]; exact Nat.min_le_right _ _
theorem clip_eq (v : Int) (n d : Nat) : (if v < 0 then max (v + (n : Int)) 0 else min v (n : Int)) = ((sIx n d (some v) : Nat) : Int) := by
  show (if v < 0 then max (v + (n : Int)) 0 else min v (n : Int)) = (((if v < 0 then (v + (n : Int)).toNat else min v.toNat n) : Nat) : Int)
  by_cases hv : v < 0
  · simp only [if_pos hv]; omega
  · simp only [if_neg hv]; omega
theorem adjust_gen (lo hi : Option Int) (n : Nat) : Builtin.Slice.sliceAdjust lo hi 1 (n : Int) = (((sIx n 0 lo : Nat) : Int), ((sIx n n hi : Nat) : Int)) := by
  have h1 : ¬ ((1 : Int) < 0) := by omega
  unfold Builtin.Slice.sliceAdjust
  simp only [h1, if_false]
  refine Prod.ext ?_ ?_
  · cases lo with
    | none => rfl
    | some v => exact clip_eq v n 0
  · cases hi with
    | none => rfl
    | some v => exact clip_eq v n n
theorem places_gen (i j : Nat) : Builtin.Slice.slicePlaces (i : Int) (j : Int) 1 = j - i := by
  unfold Builtin.Slice.slicePlaces
  have h1 : (1 : Int) > 0 := by omega
  simp only [h1, if_true, Int.ediv_one]
  split <;> omega
theorem slicePart_ {v : Value} {o : Option Int} {Q : Option Int → Shared → Prop} (p : IsPart v o) (h : Q o s) : wpAny (model prog w) A (Builtin.Slice.slicePartIndex v) Q E s := by
  cases p with
  | none => exact slicePart_none h
  | int i t => exact slicePart_int h
theorem sliceApplied_gen {sl : Addr} {vl vu : Value} {lo hi : Option Int} {n : Nat} {Q : Int × Int × Nat → Shared → Prop} (hs : s.heap.IsSliceOf sl vl vu .none) (pl : IsPart vl lo) (pu : IsPart vu hi)
    (h : Q (((sIx n 0 lo : Nat) : Int), 1, sIx n n hi - sIx n 0 lo) s) : wpAny (model prog w) A (Builtin.Slice.sliceApplied (.ref sl) (pure (n : Int))) Q E s := by
  obtain ⟨os, hos, hcs, hds⟩ := id hs
  unfold Builtin.Slice.sliceApplied Builtin.Slice.sliceFields
  refine wpAny_bind (wpAny_bind (wpAny_field hos hds (x := vl) rfl (wpAny_bind (wpAny_field hos hds (x := vu) rfl (wpAny_bind (wpAny_field hos hds (x := .none) rfl (wpAny_pure ?_)))))))
  refine wpAny_bind (slicePart_none ?_)
  show wpAny _ _ (if ((1 : Int) == 0) = true then _ else _) _ _ s
  rw [if_neg (by decide)]
  refine wpAny_bind (slicePart_ pl (wpAny_bind (slicePart_ pu (wpAny_bind (wpAny_pure ?_)))))
  show wpAny _ _ (match Builtin.Slice.sliceAdjust lo hi 1 (n : Int) with | (lo, hi) => pure (lo, (1 : Int), Builtin.Slice.slicePlaces lo hi 1)) _ _ s
  rw [adjust_gen lo hi n]
  show wpAny _ _ (pure (((sIx n 0 lo : Nat) : Int), (1 : Int), Builtin.Slice.slicePlaces ((sIx n 0 lo : Nat) : Int) ((sIx n n hi : Nat) : Int) 1)) _ _ s
  rw [places_gen]
  exact wpAny_pure h
theorem pick_gen (xs : Array Value) (i k : Nat) : ((List.range k).filterMap fun (m : Nat) => xs[((i : Int) + (m : Int) * 1).toNat]?).toArray = ((xs.toList.drop i).take k).toArray := by
  have e : (fun (m : Nat) => xs[((i : Int) + (m : Int) * 1).toNat]?) = fun m => xs[i + m]? := by
    funext m
    have : ((i : Int) + (m : Int) * 1).toNat = i + m := by omega
    rw [this]
  rw [e]
  have := pick_run xs i k
  rw [List.filterMap_map] at this
  have e2 : ((fun x => xs[x]?) ∘ fun x => i + x) = fun m => xs[i + m]? := rfl
  rw [e2] at this
  rw [this]
theorem getItem_tuple_cut {t sl : Addr} {items : Array Value} {vl vu : Value} {lo hi : Option Int} {Q : Value → Shared → Prop} (ht : IsTup s.heap t items) (hs : s.heap.IsSliceOf sl vl vu .none) (pl : IsPart vl lo) (pu : IsPart vu hi)
    (hw : ¬ (sIx items.size 0 lo = 0 ∧ sIx items.size items.size hi = items.size))
    (h : Q (.ref s.heap.objs.size) { s with heap := s.heap.push { cls := .type "tuple", data := .seq ((items.toList.drop (sIx items.size 0 lo)).take (sIx items.size items.size hi - sIx items.size 0 lo)).toArray } })
    (hsz : items.size ≤ sizeLine) : wpAny (model prog w) A (getItem (.ref t) (.ref sl)) Q E s := by
  have htake : sizeOk (.seq ((items.toList.drop (sIx items.size 0 lo)).take (sIx items.size items.size hi - sIx items.size 0 lo)).toArray) := by
    show ((items.toList.drop (sIx items.size 0 lo)).take (sIx items.size items.size hi - sIx items.size 0 lo)).toArray.size ≤ sizeLine
    rw [List.size_toArray, List.length_take, List.length_drop, Array.length_toList]
    omega
  have hj : sIx items.size items.size hi ≤ items.size := sIx_le _ _ (Nat.le_refl _) hi
  obtain ⟨os, hos, hcs, hds⟩ := id hs
  have hTs : s.TypeIs (.ref sl) "slice" := ⟨os, hos, hcs⟩
  unfold getItem
  try with_reducible refine wpAny_holding ?_
  first | refine wpAny_bind (wpAny_pure ?_) | skip
  refine wpAny_bind (wpAny_sequenceKey ht.typeIs (by decide) ?_)
  refine wpAny_bind (wpAny_callSpecial?_slot (name := Str.ofString "__getitem__") ht.typeIs PyProof.Rows.slot_tuple_getitem
    (wpAny_call_entry PyProof.Rows.slot_tuple_getitem ht.typeIs entry_tuple_getitem ?_ (args_tuple_getitem _ _)))
  show wpAny _ _ (Builtin.Tuple.tupleItemsOf (.ref t) >>= _) _ _ s
  refine wpAny_bind (tupleItemsOf_ ht ?_)
  refine wpAny_bind (wpAny_typeOf hTs ?_)
  rw [if_pos (by decide)]
  refine wpAny_bind (sliceApplied_gen hs pl pu ?_)
  have hno : ¬ ((((sIx items.size 0 lo : Nat) : Int) == 0 && (1 : Int) == 1 && (sIx items.size items.size hi - sIx items.size 0 lo) == items.size) = true) := by
    intro q
    rw [Bool.and_eq_true, Bool.and_eq_true] at q
    have q1 : ((sIx items.size 0 lo : Nat) : Int) = 0 := eq_of_beq q.1.1
    have q2 : sIx items.size items.size hi - sIx items.size 0 lo = items.size := eq_of_beq q.2
    exact hw ⟨by omega, by omega⟩
  show wpAny _ _ (if (((sIx items.size 0 lo : Nat) : Int) == 0 && (1 : Int) == 1 && (sIx items.size items.size hi - sIx items.size 0 lo) == items.size) = true then _ else _) _ _ s
  rw [if_neg hno, pick_gen]
  first
    | exact wpAny_bind (m := Builtin.Tuple.tupleExact _) (wpAny_newObj_type (wpAny_pure ⟨_, rfl, wpAny_pure h⟩) htake)
    | exact wpAny_bind (m := Builtin.Tuple.tupleExact _) (wpAny_newObj_type (wpAny_bind (wpAny_pure (wpAny_pure ⟨_, rfl, wpAny_pure h⟩))) htake)
    | exact wpAny_bind (wpAny_bind (m := Builtin.Tuple.tupleExact _) (wpAny_newObj_type (wpAny_pure (wpAny_pure ⟨_, rfl, wpAny_pure h⟩)) htake))
    | exact wpAny_bind (wpAny_bind (m := Builtin.Tuple.tupleExact _) (wpAny_newObj_type (wpAny_pure ⟨_, rfl, wpAny_pure h⟩) htake))
end
end HT
namespace L2
open PySem PySem.Spec PyProof.Rows
abbrev TO := St → Hp → (Option Int → Hp → Prop) → Prop
noncomputable def PO (X : Cx) (e : Option Expr) (t : TO) : Prop :=
  ∀ (pins : List (Addr × Obj)) (s : Shared) (σ : St) (H : Hp) (Q : Option Int → Hp → Prop), Inv X pins σ H s → t σ H Q →
    wpAny (model X.prog X.w) X.A (evalPart e X.env) (fun u s' => ∃ o H', Inv X pins σ H' s' ∧ IsPart u o ∧ Q o H') X.xe s
noncomputable def tNoPart : TO := fun _ H Q => Q none H
noncomputable def tPart (t : TE) : TO := fun σ H Q => t σ H fun x H1 => ∃ i, x = .int i ∧ Q (some i) H1
section
variable {X : Cx} {e : Expr} {te : TE} {lo hi : Option Expr} {tl th : TO} {pos p2 : Pos}
theorem po_none : PO X none tNoPart := by
  intro pins s σ H Q I h
  rw [evalPart_none]
  exact wpAny_pure ⟨none, H, I, .none, h⟩
theorem po_some (h : PE X e te) : PO X (some e) (tPart te) := by
  intro pins s σ H Q I hw
  rw [evalPart_some]
  refine thn (h pins s σ H _ I hw) fun u s1 ⟨x, H1, I1, r1, q1⟩ => ?_
  obtain ⟨i, rfl, q⟩ := q1
  obtain ⟨t, rfl⟩ := r1
  exact ⟨some i, H1, I1, .int i t, q⟩
noncomputable def SlR (X : Cx) (r : V → Option Int → Option Int → Hp → VK → Prop) : Prop :=
  ∀ (pins : List (Addr × Obj)) (s : Shared) (σ : St) (H : Hp) (x : V) (v vl vu : Value) (lo hi : Option Int) (sl : Addr) (Q : VK), Inv X pins σ H s → RelV x v → s.heap.IsSliceOf sl vl vu .none → IsPart vl lo → IsPart vu hi → r x lo hi H Q →
    ∃ T id, typeLookup (.type T) "__getitem__" = pure (some (.builtin id)) ∧ s.TypeIs v T ∧ wpAny (model X.prog X.w) X.A (getItem v (.ref sl)) (EP X pins σ Q) X.xe s
theorem SlR.or {r r' : V → Option Int → Option Int → Hp → VK → Prop} (h : SlR X r) (h' : SlR X r') : SlR X (fun x lo hi H Q => r x lo hi H Q ∨ r' x lo hi H Q) := by
  intro pins s σ H x v vl vu lo hi sl Q I rx hs pl pu q
  rcases q with q | q
  · exact h pins s σ H x v vl vu lo hi sl Q I rx hs pl pu q
  · exact h' pins s σ H x v vl vu lo hi sl Q I rx hs pl pu q
noncomputable def tSl (r : V → Option Int → Option Int → Hp → VK → Prop) (te : TE) (tl th : TO) : TE := fun σ H Q => te σ H fun x H1 => tl σ H1 fun l H2 => th σ H2 fun u H3 => r x l u H3 Q
theorem pe_slice {r : V → Option Int → Option Int → Hp → VK → Prop} (hr : SlR X r) (he : PE X e te) (hl : PO X lo tl) (hu : PO X hi th) : PE X (.Subscript e (.Slice lo hi none p2) pos) (tSl r te tl th) := by
  intro pins s σ H Q I h
  refine Subscript_ (thn (he pins s σ H _ I h) fun v s1 ⟨x, H1, I1, r1, q1⟩ => ?_)
  refine wpAny_Slice (thn (hl pins s1 σ H1 _ I1 q1) fun vl s2 ⟨l, H2, I2, pl, q2⟩ => thn (hu pins s2 σ H2 _ I2 q2) fun vu s3 ⟨u, H3, I3, pu, q3⟩ => ?_)
  rw [evalPart_none]
  refine wpAny_pure ?_
  have I4 : Inv X pins σ H3 { s3 with heap := s3.heap.push { cls := .type "slice", data := .fields #[vl, vu, .none] } } := I3.kept (t' := s3.toks) fun b ob q => Heap.get?_push_of_some _ q
  obtain ⟨T, id, hT, ht, hg⟩ := hr pins { s3 with heap := s3.heap.push { cls := .type "slice", data := .fields #[vl, vu, .none] } } σ H3 x v vl vu l u s3.heap.objs.size Q I4 r1 (Heap.IsSliceOf.new ..) pl pu q3
  show wpAny (model X.prog X.w) X.A (subscriptTail e (.Slice lo hi none p2) v (.ref s3.heap.objs.size)) (EP X pins σ Q) X.xe { s3 with heap := s3.heap.push { cls := .type "slice", data := .fields #[vl, vu, .none] } }
  exact tail_any (ops := [.ref s3.heap.objs.size, v]) ht hT hg (by with_unfolding_all rfl)
noncomputable def cutV (xs : List V) (lo hi : Option Int) : List V := (xs.drop (HT.sIx xs.length 0 lo)).take (HT.sIx xs.length xs.length hi - HT.sIx xs.length 0 lo)
theorem cutV_length (xs : List V) (lo hi : Option Int) : (cutV xs lo hi).length ≤ xs.length := by
  unfold cutV
  rw [List.length_take, List.length_drop]
  omega
noncomputable def rSlT (K : PySem.W.Frag) : V → Option Int → Option Int → Hp → VK → Prop := fun x lo hi H Q => ∃ a xs, x = .ref a ∧ SqT K H a xs ∧
  ¬ (HT.sIx xs.length 0 lo = 0 ∧ HT.sIx xs.length xs.length hi = xs.length) ∧ ∀ p, H p = none → Q (.ref p) (upd H p (.tup (cutV xs lo hi)))
theorem sl_tup : SlR X (rSlT X.K) := by
  intro pins s σ H x v vl vu lo hi sl Q I rx hs pl pu h
  obtain ⟨a, xs, rfl, hx, hw, q⟩ := h
  cases rx
  obtain ⟨its, r, ht, hz⟩ := I.tuple hx
  have hlen : its.toArray.size = xs.length := by rw [List.size_toArray]; exact r.length.symm
  refine ⟨"tuple", _, PyProof.Rows.slot_tuple_getitem.lookup, ht.typeIs, ?_⟩
  refine HT.getItem_tuple_cut ht hs pl pu (by rw [hlen]; exact hw) ?_ (by rw [hlen]; exact hz)
  rw [hlen]
  refine ⟨.ref s.heap.objs.size, _, I.laid (t' := s.toks) (o := .tup (cutV xs lo hi)) (fun b ob q => Heap.get?_push_of_some _ q) (Nat.le_refl _) ?_, rfl, q _ (I.hok.fresh (Nat.le_refl _))⟩
  exact ⟨Nat.le_trans (cutV_length xs lo hi) hz, _, (r.drop (HT.sIx xs.length 0 lo)).take (HT.sIx xs.length xs.length hi - HT.sIx xs.length 0 lo), TupN.new _ _⟩
noncomputable def rCatT (K : PySem.W.Frag) : R2 := fun x y H Q => ∃ a b xs ys, x = .ref a ∧ y = .ref b ∧ SqT K H a xs ∧ SqT K H b ys ∧ xs ≠ [] ∧ xs.length + ys.length ≤ sizeLine ∧
  (ys = [] → Q (.ref a) H) ∧ (ys ≠ [] → ∀ p, H p = none → Q (.ref p) (upd H p (.tup (xs ++ ys))))
theorem Vals.nil_iff {xs : List V} {us : List Value} (r : Vals xs us) : us = [] ↔ xs = [] := by
  cases r with
  | nil => simp
  | cons _ _ => simp
theorem op_catT : OpR X (binaryOp .Add) (rCatT X.K) := by
  intro pins s σ H x y v u Q I rx ry h
  obtain ⟨a, b, xs, ys, rfl, rfl, ha, hb, hx, hz, q1, q2⟩ := h
  cases rx
  cases ry
  obtain ⟨its, r1, p1, _⟩ := I.tuple ha
  obtain ⟨its2, r2, p2, _⟩ := I.tuple hb
  refine HT.cat_tup p1 p2 (fun z => hx (r1.nil_iff.mp z)) (fun z => ⟨.ref a, H, I, rfl, q1 (r2.nil_iff.mp z)⟩) (fun z => ?_) (by rw [← r1.length, ← r2.length]; exact hz)
  refine ⟨.ref s.heap.objs.size, _, I.laid (t' := s.toks) (o := .tup (xs ++ ys)) (fun b ob q => Heap.get?_push_of_some _ q) (Nat.le_refl _) ?_, rfl, q2 (fun w => z (r2.nil_iff.mpr w)) _ (I.hok.fresh (Nat.le_refl _))⟩
  exact ⟨by rw [List.length_append]; exact hz, _, r1.append r2, TupN.new _ _⟩
end
end L2
namespace L2
open PySem PySem.Spec PyProof.Rows
noncomputable def ixN (n : Nat) (i : Int) : Option Nat := if 0 ≤ i then (if i < n then some i.toNat else none) else if -(n : Int) ≤ i then some (i + n).toNat else none
noncomputable def atI {α : Type} (xs : List α) (i : Int) : Option α := (ixN xs.length i).bind fun j => xs[j]?
theorem ixN_seq {n : Nat} {i : Int} {j : Nat} (h : ixN n i = some j) : seqIndex? i n = some j ∧ j < n ∧ -(n : Int) ≤ i ∧ i < n := by
  unfold ixN at h
  by_cases h0 : 0 ≤ i
  · rw [if_pos h0] at h
    by_cases h1 : i < n
    · rw [if_pos h1] at h
      have e : i.toNat = j := Option.some.inj h
      exact ⟨by rw [seqIndex_of h0 h1, e], by omega, by omega, h1⟩
    · rw [if_neg h1] at h; cases h
  · rw [if_neg h0] at h
    by_cases h1 : -(n : Int) ≤ i
    · rw [if_pos h1] at h
      have e : (i + n).toNat = j := Option.some.inj h
      exact ⟨by rw [seqIndex_neg (by omega) h1, e], by omega, h1, by omega⟩
    · rw [if_neg h1] at h; cases h
theorem atI_get {α : Type} {xs : List α} {i : Int} {v : α} (h : atI xs i = some v) : ∃ j, seqIndex? i xs.length = some j ∧ xs[j]? = some v ∧ j < xs.length ∧ -(xs.length : Int) ≤ i ∧ i < xs.length := by
  unfold atI at h
  cases e : ixN xs.length i with
  | none => rw [e] at h; cases h
  | some j =>
    rw [e] at h
    obtain ⟨h1, h2, h3, h4⟩ := ixN_seq e
    exact ⟨j, h1, h, h2, h3, h4⟩
theorem atI_nat {α : Type} {xs : List α} {j : Nat} {v : α} (h : xs[j]? = some v) : atI xs (j : Int) = some v := by
  have hj : j < xs.length := (List.getElem?_eq_some_iff.mp h).1
  have e : ixN xs.length (j : Int) = some j := by
    unfold ixN
    rw [if_pos (by omega), if_pos (by omega)]; simp
  unfold atI; rw [e]; exact h
noncomputable def PlainIx (b : Expr) : Prop := ∀ o i, subscripted b false o i = operate [o, i] (getItem o i)
noncomputable def IxR (X : Cx) (r : R2) : Prop :=
  ∀ (value slice : Expr) (pins : List (Addr × Obj)) (s : Shared) (σ : St) (H : Hp) (x y : V) (v u : Value) (Q : VK), Inv X pins σ H s → RelV x v → RelV y u → r x y H Q →
    subscripted slice false v u = operate [v, u] (getItem v u) → wpAny (model X.prog X.w) X.A (subscriptTail value slice v u) (EP X pins σ Q) X.xe s
noncomputable def MtR (X : Cx) (id : String) (r : V → List V → Hp → VK → Prop) : Prop :=
  ∀ (pins : List (Addr × Obj)) (s : Shared) (σ : St) (H : Hp) (x : V) (xs : List V) (v : Value) (us : List Value) (Q : VK), Inv X pins σ H s → RelV x v → Vals xs us → r x xs H Q →
    wpAny (model X.prog X.w) X.A (call (.builtin id) (v :: us)) (EP X pins σ Q) X.xe s
section
variable {X : Cx} {a b : Expr} {ta tb : TE} {pos : Pos}
theorem IxR.or {r r' : R2} (h : IxR X r) (h' : IxR X r') : IxR X (fun x y H Q => r x y H Q ∨ r' x y H Q) := by
  intro value slice pins s σ H x y v u Q I rx ry q hs
  rcases q with q | q
  · exact h value slice pins s σ H x y v u Q I rx ry q hs
  · exact h' value slice pins s σ H x y v u Q I rx ry q hs
theorem pe_ix {r : R2} (hr : IxR X r) (ha : PE X a ta) (hb : PE X b tb) (hs : PlainIx b) : PE X (.Subscript a b pos) (tOp r ta tb) := by
  intro pins s σ H Q I h
  exact Subscript_ (binT ha hb I h fun v u s2 x y H2 I2 rx ry q => hr a b pins s2 σ H2 x y v u Q I2 rx ry q (hs _ _))
noncomputable def rIxL (K : PySem.W.Frag) : R2 := fun x y H Q => ∃ p xs i v, x = .ref p ∧ y = .int i ∧ SqL K H p xs ∧ atI xs i = some v ∧ Q v H
noncomputable def rIxT (K : PySem.W.Frag) : R2 := fun x y H Q => ∃ p xs i v, x = .ref p ∧ y = .int i ∧ SqT K H p xs ∧ atI xs i = some v ∧ Q v H
noncomputable def rIxS : R2 := fun x y H Q => ∃ z i c, x = .str z ∧ y = .int i ∧ z.length ≤ sizeLine ∧ atI z.cps.toList i = some c ∧ Q (.str ⟨#[c]⟩) H
theorem ix_list : IxR X (rIxL X.K) := by
  intro value slice pins s σ H x y v u Q I rx ry h hs
  obtain ⟨p, xs, i, z, rfl, rfl, hq, he, q⟩ := h
  cases rx
  obtain ⟨t, rfl⟩ := ry
  obtain ⟨its, r, pl, hz⟩ := I.list hq
  obtain ⟨j, h1, h2, h3, h4, h5⟩ := atI_get he
  obtain ⟨w, ew, rw'⟩ := r.get h2
  have hl := r.length
  have hn := line63
  have fin : EP X pins σ Q w s := ⟨z, H, I, rw', q⟩
  by_cases h0 : 0 ≤ i
  · have hj : i.toNat = j := by
      rw [seqIndex_of h0 h5] at h1
      exact Option.some.inj h1
    exact item_listR pl.isList h0 (by omega) (by rw [hj]; simpa using ew) fin hs
  · have hj : (i + (its.toArray.size : Int)).toNat = j := by
      rw [seqIndex_neg (by omega) h4] at h1
      rw [List.size_toArray, ← hl]
      exact Option.some.inj h1
    exact subscriptTail_builtinR (x := w) pl.isList.typeIs slot_list_getitem.lookup
      (wpAny_getItem_list_neg (Q := fun r s' => r = w ∧ EP X pins σ Q r s') pl.isList (by omega) (by rw [List.size_toArray] <;> omega) (by omega) (by rw [hj]; simpa using ew) ⟨rfl, fin⟩) hs
theorem ix_tup : IxR X (rIxT X.K) := by
  intro value slice pins s σ H x y v u Q I rx ry h hs
  obtain ⟨p, xs, i, z, rfl, rfl, hq, he, q⟩ := h
  cases rx
  obtain ⟨t, rfl⟩ := ry
  obtain ⟨its, r, pl, hz⟩ := I.tuple hq
  obtain ⟨j, h1, h2, h3, h4, h5⟩ := atI_get he
  obtain ⟨w, ew, rw'⟩ := r.get h2
  have hl := r.length
  have hn := line63
  have fin : EP X pins σ Q w s := ⟨z, H, I, rw', q⟩
  exact subscriptTail_builtinR (x := w) pl.typeIs slot_tuple_getitem.lookup
    (getItem_tuple (j := j) (Q := fun r s' => r = w ∧ EP X pins σ Q r s') pl (by omega) (by omega) (by rw [List.size_toArray, ← hl]; exact h1) (by simpa using ew) ⟨rfl, fin⟩) hs
theorem ix_str : IxR X rIxS := by
  intro value slice pins s σ H x y v u Q I rx ry h hs
  obtain ⟨z, i, c, rfl, rfl, hz, he, q⟩ := h
  obtain ⟨t, rfl⟩ := rx
  obtain ⟨t', rfl⟩ := ry
  obtain ⟨j, h1, h2, h3, h4, h5⟩ := atI_get he
  have hl : z.cps.toList.length = z.length := by simp [Str.length]
  rw [hl] at h1 h4 h5
  have hn := line63
  exact tail_any (typeIs_str s z t) slot_str_getitem.lookup (getItem_str (c := c) (by
    have e1 : decide (i < -(2 ^ 63 : Int)) = false := decide_eq_false (by omega)
    have e2 : decide (i ≥ 2 ^ 63) = false := decide_eq_false (by omega)
    rw [e1, e2, Bool.or_false]) (by rw [h1]; simpa using h2) ⟨.str ⟨#[c]⟩, H, I.tok _, ⟨_, rfl⟩, q⟩) hs
noncomputable def rIx (K : PySem.W.Frag) : R2 := fun x y H Q => rIxL K x y H Q ∨ rIxT K x y H Q ∨ rIxS x y H Q
theorem ix_seq : IxR X (rIx X.K) := ix_list.or (ix_tup.or ix_str)
theorem mapSeq_set (its : List Value) (n j : Nat) (u : Value) : Obj.mapSeq (·.setIfInBounds j u) { cls := .type "list", data := .seq its.toArray n } = { cls := .type "list", data := .seq (its.set j u).toArray n } := by
  simp [Obj.mapSeq]
theorem Inv.lst {pins : List (Addr × Obj)} {σ : St} {H : Hp} {s : Shared} {p : Addr} {xs : List V} (I : Inv X pins σ H s) (h : H p = some (.lst xs)) :
    ∃ (its : List Value) (n : Nat), Vals xs its ∧ s.heap.get? p = some { cls := .type "list", data := .seq its.toArray n } ∧ xs.length ≤ sizeLine := by
  obtain ⟨z, its, n, r, e⟩ := I.hok p _ h
  exact ⟨its, n, r, e, z⟩
theorem Inv.lstUpd {pins : List (Addr × Obj)} {σ : St} {H : Hp} {s : Shared} {p : Addr} {xs ys : List V} {its its' : List Value} {n n' : Nat} {f : Obj → Obj} (I : Inv X pins σ H s) (h : H p = some (.lst xs))
    (ho : s.heap.get? p = some { cls := .type "list", data := .seq its.toArray n }) (hf : f { cls := .type "list", data := .seq its.toArray n } = { cls := .type "list", data := .seq its'.toArray n' }) (r : Vals ys its') (hz : ys.length ≤ sizeLine) (t : Nat) :
    Inv X pins σ (upd H p (.lst ys)) { s with heap := s.heap.update p f, toks := t } := by
  have e : (s.heap.update p f).get? p = some { cls := .type "list", data := .seq its'.toArray n' } := by
    rw [Heap.get?_update_self f ho (by rw [hf] <;> rfl), hf]
  refine I.write (x := p) (e := p) (by rw [h]; trivial) (.inl rfl) (fun b u hb q => (Heap.get?_update_other _ _ (Ne.symm hb)).trans q) ⟨_, e⟩ ?_
  exact ⟨hz, its', n', r, e⟩
noncomputable def rSetL : V → V → V → Hp → (Hp → Prop) → Prop := fun o i v H Q => ∃ p xs k j, o = .ref p ∧ i = .int k ∧ H p = some (.lst xs) ∧ ixN xs.length k = some j ∧ Q (upd H p (.lst (xs.set j v)))
theorem set_list : PSet X rSetL := by
  intro pins s σ H o i v ov iv u Q I ro ri rv h
  obtain ⟨p, xs, k, j, rfl, rfl, hp, hj, q⟩ := h
  cases ro
  obtain ⟨t, rfl⟩ := ri
  obtain ⟨its, n, r, ho, hz⟩ := I.lst hp
  obtain ⟨h1, h2, h3, h4⟩ := ixN_seq hj
  have hl := r.length
  have hn := line63
  have I' : Inv X pins σ (upd H p (.lst (xs.set j v))) { s with heap := s.heap.update p (Obj.mapSeq (·.setIfInBounds j u)) } :=
    I.lstUpd hp ho (mapSeq_set its n j u) (r.set rv j) (by rw [List.length_set]; exact hz) s.toks
  by_cases h0 : 0 ≤ k
  · have hk : k.toNat = j := by
      rw [seqIndex_of h0 h4] at h1
      exact Option.some.inj h1
    exact PySem.W.ki_setAt ho h0 (by omega) (by rw [List.size_toArray, ← hl]; exact h4) (by rw [hk]; exact ⟨_, I', q⟩)
  · have hk : (k + (its.toArray.size : Int)).toNat = j := by
      rw [seqIndex_neg (by omega) h3] at h1
      rw [List.size_toArray, ← hl]
      exact Option.some.inj h1
    exact PySem.W.ki_setBack ho (by omega) (by rw [List.size_toArray, ← hl]; exact h3) (by omega) (by rw [hk]; exact ⟨_, I', q⟩)
theorem slice_bounds (lo hi : Option Int) (n : Nat) : (sliceBounds lo hi none n).1 = ((HT.sIx n 0 lo : Nat) : Int) ∧ (sliceBounds lo hi none n).2.1 = ((HT.sIx n n hi : Nat) : Int) ∧ (sliceBounds lo hi none n).2.2 = 1 := by
  refine ⟨?_, ?_, rfl⟩
  · cases lo with
    | none => simp [sliceBounds, HT.sIx]
    | some i =>
      simp only [sliceBounds, HT.sIx, Option.getD_none, show (1 : Int) > 0 by decide, if_true]
      by_cases h : i < 0
      · simp only [h, if_true] <;> omega
      · simp only [h, if_false] <;> omega
  · cases hi with
    | none => simp [sliceBounds, HT.sIx]
    | some i =>
      simp only [sliceBounds, HT.sIx, Option.getD_none, show (1 : Int) > 0 by decide, if_true]
      by_cases h : i < 0
      · simp only [h, if_true] <;> omega
      · simp only [h, if_false] <;> omega
theorem slicePick_cut (its : List Value) (lo hi : Option Int) : slicePick its.toArray lo hi none = ((its.drop (HT.sIx its.length 0 lo)).take (HT.sIx its.length its.length hi - HT.sIx its.length 0 lo)).toArray := by
  obtain ⟨h1, h2, h3⟩ := slice_bounds lo hi its.toArray.size
  unfold slicePick
  rw [h1, h2, h3]
  simp only [sliceRange_one, pick_run, List.size_toArray] <;> rfl
noncomputable def rSlL (K : PySem.W.Frag) : V → Option Int → Option Int → Hp → VK → Prop := fun x lo hi H Q => ∃ a xs, x = .ref a ∧ SqL K H a xs ∧ ∀ p, H p = none → Q (.ref p) (upd H p (.lst (cutV xs lo hi)))
theorem sl_list : SlR X (rSlL X.K) := by
  intro pins s σ H x v vl vu lo hi sl Q I rx hs pl pu h
  obtain ⟨a, xs, rfl, hx, q⟩ := h
  cases rx
  obtain ⟨its, r, ht, hz⟩ := I.list hx
  have hlen := r.length
  refine ⟨"list", _, slot_list_getitem.lookup, ht.isList.typeIs, ?_⟩
  refine wpAny_getItem_list_slice ht.isList hs pl pu .none (by simp) ?_ (by rw [List.size_toArray] <;> omega)
  rw [slicePick_cut, ← hlen]
  refine ⟨.ref s.heap.objs.size, _, I.laid (t' := s.toks) (o := .lst (cutV xs lo hi)) (fun b ob q => Heap.get?_push_of_some _ q) (Nat.le_refl _) ?_, rfl, q _ (I.hok.fresh (Nat.le_refl _))⟩
  exact ⟨Nat.le_trans (cutV_length xs lo hi) hz, _, 0, (r.drop (HT.sIx xs.length 0 lo)).take (HT.sIx xs.length xs.length hi - HT.sIx xs.length 0 lo), Heap.get?_push_size _ rfl⟩
noncomputable def flatV : V → Bool
  | .non => true
  | .bl _ => true
  | .int _ => true
  | .str _ => true
  | _ => false
noncomputable def eqV : V → V → Bool
  | .non, .non => true
  | .bl a, .bl b => a == b
  | .bl a, .int b => (if a then 1 else 0) == b
  | .int a, .bl b => a == (if b then 1 else 0)
  | .int a, .int b => a == b
  | .str a, .str b => a == b
  | _, _ => false
theorem eqAt_V {A : Around} {s : Shared} {y x : V} {u v : Value} (ry : RelV y u) (rx : RelV x v) (fy : flatV y = true) (fx : flatV x = true) : SeqAt.EqAt A s u v (eqV y x) := by
  cases y with
  | non =>
    cases ry
    cases x with
    | non => cases rx; exact SeqAt.EqAt.same _
    | bl b => cases rx; exact SeqAt.EqAt.none_bool b
    | int b => obtain ⟨t, rfl⟩ := rx; exact SeqAt.EqAt.none_int b t
    | str b => obtain ⟨t, rfl⟩ := rx; exact SeqAt.EqAt.none_str b t
    | _ => exact absurd (show false = true from fx) Bool.false_ne_true
  | bl a =>
    cases ry
    cases x with
    | non => cases rx; exact SeqAt.EqAt.bool_none a
    | bl b => cases rx; exact SeqAt.EqAt.bool_bool a b
    | int b => obtain ⟨t, rfl⟩ := rx; exact SeqAt.EqAt.bool_int a b t
    | str b => obtain ⟨t, rfl⟩ := rx; exact SeqAt.EqAt.bool_str a b t
    | _ => exact absurd (show false = true from fx) Bool.false_ne_true
  | int a =>
    obtain ⟨t', rfl⟩ := ry
    cases x with
    | non => cases rx; exact SeqAt.EqAt.int_none a t'
    | bl b => cases rx; exact SeqAt.EqAt.int_bool a t' b
    | int b => obtain ⟨t, rfl⟩ := rx; exact SeqAt.EqAt.int_int a t' b t
    | str b => obtain ⟨t, rfl⟩ := rx; exact SeqAt.EqAt.int_str a t' b t
    | _ => exact absurd (show false = true from fx) Bool.false_ne_true
  | str a =>
    obtain ⟨t', rfl⟩ := ry
    cases x with
    | non => cases rx; exact SeqAt.EqAt.str_none a t'
    | bl b => cases rx; exact SeqAt.EqAt.str_bool a t' b
    | int b => obtain ⟨t, rfl⟩ := rx; exact SeqAt.EqAt.str_int a t' b t
    | str b => obtain ⟨t, rfl⟩ := rx; exact SeqAt.EqAt.str_str a t' b t
    | _ => exact absurd (show false = true from fx) Bool.false_ne_true
  | _ => exact absurd (show false = true from fy) Bool.false_ne_true
noncomputable def eqU (x : V) (u : Value) : Bool := match u with
  | .none => eqV .non x
  | .bool b => eqV (.bl b) x
  | .int i _ => eqV (.int i) x
  | .str z _ => eqV (.str z) x
  | _ => false
theorem eqU_of {x y : V} {u : Value} (r : RelV y u) (f : flatV y = true) : eqU x u = eqV y x := by
  cases y with
  | non => cases r; rfl
  | bl b => cases r; rfl
  | int i => obtain ⟨t, rfl⟩ := r; rfl
  | str z => obtain ⟨t, rfl⟩ := r; rfl
  | _ => exact absurd (show false = true from f) Bool.false_ne_true
theorem any_eqU {x : V} : ∀ {xs : List V} {us : List Value}, Vals xs us → xs.all flatV = true → us.any (eqU x) = xs.any fun y => eqV y x
  | _, _, .nil, _ => rfl
  | y :: xs, u :: us, .cons r t, f => by
    rw [List.all_cons, Bool.and_eq_true] at f
    rw [List.any_cons, List.any_cons, eqU_of r f.1, any_eqU t f.2]
theorem mem_eqAt {A : Around} {s : Shared} {x : V} {v : Value} (rx : RelV x v) (fx : flatV x = true) : ∀ {xs : List V} {us : List Value}, Vals xs us → xs.all flatV = true → ∀ u ∈ us, SeqAt.EqAt A s u v (eqU x u)
  | _, _, .nil, _ => fun u hu => by cases hu
  | y :: xs, u :: us, .cons r t, f => fun u' hu => by
    rw [List.all_cons, Bool.and_eq_true] at f
    rcases List.mem_cons.mp hu with rfl | hu
    · rw [eqU_of r f.1]; exact eqAt_V r rx f.1 fx
    · exact mem_eqAt rx fx t f.2 u' hu
noncomputable def inV (x : V) (xs : List V) : Bool := xs.any fun y => eqV y x
noncomputable def rIn (K : PySem.W.Frag) (neg : Bool) : R2 := fun x y H Q => ∃ p xs, y = .ref p ∧ (SqL K H p xs ∨ SqT K H p xs) ∧ flatV x = true ∧ xs.all flatV = true ∧ Q (.bl (if neg then !inV x xs else inV x xs)) H
theorem op_in_seq : OpR X (compareOp .In) (rIn X.K false) := by
  intro pins s σ H x y v u Q I rx ry h
  obtain ⟨p, xs, rfl, hq, fx, fs, q⟩ := h
  cases ry
  rcases hq with hq | hq
  · obtain ⟨its, r, pl, hz⟩ := I.list hq
    refine SeqAt.in_listAt (eqU x) pl.isList (fun w hw => mem_eqAt rx fx r fs w (by simpa using hw)) ⟨.bl _, H, I, rfl, ?_⟩
    rw [show its.toArray.any (eqU x) = its.any (eqU x) by simp, any_eqU r fs]
    exact q
  · obtain ⟨its, r, pl, hz⟩ := I.tuple hq
    refine SeqAt.in_tupleAt (eqU x) pl (fun w hw => mem_eqAt rx fx r fs w (by simpa using hw)) ⟨.bl _, H, I, rfl, ?_⟩
    rw [show its.toArray.any (eqU x) = its.any (eqU x) by simp, any_eqU r fs]
    exact q
theorem op_notIn_seq : OpR X (compareOp .NotIn) (rIn X.K true) := by
  intro pins s σ H x y v u Q I rx ry h
  obtain ⟨p, xs, rfl, hq, fx, fs, q⟩ := h
  cases ry
  rcases hq with hq | hq
  · obtain ⟨its, r, pl, hz⟩ := I.list hq
    refine SeqAt.notIn_listAt (eqU x) pl.isList (fun w hw => mem_eqAt rx fx r fs w (by simpa using hw)) ⟨.bl _, H, I, rfl, ?_⟩
    rw [show its.toArray.any (eqU x) = its.any (eqU x) by simp, any_eqU r fs]
    exact q
  · obtain ⟨its, r, pl, hz⟩ := I.tuple hq
    refine SeqAt.notIn_tupleAt (eqU x) pl (fun w hw => mem_eqAt rx fx r fs w (by simpa using hw)) ⟨.bl _, H, I, rfl, ?_⟩
    rw [show its.toArray.any (eqU x) = its.any (eqU x) by simp, any_eqU r fs]
    exact q
theorem op_notIn_str : OpR X (compareOp .NotIn) (fun x y H Q => ∃ i j, x = .str i ∧ y = .str j ∧ Q (.bl (!(!(Builtin.Str.occurrences j i 0 j.length 1).isEmpty))) H) := by
  intro pins s σ H x y v u Q I rx ry h
  obtain ⟨i, j, rfl, rfl, q⟩ := h
  obtain ⟨t, rfl⟩ := rx
  obtain ⟨t', rfl⟩ := ry
  exact notIn_str ⟨.bl _, H, I, rfl, q⟩
theorem call_len_seq : CallR X (.builtin "len") (fun xs H Q => ∃ p ys, xs = [.ref p] ∧ (SqL X.K H p ys ∨ SqT X.K H p ys) ∧ Q (.int ys.length) H) := by
  intro pins s σ H xs us Q I r h
  obtain ⟨p, ys, rfl, hq, q⟩ := h
  obtain ⟨u, rfl, rx⟩ := vals1 r
  cases rx
  have hn := line63
  rcases hq with hq | hq
  · obtain ⟨its, r', pl, hz⟩ := I.list hq
    have hlen := r'.length
    exact Calls.call_len_list pl.isList (by simp only [List.size_toArray] <;> omega) ⟨.int ys.length, H, I.tok _, ⟨s.toks + 1, by rw [List.size_toArray, hlen]⟩, q⟩
  · obtain ⟨its, r', pl, hz⟩ := I.tuple hq
    have hlen := r'.length
    exact len_tuple pl (by simp only [List.size_toArray] <;> omega) ⟨.int ys.length, H, I.tok _, ⟨s.toks + 1, by rw [List.size_toArray, hlen]⟩, q⟩
theorem call_len_str : CallR X (.builtin "len") (fun xs H Q => ∃ z, xs = [.str z] ∧ z.length ≤ sizeLine ∧ Q (.int z.length) H) := by
  intro pins s σ H xs us Q I r h
  obtain ⟨z, rfl, hz, q⟩ := h
  obtain ⟨u, rfl, t, rfl⟩ := vals1 r
  have hn := line63
  exact len_str (by omega) ⟨.int z.length, H, I.tok _, ⟨_, rfl⟩, q⟩
theorem CallR.or {f : Value} {r r' : List V → Hp → VK → Prop} (h : CallR X f r) (h' : CallR X f r') : CallR X f (fun xs H Q => r xs H Q ∨ r' xs H Q) := by
  intro pins s σ H xs us Q I rs q
  rcases q with q | q
  · exact h pins s σ H xs us Q I rs q
  · exact h' pins s σ H xs us Q I rs q
theorem call_tuple_of : CallR X (.type "tuple") (fun xs H Q => ∃ p ys, xs = [.ref p] ∧ ((SqL X.K H p ys ∧ ∀ l, H l = none → Q (.ref l) (upd H l (.tup ys))) ∨ (SqT X.K H p ys ∧ Q (.ref p) H))) := by
  intro pins s σ H xs us Q I r h
  obtain ⟨p, ys, rfl, h⟩ := h
  obtain ⟨u, rfl, rx⟩ := vals1 r
  cases rx
  rcases h with ⟨hq, q⟩ | ⟨hq, q⟩
  · obtain ⟨its, r', pl, hz⟩ := I.list hq
    have hlen := r'.length
    refine call_tuple_list pl.isList (fun h' kp => ?_) (by simp only [List.size_toArray] <;> omega)
    have I1 : Inv X pins σ H { s with heap := h' } := I.kept (t' := s.toks) kp
    have I2 : Inv X pins σ (upd H h'.objs.size (.tup ys)) { s with heap := h'.push { cls := .type "tuple", data := .seq its.toArray } } :=
      I1.laid (t' := s.toks) (fun b o e => Heap.get?_push_of_some _ e) (Nat.le_refl _) (show ObjOk X.prog X.w _ _ _ (.tup ys) from ⟨hz, its, r', TupN.new _ _⟩)
    exact ⟨.ref h'.objs.size, _, I2, rfl, q _ (I1.hok.fresh (Nat.le_refl _))⟩
  · obtain ⟨its, r', pl, hz⟩ := I.tuple hq
    exact call_tuple_same pl ⟨.ref p, H, I, rfl, q⟩
noncomputable def tyV (K : PySem.W.Frag) (T : String) (x : V) (H : Hp) : Prop := match x with
  | .str _ => T = "str"
  | .int _ => T = "int"
  | .ref p => (T = "list" ∧ ∃ xs, SqL K H p xs) ∨ (T = "tuple" ∧ ∃ o, K.lookup p = some o ∧ o.cls = .type "tuple" ∧ o.dict = none) ∨
      (T = "dict" ∧ ((∃ kvs, H p = some (.dK kvs)) ∨ ∃ kvs, H p = some (.dT kvs))) ∨ (T = "set" ∧ ∃ S n, H p = some (.set S n))
  | _ => False
theorem tyV_is {pins : List (Addr × Obj)} {σ : St} {H : Hp} {s : Shared} {T : String} {x : V} {v : Value} (I : Inv X pins σ H s) (r : RelV x v) (ty : tyV X.K T x H) :
    s.TypeIs v T ∧ ∀ a, v = .ref a → ∃ ob, s.heap.get? a = some ob ∧ ob.dict = none := by
  cases x with
  | str z =>
    obtain ⟨t, rfl⟩ := r
    cases (show T = "str" from ty)
    exact ⟨typeIs_str s z t, fun _ e => nomatch e⟩
  | int i =>
    obtain ⟨t, rfl⟩ := r
    cases (show T = "int" from ty)
    exact ⟨typeIs_int s i t, fun _ e => nomatch e⟩
  | ref p =>
    cases r
    rcases ty with ⟨rfl, xs, hq⟩ | ⟨rfl, o, hk, hc, hd⟩ | ⟨rfl, hk⟩ | ⟨rfl, S, n, hk⟩
    · obtain ⟨its, _, pl, _⟩ := I.list hq
      refine ⟨pl.isList.typeIs, fun a e => ?_⟩
      cases e
      obtain ⟨o, n, e, c, hd, _⟩ := pl
      exact ⟨o, e, hd⟩
    · refine ⟨⟨o, I.kIn p o hk, hc⟩, fun a e => ?_⟩
      cases e
      exact ⟨o, I.kIn _ o hk, hd⟩
    · have z : ∃ o, s.heap.get? p = some o ∧ o.ExactDict := by
        rcases hk with ⟨kvs, hk⟩ | ⟨kvs, hk⟩
        · obtain ⟨_, _, _, _, o, _, _, e, ex, _⟩ := I.hok p _ hk
          exact ⟨o, e, ex⟩
        · obtain ⟨_, _, _, _, o, _, _, e, ex, _⟩ := I.hok p _ hk
          exact ⟨o, e, ex⟩
      obtain ⟨o, e, ex⟩ := z
      refine ⟨⟨o, e, ex.1⟩, fun a e2 => ?_⟩
      cases e2
      exact ⟨o, e, ex.2.1⟩
    · obtain ⟨o, _, _, _, e, ex, _⟩ := I.hok p _ hk
      refine ⟨⟨o, e, ex.1⟩, fun a e2 => ?_⟩
      cases e2
      exact ⟨o, e, ex.2.1⟩
  | _ => exact False.elim ty
noncomputable def tBM (K : PySem.W.Frag) (T : String) (r : V → List V → Hp → VK → Prop) (to : TE) (t : TA) : TE := fun σ H Q => to σ H fun x H1 => tyV K T x H1 ∧ t σ H1 fun xs H2 => r x xs H2 Q
variable {o e : Expr} {es : List Expr} {to : TE} {t : TA} {name : Str} {apos cpos : Pos} {T id : String} {r : V → List V → Hp → VK → Prop}
theorem pe_bm (pa : PlainAttrs T) (slot : Slot T name id) (hty : typeOf (.builtin id) = pure (.type "method_descriptor")) (hm : MtR X id r) (ho : PE X o to) (ha : PA X (e :: es) t)
    (hbase : attributeBase o name X.env (eval o X.env) = eval o X.env := by rfl)
    (hfew : ((backTo cpos (starEach (e :: es) X.env)).all (fun x => !x.1) && (backToKw cpos (keywordEach [] X.env)).all (fun x => x.1.isSome)
      && decide ((e :: es).length + ([] : List Keyword).length + (if ([] : List Keyword).isEmpty then 0 else 1) < 30)) = true := by rfl)
    (hline : (apos.endLine == cpos.line) = true := by rfl) (hs : starEach (e :: es) X.env = (false, eval e X.env) :: starEach es X.env := by rfl) (hplain : (backTo cpos (starEach es X.env)).any (·.1) = false := by rfl) :
    PE X (.Call (.Attribute o name apos) (e :: es) [] cpos) (tBM X.K T r to t) := by
  intro pins s σ H Q I h
  refine wpAny_Call_method_late hbase hfew hline rfl (thn (ho pins s σ H _ I h) fun v s1 ⟨x, H1, I1, r1, ty, q1⟩ => ?_)
  obtain ⟨h1, h2⟩ := tyV_is I1 r1 ty
  refine ⟨T, id, pa, slot, hty, h1, h2, ?_⟩
  have hA := ha cpos pins s1 σ H1 _ I1 q1
  rw [hs] at hA ⊢
  refine Calls.callWith_builtin (by show (false || (backTo cpos (starEach es X.env)).any (·.1)) = false; rw [hplain] <;> rfl) (Calls.evalArgs_plain ?_)
  exact thn hA fun us s2 ⟨vs, H2, I2, r2, q2⟩ => hm pins s2 σ H2 x vs v us Q I2 r1 r2 q2
/- xs.append(e), list.index on a module's tuple .. are MtR facts of 06m -/
end
end L2
namespace L2
open PySem PySem.Spec PyProof.Rows
noncomputable def MtM (X : Cx) (id : String) (r : V → List V → Hp → VK → Prop) : Prop :=
  ∀ (pins : List (Addr × Obj)) (s : Shared) (σ : St) (H : Hp) (x : V) (xs : List V) (v : Value) (us : List Value) (Q : VK), Inv X pins σ H s → RelV x v → Vals xs us → r x xs H Q →
    wpAny (model X.prog X.w) X.A (call (.builtin id) (v :: us)) (EP X pins σ Q) X.xe s
theorem Vals.one : ∀ {x : V} {us : List Value}, Vals [x] us → ∃ u, us = [u] ∧ RelV x u
  | _, _, .cons r .nil => ⟨_, rfl, r⟩
theorem Vals.two : ∀ {x y : V} {us : List Value}, Vals [x, y] us → ∃ u v, us = [u, v] ∧ RelV x u ∧ RelV y v
  | _, _, _, .cons r (.cons q .nil) => ⟨_, _, rfl, r, q⟩
theorem Vals.zero : ∀ {us : List Value}, Vals [] us → us = []
  | _, .nil => rfl
theorem Vals.rep {xs : List V} {us : List Value} (h : Vals xs us) : ∀ k : Nat, Vals (List.replicate k xs).flatten (List.replicate k us).flatten
  | 0 => .nil
  | k + 1 => by
    rw [List.replicate_succ, List.replicate_succ, List.flatten_cons, List.flatten_cons]
    exact Vals.append h (Vals.rep h k)
theorem foldl_rep (its : List Value) : ∀ (k : Nat) (acc : List Value),
    List.foldl (fun x1 x2 => x1 ++ x2) acc.toArray (List.replicate k its.toArray) = (acc ++ (List.replicate k its).flatten).toArray
  | 0, acc => by simp
  | k + 1, acc => by
    have e : acc.toArray ++ its.toArray = (acc ++ its).toArray := by simp
    have e2 : (acc ++ its) ++ (List.replicate k its).flatten = acc ++ (List.replicate (k + 1) its).flatten := by
      rw [List.replicate_succ, List.flatten_cons, List.append_assoc]
    rw [← e2, ← foldl_rep its k (acc ++ its), ← e, List.replicate_succ, List.foldl_cons]
section
variable {X : Cx} {pins : List (Addr × Obj)} {σ : St} {H : Hp} {s : Shared} {l b : Addr} {xs ys zs : List V}
theorem Inv.lset {its its' : List Value} {n : Nat} {f : Array Value → Array Value} {t' : Nat} (I : Inv X pins σ H s) (hH : H l = some (.lst xs))
    (e : s.heap.get? l = some { cls := .type "list", data := .seq its.toArray n }) (hf : f its.toArray = its'.toArray) (hv : Vals ys its') (hz : ys.length ≤ sizeLine) :
    Inv X pins σ (upd H l (.lst ys)) { s with heap := s.heap.update l (Obj.mapSeq f), toks := t' } := by
  have q := PySem.IsL.update e f
  rw [hf] at q
  refine I.write (x := l) (e := l) (by rw [hH]; exact trivial) (.inl rfl) (fun b' u hb hu => (Heap.get?_update_other s.heap (Obj.mapSeq f) (Ne.symm hb)).trans hu) ⟨_, q⟩ ?_
  exact ⟨hz, its', _, hv, q⟩
theorem Inv.lnew {its : List Value} {t' : Nat} (I : Inv X pins σ H s) (hv : Vals ys its) (hz : ys.length ≤ sizeLine) :
    Inv X pins σ (upd H s.heap.objs.size (.lst ys)) { s with heap := s.heap.push { cls := .type "list", data := .seq its.toArray }, toks := t' } :=
  I.laid (fun _ _ q => Heap.get?_push_of_some _ q) (Nat.le_refl _) ⟨hz, its, 0, hv, Heap.get?_push_size _ rfl⟩
theorem Inv.fresh (I : Inv X pins σ H s) : H s.heap.objs.size = none := I.hok.fresh (Nat.le_refl _)
theorem Inv.lstM (I : Inv X pins σ H s) (hH : H l = some (.lst xs)) : xs.length ≤ sizeLine ∧ ∃ (its : List Value) (n : Nat), Vals xs its ∧ xs.length = its.length ∧ s.heap.get? l = some { cls := .type "list", data := .seq its.toArray n } := by
  obtain ⟨z, its, n, r, e⟩ := I.hok l _ hH
  exact ⟨z, its, n, r, r.length, e⟩
theorem notLongL {n : Nat} (h : n ≤ sizeLine) : Builtin.List.listTooLong n = false := by
  unfold Builtin.List.listTooLong
  exact decide_eq_false (by omega)
end
section
variable {X : Cx}
noncomputable def rAppend : V → List V → Hp → VK → Prop := fun x vs H Q => ∃ l xs y, x = .ref l ∧ vs = [y] ∧ H l = some (.lst xs) ∧ xs.length < sizeLine ∧ Q .non (upd H l (.lst (xs ++ [y])))
theorem mt_append : MtM X "list.append" rAppend := by
  intro pins s σ H x vs v us Q I rx rv h
  obtain ⟨l, xs, y, rfl, rfl, hH, hz, q⟩ := h
  cases rx
  obtain ⟨u, rfl, ru⟩ := rv.one
  obtain ⟨z, its, n, r, hl, e⟩ := I.lstM hH
  refine call_meets F.slot_list_append ⟨_, e, rfl⟩ F.entry_list_append (F.args_list_append_2 _ _) (PySem.list_append l its.toArray n u (by rw [List.size_toArray]; omega)) ⟨e, ?_⟩
  refine ⟨.non, _, I.lset (its' := its ++ [u]) hH e (by simp) (r.append (.cons ru .nil)) ?_, rfl, q⟩
  rw [List.length_append, List.length_singleton]
  omega
noncomputable def rCat : R2 := fun x y H Q => ∃ l b xs zs, x = .ref l ∧ y = .ref b ∧ H l = some (.lst xs) ∧ H b = some (.lst zs) ∧ xs.length + zs.length ≤ sizeLine ∧ ∀ p, H p = none → Q (.ref p) (upd H p (.lst (xs ++ zs)))
theorem op_cat : OpR X (binaryOp .Add) rCat := by
  intro pins s σ H x y v u Q I rx ry h
  obtain ⟨l, b, xs, zs, rfl, rfl, hH, hB, hz, q⟩ := h
  cases rx
  cases ry
  obtain ⟨z, its, n, r, hl, e⟩ := I.lstM hH
  obtain ⟨z2, its2, n2, r2, hl2, e2⟩ := I.lstM hB
  refine PySem.P.add_list e e2 ?_ (by rw [List.size_toArray, List.size_toArray]; omega)
  have ea : its.toArray ++ its2.toArray = (its ++ its2).toArray := by simp
  rw [ea]
  exact ⟨.ref _, _, I.lnew (t' := s.toks) (r.append r2) (by rw [List.length_append]; omega), rfl, q _ I.fresh⟩
noncomputable def rRep : R2 := fun x y H Q => ∃ l k xs, x = .ref l ∧ y = .int k ∧ H l = some (.lst xs) ∧ -(2 ^ 63) ≤ k ∧ k < 2 ^ 63 ∧ xs.length * k.toNat ≤ sizeLine ∧
  ∀ p, H p = none → Q (.ref p) (upd H p (.lst (List.replicate k.toNat xs).flatten))
theorem len_rep {α : Type} (xs : List α) (k : Nat) : (List.replicate k xs).flatten.length = k * xs.length := by
  induction k with
  | zero => simp
  | succ k ih => rw [List.replicate_succ, List.flatten_cons, List.length_append, ih, Nat.succ_mul, Nat.add_comm]
theorem op_rep : OpR X (binaryOp .Mult) rRep := by
  intro pins s σ H x y v u Q I rx ry h
  obtain ⟨l, k, xs, rfl, rfl, hH, h1, h2, hz, q⟩ := h
  cases rx
  obtain ⟨t, rfl⟩ := ry
  obtain ⟨z, its, n, r, hl, e⟩ := I.lstM hH
  have hlen : its.toArray.size * k.toNat ≤ sizeLine := by rw [List.size_toArray, ← hl]; exact hz
  have hcap : ¬ its.toArray.size * k.toNat > (2 ^ 63 - 1) / 8 := by
    have : (sizeLine : Nat) ≤ (2 ^ 63 - 1) / 8 := by decide
    omega
  have hfit : ¬ (!Builtin.List.listFitsIndex k) = true := by
    rw [fitsIndex_both h1 h2]
    exact Bool.false_ne_true
  have hlong : ¬ Builtin.List.listTooLong (its.toArray.size * k.toNat) = true := by
    rw [notLongL hlen]
    exact Bool.false_ne_true
  have hnew : List.foldl (fun x1 x2 => x1 ++ x2) #[] (List.replicate (if its.toArray.isEmpty = true then 0 else k.toNat) its.toArray) = (List.replicate k.toNat its).flatten.toArray := by
    have f0 : ∀ m : Nat, List.foldl (fun x1 x2 => x1 ++ x2) #[] (List.replicate m its.toArray) = (List.replicate m its).flatten.toArray := fun m => by
      have := foldl_rep its m []
      rw [List.nil_append] at this
      exact this
    rw [f0]
    cases its with
    | nil => simp
    | cons a r' => rw [if_neg (by simp)]
  refine wpAny_binaryOp_repeat_ref (T := "list") (U := "int") (by decide) ⟨_, e, rfl⟩ (fun s' => typeIs_int s' k t) noFill_list_mul F.fills_int_mul F.slot_int_rmul repeat_list F.slot_int_index.lookup
    (call_meets F.slot_int_rmul (typeIs_int s k t) F.entry_int_rmul (F.args_int_rmul_2 _ _) (int___rmul___int_list k t l its.toArray n)
      ⟨e, rfl, ⟨_, e, rfl⟩, call_meets F.slot_list_mul ⟨_, e, rfl⟩ F.entry_list_mul (F.args_list_mul_2 _ _) (AutoListH.list___mul___list_int_3 l its.toArray n k t hfit hcap hlong) ⟨e, ?_⟩⟩)
  rw [hnew]
  exact ⟨.ref _, _, I.lnew (t' := s.toks) (r.rep k.toNat) (by rw [len_rep, Nat.mul_comm]; exact hz), rfl, q _ I.fresh⟩
end
section
variable {prog : Program} {w : World} {A : Around} {E : Value → Shared → Prop} {s : Shared}
set_option maxRecDepth 100000 in
end
section
variable {X : Cx}
end
end L2
namespace Att
open PySem PySem.W PySem.Calls PyProof.Rows
theorem ints_of_wellAll {P : Params} {h : Heap} : ∀ (ns : List Int) (vs : List Value), WellAll P h vs (ns.map WData.int) → IntsAre vs ns := by
  intro ns
  induction ns with
  | nil =>
    intro vs w
    rw [List.map_nil] at w
    cases w
    exact .nil
  | cons n ns ih =>
    intro vs w
    rw [List.map_cons] at w
    cases w with
    | cons a b =>
      cases a
      exact .cons _ _ (ih _ b)
theorem script_of {l : OpenLaw} {n : Nat} (hn : l.most = some n) {P : Params} {h : Heap} {args : List WData} {vals : List Value}
    (hpre : l.row.toRowW.claim.pre args = true) (hwl : WellAll P h vals args) :
    ∃ a vs ns, vals = [Value.ref a] ∧ args = [WData.list (ns.map WData.int)] ∧ h.get? a = some { cls := .type "list", data := .seq vs.toArray } ∧ IntsAre vs ns ∧ ns.length ≤ n := by
  have hsh : WShape.hasAll [] args [.list .int] = true := (pre_splitW hpre).1
  have hc : l.pre.holds [] { args := args } = true := (pre_splitW hpre).2
  obtain ⟨d, r, rfl, h1, h2⟩ := hasAllW_cons hsh
  obtain rfl := hasAllW_nil h2
  obtain ⟨xs, rfl, h3⟩ := hasW_list h1
  obtain ⟨ns, rfl⟩ := items_int h3
  have hlen : ns.length ≤ n := by
    unfold OpenLaw.pre at hc
    have h4 : (WTm.not (.lt (.lit (.int (n : Int))) (.len (.arg 0)))).holds [] { args := [.list (ns.map .int)] } = true := by
      have h4 := (holds_andW hc).1
      rw [hn] at h4
      exact h4
    have h5 := condW_of h4 (w_not (w_lt w_lit (w_len_list (w_arg rfl))))
    rw [List.length_map] at h5
    refine Nat.le_of_not_lt fun q => ?_
    have q' : (n : Int) < ((ns.length : Nat) : Int) := by omega
    first
      | (rw [decide_eq_true q'] at h5; exact absurd h5 (by decide))
      | (simp at h5; omega)
  cases hwl with
  | cons w1 w2 =>
    cases w2
    cases w1 with
    | list ho hall => exact ⟨_, _, ns, rfl, rfl, ho, ints_of_wellAll ns _ hall, hlen⟩
theorem post_true (l : OpenLaw) (args : List WData) : l.row.toRowW.claim.post args (.bool true) args = true :=
  postW_of (r := l.row.toRowW) (X := (true == true))
    (show WShape.has [] (.bool true) .bool = true by first | rfl | decide | simp [WShape.has, WShape.arms, WShape.armsAll])
    (show (WTm.eq .res (.lit (.bool true))).value [] { args := args, res := some (.bool true), after := args } = some (.bool (true == true)) from w_eq_bool (w_res rfl) w_lit) rfl
theorem attach_call {l : OpenLaw} {n : Nat} {q : Program} {loose : List Str} {XP : (Str → Option Value) → Heap → Prop} {YP : World → Heap → Prop} {d : DefRec}
    (hn : l.most = some n) (hdf : d.params.defaults = [])
    (call : ∀ (w : World) (s₀ s₁ : Shared) (mg mb : Str → Option Value) (fa : Addr) (o : Obj) (pm cd doc : Value) (a : Addr) (vs : List Value) (ns : List Int),
      Ground q loose [] XP w s₀ mg mb s₁.heap → YP w s₁.heap →
      s₁.heap.get? fa = some o → o.data = .func (docDef d.name d.params d.body d.scope pm cd doc) → s₁.heap.CodeRec cd d.name → mg d.name = some (.ref fa) →
      s₁.heap.get? a = some { cls := .type "list", data := .seq vs.toArray } → IntsAre vs ns → ns.length ≤ n → s₁.gens = #[] →
      codeAny (model l.prog w) callerA (.call (.ref fa) ⟨[.ref a], []⟩) (fun r s' => r = .ok (.ret (.bool true)) ∧ OldK s₁.heap s'.heap ∧ s'.os = s₁.os ∧ AllBare s'.gens) s₁) :
    WalkO q loose XP YP l.row.toRowW d [] (fun f vs => PySem.call f vs) := by
  intro w s₀ s₁ mg mb G Y fa o pm cd doc dV kV ho hd hcd hD hmg hg args vals as hpre hlay hrd hwl hlo
  obtain rfl : dV = .none := Dflts.none hD hdf
  obtain rfl : kV = .none := Dflts.noKw hD
  obtain ⟨a, vs, ns, rfl, rfl, hobj, hints, hlen⟩ := script_of hn hpre hwl
  refine enter_call (codeAny_mono (call w s₀ s₁ mg mb fa o pm cd doc a vs ns G Y ho (fd_plain hd) hcd hmg hobj hints hlen hg) fun r s' hq => ?_)
  obtain ⟨rfl, h2, h3, h4⟩ := hq
  exact ⟨.inl ⟨.bool true, .bool true, [], rfl, fun _ => rfl, .bool true, post_true l _, fun _ => ⟨List.Pairwise.nil, fun _ hm => (nomatch hm)⟩⟩, h2, h3, h4⟩
section
variable {prog : Program} {w : World} {A : Around} {E : Value → Shared → Prop} {s : Shared} {K : Frag}
noncomputable def ledger (h : Heap) (L d : Addr) : List (Addr × Obj) := (List.range h.objs.size).filterMap fun a => if a = L ∨ a = d then none else (h.get? a).map fun o => (a, o)
end
end Att
namespace L2
open PySem PySem.Spec PyProof.Rows
theorem vals_ints : ∀ {vs : List Value} {ns : List Int}, IntsAre vs ns → Vals (ns.map V.int) vs
  | _, _, .nil => .nil
  | _, _, .cons n t h => .cons ⟨t, rfl⟩ (vals_ints h)
noncomputable def Only (H : Hp) : Prop := ∀ b, H b = none ∨ ∃ o xs, H b = some (.frz o (.lst xs))
theorem law_call {P : Program} {w : World} {K : PySem.W.Frag} {mg mb : Str → Option Value} {CX : CXT} {k : Nat} {fa a : Addr} {fd : FuncData} {x : Str} {sp : Sp} {s₁ : Shared} {vs : List Value} {ns : List Int}
    (KX : K.In s₁.heap) (hns : s₁.heap.Ns mainGlobals mg) (hb : s₁.heap.Ns builtinsNs mb) (hbb : ∀ x : Str, x ≠ "__name__" → mb x = bootBuiltins x) (hlim : s₁.heap.NoLimit) (hg : s₁.gens = #[])
    (ha : s₁.heap.get? a = some { cls := .type "list", data := .seq vs.toArray }) (hi : IntsAre vs ns) (hl : ns.length ≤ sizeLine) (hr : Room k callerA)
    (F : ∀ base : Heap, K.In base → base.Ns mainGlobals mg → FnOk P w K mg base CX k fa fd [x] sp) (hbind : ∀ (s : Shared) (u : Value), BindsTo s fd ⟨[u], []⟩ [(x, u)])
    (hsp : ∀ H : Hp, Only H → SqL K H a (ns.map V.int) → sp [.ref a] H (fun v _ => v = .bl true) fun _ _ _ => False)
    (hCX : ∀ H e s', CX [] H s₁ (fun _ _ _ => False) e s' → False) :
    codeAny (model P w) callerA (.call (.ref fa) ⟨[.ref a], []⟩) (fun r s' => r = .ok (.ret (.bool true)) ∧ OldK s₁.heap s'.heap ∧ s'.os = s₁.os ∧ AllBare s'.gens) s₁ := by
  have rv := vals_ints hi
  have lenV := hi.length
  have core : ∀ H : Hp, Only H → SqL K H a (ns.map V.int) → HOk P w H s₁.heap → (∀ b, H b ≠ none → b = a) → (H a ≠ none → K.lookup a = none) →
      codeAny (model P w) callerA (.call (.ref fa) ⟨[.ref a], []⟩) (fun r s' => r = .ok (.ret (.bool true)) ∧ OldK s₁.heap s'.heap ∧ s'.os = s₁.os ∧ AllBare s'.gens) s₁ := by
    intro H hO hS hok hA hK
    have base_of : ∀ {b : Addr} {o : Obj}, s₁.heap.get? b = some o → H b = none → (hidT s₁.heap H).get? b = some o := fun e n => hidT_get e n
    have noA : ∀ {b : Addr} {o : Obj} {es : Array DictEntry} {ep : Nat}, s₁.heap.get? b = some o → o.data = .dict es ep → H b = none := fun {b o es ep} e d => by
      cases q : H b with
      | none => rfl
      | some u =>
        have e' : b = a := hA b (by rw [q]; simp)
        subst e'
        rw [ha] at e; cases e
        have d' : Data.seq vs.toArray _ = Data.dict es ep := d
        cases d'
    have nsK : ∀ {b : Addr} {m : Str → Option Value}, s₁.heap.Ns b m → (hidT s₁.heap H).Ns b m := fun {b m} ⟨o, es, ep, e, d, r⟩ => ⟨o, es, ep, base_of e (noA e d), d, r⟩
    have hKb : K.In (hidT s₁.heap H) := fun b o e => base_of (KX b o e) (by
      cases q : H b with
      | none => rfl
      | some u =>
        have e' : b = a := hA b (by rw [q]; simp)
        subst e'
        rw [hK (by rw [q]; simp)] at e; cases e)
    have hM : Mod K mg (hidT s₁.heap H) := ⟨hKb, nsK hns, ⟨mb, nsK hb, hbb⟩, let ⟨mc, h1, h2⟩ := hlim; ⟨mc, nsK h1, h2⟩⟩
    have e0 : Env0 P w K mg (hidT s₁.heap H) callerA [] s₁ H := ⟨rfl, hM, fun b o e => of_hidT e, Nat.le_of_eq (hidT_size _ _), trivial, fun b hb => absurd (show b ∈ ([] : List Addr) from hb) (by simp), hok, .of_eq hg⟩
    refine codeAny_mono ((F _ hKb (nsK hns)).run callerA [] s₁ H ⟨[.ref a], []⟩ [.ref a] [.ref a] _ _ hr e0 (hbind s₁ (.ref a)) (.cons rfl .nil) (hsp H hO hS)) fun r s' h => ?_
    cases r with
    | error e => exact (hCX H e s' h).elim
    | ok fl =>
      cases fl with
      | next => exact False.elim h
      | brk => exact False.elim h
      | cont => exact False.elim h
      | ret u =>
        obtain ⟨v, H', os, bare, un, hok', r', q⟩ := h
        have q' : v = .bl true := q
        subst q'
        obtain rfl : u = Value.bool true := r'
        refine ⟨rfl, OldK.of_keep fun b o e => ?_, os, bare⟩
        cases q : H b with
        | none => exact un.keep b o e q (by intro z; exact absurd (show b ∈ ([] : List Addr) from z) (by simp)) (by simp)
        | some u =>
          rcases hO b with z | ⟨ob, xs, z⟩
          · rw [q] at z; cases z
          · have z2 := un.frzs b ob _ z
            obtain ⟨e1, _⟩ := hok b _ z
            obtain ⟨e2, _⟩ := hok' b _ z2
            rw [e] at e1; cases e1
            exact e2
  cases hk : K.lookup a with
  | some o =>
    have e := KX a o hk
    rw [ha] at e
    cases e
    refine core (fun _ => none) (fun _ => .inl rfl) (.inr ⟨_, vs.toArray, _, hk, rfl, rfl, rfl, by rw [List.size_toArray, lenV]; exact hl, by simpa using rv⟩) (fun b u z => by have z' : (none : Option HO) = some u := z; cases z') (fun b z => absurd rfl z) fun z => absurd rfl z
  | none =>
    refine core (fun b => if b = a then some (.frz { cls := .type "list", data := .seq vs.toArray } (.lst (ns.map V.int))) else none) (fun b => ?_) (.inl (.inr ⟨{ cls := .type "list", data := .seq vs.toArray }, if_pos rfl⟩)) (fun b u z => ?_) (fun b z => ?_) fun _ => hk
    · by_cases hb : b = a
      · exact .inr ⟨_, _, if_pos hb⟩
      · exact .inl (if_neg hb)
    · by_cases hb : b = a
      · have z' := (if_pos hb).symm.trans z
        cases z'
        subst hb
        exact ⟨ha, by rw [List.length_map]; exact hl, vs, _, rv, ha⟩
      · have z' := (if_neg hb).symm.trans z
        cases z'
    · by_cases hb : b = a
      · exact hb
      · exact absurd (if_neg hb) z
end L2
namespace L2
open PySem PySem.Spec PyProof.Rows
theorem walk_of {l : PySem.W.OpenLaw} {n k : Nat} {q : Program} {loose : List Str} {XP : (Str → Option Value) → Heap → Prop} {YP : World → Heap → Prop} {d : DefRec} {K : Params → PySem.W.Frag} {CX : World → CXT} {sp : World → Sp} {x : Str}
    (hn : l.most = some n) (hn2 : n ≤ sizeLine) (hdf : d.params.defaults = []) (hr : Room k callerA)
    (hY : ∀ (w : World) (h : Heap), YP w h → (K w.params).In h)
    (F : ∀ (w : World) (mg : Str → Option Value) (fa : Addr) (h : Heap), (K w.params).In h → h.Ns mainGlobals mg → mg d.name = some (.ref fa) →
      ∃ fd : FuncData, (∀ (s : Shared) (u : Value), BindsTo s fd ⟨[u], []⟩ [(x, u)]) ∧
        ∀ base : Heap, (K w.params).In base → base.Ns mainGlobals mg → FnOk l.prog w (K w.params) mg base (CX w) k fa fd [x] (sp w))
    (hsp : ∀ (w : World) (H : Hp) (a : Addr) (ns : List Int), ns.length ≤ n → Only H → SqL (K w.params) H a (ns.map V.int) → sp w [.ref a] H (fun v _ => v = .bl true) fun _ _ _ => False)
    (hCX : ∀ (w : World) (H : Hp) (s : Shared) (e : Value) (s' : Shared), CX w [] H s (fun _ _ _ => False) e s' → False) :
    PySem.W.WalkO q loose XP YP l.row.toRowW d [] (fun f vs => PySem.call f vs) := by
  refine Att.attach_call hn hdf fun w s₀ s₁ mg mb fa o pm cd doc a vs ns G Y ho hd hcd hmg hobj hints hlen hg => ?_
  have KX := hY w _ Y
  obtain ⟨fd, hb, hF⟩ := F w mg fa _ KX G.T.g hmg
  exact law_call KX G.T.g G.T.b G.T.builtins G.T.nolimit hg hobj hints (Nat.le_trans hlen hn2) hr hF hb (fun H hO hS => hsp w H a ns hlen hO hS) fun H e s' => hCX w H s₁ e s'
end L2
/- THE LAST THEOREM (shape; LID, My.* are yours):
   My.Adr: a structure of the addresses that your layer names (classes, functions); My.Txt K t: a structure (Prop) of the equations over K;
   My.txt_mk : {K} {implicit addresses ..} (e1 : nsIn K mainGlobals "law" = some (some (.ref f))) (e2 : K.lookup f = some ⟨oc, od, .func (fnOf "law" "law" params body scope dV kV doc pm an cdv ct), sl⟩) (e3 : codeIn K cdv "law" = true) .. : ∃ t, My.Txt K t
set_option maxRecDepth 100000 in
(the tactic k_is has no namespace: write k_is) -/
namespace L2
open PySem PySem.Spec PyProof.Rows
noncomputable def defArgs (s : Stmt) : Arguments := match s with
  | .FunctionDef _ a _ _ _ _ _ _ _ _ => a
  | _ => { posonlyargs := [], args := [], vararg := none, kwonlyargs := [], kw_defaults := [], kwarg := none, defaults := [] }
noncomputable def defBody (s : Stmt) : List Stmt := match s with
  | .FunctionDef _ _ b _ _ _ _ _ _ _ => b
  | _ => []
noncomputable def defScope (s : Stmt) : Scope := match s with
  | .FunctionDef _ _ _ _ _ _ sc _ _ _ => sc
  | _ => { kind := .function, names := [], isGenerator := false, isCoroutine := false }
abbrev CX0 : CXT := fun _ _ _ _ _ _ => False
abbrev E0 : XK := fun _ _ _ => False
theorem pass0 {X : Cx} : Passes CX0 X E0 := fun _ _ _ _ _ _ _ h => h.elim
structure Fun (K : PySem.W.Frag) (x qual : Str) (st : Stmt) (f : Addr) (fd : FuncData) : Prop where
  ex : ∃ (oc : Value) (od : Option Addr) (kV doc pm : Value) (an : Option Addr) (cdv ct : Value) (osl : Array (Option Value)),
    fd = PySem.W.fnOf x qual (defArgs st) (defBody st) (defScope st) .none kV doc pm an cdv ct ∧ K.lookup f = some ⟨oc, od, .func fd, osl⟩ ∧ PySem.W.codeIn K cdv qual = true
  kp : PySem.W.keepIn K (.ref f) = true
section
variable {P : Program} {w : World} {K : PySem.W.Frag} {mg : Str → Option Value} {base : Heap}
theorem Fun.ok {x qual : Str} {st : Stmt} {f : Addr} {fd : FuncData} {N ps : List Str} {k : Nat} {sp : Sp} (F : Fun K x qual st f fd) (S : FnScope N ps (defScope st)) (len : ∀ vs H Q E, sp vs H Q E → vs.length = ps.length)
    (hbody : ∀ (cdv : Value) (A : Around) (outer : List Env) (s : Shared) (H : Hp) (vs : List V) (Q : VK) (E : XK), Room k (A.deeper (envOfC qual (defScope st) s.heap.objs.size f cdv)) → sp vs H Q E →
      ∃ t, PSs (cxOf CX0 P w K mg base N qual (defScope st) f cdv A outer s H E).nox (defBody st) t ∧ t { nx := fun _ H' => Q .non H', rt := Q } (start N vs) H) : FnOk P w K mg base CX0 (k + 1) f fd ps sp := by
  obtain ⟨oc, od, kV, doc, pm, an, cdv, ct, osl, rfl, lk, hcd⟩ := F.ex
  refine fn_of lk hcd S len fun A outer s H vs Q E hr hsp => ?_
  obtain ⟨t, h, q⟩ := hbody cdv A outer s H vs Q E hr hsp
  exact ⟨t, h.nox, q⟩
theorem Fun.binds {x qual : Str} {st : Stmt} {f : Addr} {fd : FuncData} {ps : List Str} (F : Fun K x qual st f fd)
    (h : ∀ (kV doc pm : Value) (an : Option Addr) (cdv ct : Value) (us : List Value), us.length = ps.length → bindArgs (PySem.W.fnOf x qual (defArgs st) (defBody st) (defScope st) .none kV doc pm an cdv ct) ⟨us, []⟩ = pure (ps.zip us)) : Binds K fd ps [] := by
  obtain ⟨oc, od, kV, doc, pm, an, cdv, ct, osl, rfl, lk, hcd⟩ := F.ex
  exact .all (h kV doc pm an cdv ct)
theorem fun_mk {x qual : Str} {st : Stmt} {f : Addr} {oc : Value} {od an : Option Addr} {osl : Array (Option Value)} {kV doc pm cdv ct : Value} (l : K.lookup f = some ⟨oc, od, .func (PySem.W.fnOf x qual (defArgs st) (defBody st) (defScope st) .none kV doc pm an cdv ct), osl⟩)
    (c : PySem.W.codeIn K cdv qual = true) (k : PySem.W.keepIn K (.ref f) = true) : Fun K x qual st f (PySem.W.fnOf x qual (defArgs st) (defBody st) (defScope st) .none kV doc pm an cdv ct) := ⟨⟨oc, od, kV, doc, pm, an, cdv, ct, osl, rfl, l, c⟩, k⟩
end
theorem hu_of {A : Around} {k : Nat} (hr : Room k A) : A.units + 1 < cLine := Nat.lt_of_le_of_lt (Nat.add_le_add_left (by decide : 1 ≤ 64) _) hr.units
section
variable {X : Cx}
theorem pv (i : Nat) {x : Str} {pos : Pos} (hN : X.N[i]? = some x := by rfl) (hv : Vis X.env.scope x := by first | exact Or.inl rfl | exact Or.inr (Or.inl rfl) | exact Or.inr (Or.inr rfl)) (hd : (x == ("__debug__" : Str)) = false := by decide)
    (hcd : (x == ("__classdict__" : Str)) = false := by decide) : PE X (.Name x pos) (tVar i) := pe_var hN hv hd hcd
end
noncomputable def Same (H H' : Hp) : Prop := ∀ b o, H b = some o → H' b = some o
theorem Same.refl (H : Hp) : Same H H := fun _ _ h => h
theorem Same.trans {H H1 H2 : Hp} (a : Same H H1) (b : Same H1 H2) : Same H H2 := fun c o h => b c o (a c o h)
theorem Same.free {H H' : Hp} (e : Same H H') {l : Addr} (h : H' l = Option.none) : H l = Option.none := by
  cases q : H l with
  | none => rfl
  | some o =>
    rw [e l o q] at h
    cases h
theorem Same.seq {K : PySem.W.Frag} {H H' : Hp} {a : Addr} {xs : List V} (e : Same H H') (h : SqL K H a xs) : SqL K H' a xs := by
  rcases h with (h | ⟨o, h⟩) | h
  · exact .inl (.inl (e _ _ h))
  · exact .inl (.inr ⟨o, e _ _ h⟩)
  · exact .inr h
end L2
end
section
open PySem PySem.W PyProof.Rows
namespace L2
open PySem PySem.Spec PyProof.Rows
section
variable {κ : Type} [DecidableEq κ]
noncomputable def valV (kvs : List (κ × V)) (k : κ) : Option V := (kvs.find? fun kv => decide (kv.1 = k)).map (·.2)
noncomputable def putK (kvs : List (κ × V)) (k : κ) (v : V) : List (κ × V) :=
  if (kvs.any fun kv => decide (kv.1 = k)) = true then kvs.map (fun kv => if kv.1 = k then (kv.1, v) else kv) else kvs ++ [(k, v)]
theorem valV_pos {p : κ × V} {r : List (κ × V)} {k : κ} (e : p.1 = k) : valV (p :: r) k = some p.2 := by simp [valV, List.find?_cons, e]
theorem valV_neg {p : κ × V} {r : List (κ × V)} {k : κ} (e : ¬ p.1 = k) : valV (p :: r) k = valV r k := by simp [valV, List.find?_cons, e]
theorem valV_any (k : κ) : ∀ kvs : List (κ × V), (kvs.any fun kv => decide (kv.1 = k)) = (valV kvs k).isSome
  | [] => rfl
  | p :: r => by
    rw [List.any_cons]
    by_cases e : p.1 = k
    · simp only [valV_pos e, decide_eq_true e, Bool.true_or, Option.isSome_some]
    · rw [valV_neg e, decide_eq_false e, Bool.false_or]; exact valV_any k r
theorem length_putK (kvs : List (κ × V)) (k : κ) (v : V) : (putK kvs k v).length ≤ kvs.length + 1 := by
  unfold putK
  split
  · rw [List.length_map]; omega
  · rw [List.length_append, List.length_cons, List.length_nil]; omega
theorem RelO.isSome_eq {o : Option V} {u : Option Value} (r : RelO o u) : o.isSome = u.isSome := by
  cases o with
  | none => cases u with
    | none => rfl
    | some _ => exact (show False from r).elim
  | some _ => cases u with
    | none => exact (show False from r).elim
    | some _ => rfl
theorem RelO.getD {o : Option V} {u : Option Value} {d : V} {d' : Value} (r : RelO o u) (rd : RelV d d') : RelV (o.getD d) (u.getD d') := by
  cases o with
  | none => cases u with
    | none => exact rd
    | some _ => exact (show False from r).elim
  | some _ => cases u with
    | none => exact (show False from r).elim
    | some _ => exact r
theorem KV.val {kvs : List (κ × V)} {vs : List (κ × Value)} (r : KV kvs vs) (k : κ) : RelO (valV kvs k) (valueAt vs k) := by
  unfold KV at r
  induction r with
  | nil => exact True.intro
  | @cons p q ps qs h t ih =>
    obtain ⟨h1, h2⟩ := h
    by_cases e : p.1 = k
    · have e' : q.1 = k := h1.symm.trans e
      have b : valueAt (q :: qs) k = some q.2 := by simp [valueAt, List.find?_cons, e']
      rw [valV_pos e, b]; exact h2
    · have e' : ¬ q.1 = k := fun z => e (h1.trans z)
      have b : valueAt (q :: qs) k = valueAt qs k := by simp [valueAt, List.find?_cons, e']
      rw [valV_neg e, b]; exact ih
theorem KV.any {kvs : List (κ × V)} {vs : List (κ × Value)} (r : KV kvs vs) (k : κ) : (kvs.any fun kv => decide (kv.1 = k)) = vs.any fun kv => decide (kv.1 = k) := by
  unfold KV at r
  induction r with
  | nil => rfl
  | cons h t ih => rw [List.any_cons, List.any_cons, ih, h.1]
theorem KV.repl {kvs : List (κ × V)} {vs : List (κ × Value)} (r : KV kvs vs) (k : κ) {y : V} {u : Value} (ry : RelV y u) :
    KV (kvs.map fun kv => if kv.1 = k then (kv.1, y) else kv) (vs.map fun kv => if kv.1 = k then (kv.1, u) else kv) := by
  unfold KV at r ⊢
  induction r with
  | nil => exact .nil
  | @cons p q ps qs h t ih =>
    rw [List.map_cons, List.map_cons]
    refine .cons ?_ ih
    obtain ⟨h1, h2⟩ := h
    by_cases e : p.1 = k
    · rw [if_pos e, if_pos (h1.symm.trans e)]; exact ⟨h1, ry⟩
    · rw [if_neg e, if_neg (fun z => e (h1.trans z))]; exact ⟨h1, h2⟩
theorem KV.put {kvs : List (κ × V)} {vs : List (κ × Value)} (r : KV kvs vs) (k : κ) {y : V} {u : Value} (ry : RelV y u) : KV (putK kvs k y) (stored vs k u) := by
  unfold putK stored
  rw [r.any k]
  by_cases e : (vs.any fun kv => decide (kv.1 = k)) = true
  · rw [if_pos e, if_pos e]; exact r.repl k ry
  · rw [if_neg e, if_neg e]; exact Paired.snoc r ⟨rfl, ry⟩
theorem KV.keys {kvs : List (κ × V)} {vs : List (κ × Value)} (r : KV kvs vs) : kvs.map (·.1) = vs.map (·.1) := by
  unfold KV at r
  induction r with
  | nil => rfl
  | cons h t ih => rw [List.map_cons, List.map_cons, ih, h.1]
theorem KV.length {kvs : List (κ × V)} {vs : List (κ × Value)} (r : KV kvs vs) : kvs.length = vs.length := Paired.length r
end
theorem kV_is {P : Program} {w : World} {k : Key} {u : Value} (r : RelV (kV k) u) : (mixKind P w).is k u = true := by
  cases k with
  | inl i => obtain ⟨t, e⟩ := (show ∃ t, u = Value.int i t from r); subst e; exact mixKind_int P w i t
  | inr x => obtain ⟨t, e⟩ := (show ∃ t, u = Value.str x t from r); subst e; exact mixKind_str P w x t
theorem items_are {P : Program} {w : World} : ∀ {ks : List Key} {us : List Value}, Vals (ks.map kV) us → ItemsAre (mixKind P w) ks us
  | [], _, r => by rw [List.map_nil] at r; cases r; exact .nil
  | k :: ks, _, r => by
    rw [List.map_cons] at r
    cases r with
    | cons h t => exact .cons (kV_is h) (items_are t)
abbrev KT (H : Hp) : List (List Key × V) → List (List Key × Addr × Value) → Prop := Paired fun p q => p.1 = q.1 ∧ H q.2.1 = some (.tup (p.1.map kV)) ∧ RelV p.2 q.2.2
theorem KT.val {H : Hp} {kvs : List (List Key × V)} {xs : List (List Key × Addr × Value)} (r : KT H kvs xs) (k : List Key) : RelO (valV kvs k) ((atKey xs k).map (·.2)) := by
  induction r with
  | nil => exact True.intro
  | @cons p q ps qs h t ih =>
    obtain ⟨h1, _, h2⟩ := h
    by_cases e : p.1 = k
    · have e' : q.1 = k := h1.symm.trans e
      have b : atKey (q :: qs) k = some q.2 := by simp [atKey, List.find?_cons, e']
      rw [valV_pos e, b]; exact h2
    · have e' : ¬ q.1 = k := fun z => e (h1.trans z)
      have b : atKey (q :: qs) k = atKey qs k := by simp [atKey, List.find?_cons, e']
      rw [valV_neg e, b]; exact ih
theorem KT.repl {H : Hp} {kvs : List (List Key × V)} {xs : List (List Key × Addr × Value)} (r : KT H kvs xs) (k : List Key) {y : V} {u : Value} (ry : RelV y u) :
    KT H (kvs.map fun kv => if kv.1 = k then (kv.1, y) else kv) (xs.map (putAt k u)) := by
  induction r with
  | nil => exact .nil
  | @cons p q ps qs h t ih =>
    rw [List.map_cons, List.map_cons]
    refine .cons ?_ ih
    obtain ⟨h1, h2, h3⟩ := h
    unfold putAt
    by_cases e : p.1 = k
    · rw [if_pos e, if_pos (h1.symm.trans e)]; exact ⟨h1, h2, ry⟩
    · rw [if_neg e, if_neg (fun z => e (h1.trans z))]; exact ⟨h1, h2, h3⟩
theorem KT.put {H : Hp} {kvs : List (List Key × V)} {xs : List (List Key × Addr × Value)} (r : KT H kvs xs) (k : List Key) {b : Addr} {y : V} {u : Value} (hb : H b = some (.tup (k.map kV))) (ry : RelV y u) :
    KT H (putK kvs k y) (storedH xs k b u) := by
  have e : (kvs.any fun kv => decide (kv.1 = k)) = (atKey xs k).isSome := by
    rw [valV_any, (r.val k).isSome_eq, Option.isSome_map]
  unfold putK storedH
  rw [e]
  by_cases q : (atKey xs k).isSome = true
  · rw [if_pos q, if_pos q]; exact r.repl k ry
  · rw [if_neg q, if_neg q]; exact Paired.snoc r ⟨rfl, hb, ry⟩
theorem KT.keeps {H H' : Hp} {kvs : List (List Key × V)} {xs : List (List Key × Addr × Value)} (r : KT H kvs xs) (ht : ∀ b ys, H b = some (.tup ys) → H' b = some (.tup ys)) : KT H' kvs xs :=
  Paired.mapP r fun _ _ z => ⟨z.1, ht _ _ z.2.1, z.2.2⟩
section
variable {P : Program} {w : World} {H : Hp} {h : Heap} {a : Addr}
theorem rd_of {u : HO} (ok : HOk P w H h) (e : Rd H a u) : ObjOk P w H h a u := e.ok ok
theorem dk_rd {kvs : List (Key × V)} (ok : HOk P w H h) (e : Rd H a (.dK kvs)) : kvs.length ≤ sizeLine ∧ (a == sysModules) = false ∧ ∃ vs, KV kvs vs ∧ h.DictOf (mixKind P w) a vs :=
  show ObjOk P w H h a (.dK kvs) from rd_of ok e
theorem dk_of {kvs : List (Key × V)} (ok : HOk P w H h) (e : H a = some (.dK kvs)) : kvs.length ≤ sizeLine ∧ (a == sysModules) = false ∧ ∃ vs, KV kvs vs ∧ h.DictOf (mixKind P w) a vs := dk_rd ok (.inl e)
theorem key_of {ks : List Key} (ok : HOk P w H h) (e : H a = some (.tup (ks.map kV))) : (tupleKind (mixKind P w)).is h ks a := by
  obtain ⟨_, its, r, o, h1, h2, n, h3, _⟩ := (show ObjOk P w H h a (.tup (ks.map kV)) from ok a _ e)
  exact ⟨o, its.toArray, n, h1, h2, h3, by simpa using items_are r⟩
theorem dt_rd {kvs : List (List Key × V)} (ok : HOk P w H h) (e : Rd H a (.dT kvs)) : kvs.length ≤ sizeLine ∧ (a == sysModules) = false ∧
    ∃ xs, KT H kvs xs ∧ h.DictOfH (tupleKind (mixKind P w)) a xs := by
  obtain ⟨z, y, xs, r, o, es, ep, h1, h2, h3, h4, h5⟩ := (show ObjOk P w H h a (.dT kvs) from rd_of ok e)
  refine ⟨z, y, xs, r, o, es, ep, h1, h2, h3, h4, fun x hx => ?_, h5⟩
  have all : ∀ {l : List (List Key × V)} {m : List (List Key × Addr × Value)}, KT H l m → ∀ x ∈ m, (tupleKind (mixKind P w)).is h x.1 x.2.1 := by
    intro l m q
    induction q with
    | nil => intro x hx; exact nomatch hx
    | @cons p q ps qs hq t ih =>
      intro x hx
      rcases List.mem_cons.mp hx with e | hx
      · subst e
        exact key_of ok (by rw [← hq.1]; exact hq.2.1)
      · exact ih x hx
  exact all r x hx
theorem dt_of {kvs : List (List Key × V)} (ok : HOk P w H h) (e : H a = some (.dT kvs)) : kvs.length ≤ sizeLine ∧ (a == sysModules) = false ∧
    ∃ xs, KT H kvs xs ∧ h.DictOfH (tupleKind (mixKind P w)) a xs := dt_rd ok (.inl e)
end
noncomputable def DGet (H : Hp) (a : Addr) (y : V) (r : Option V) : Prop :=
  (∃ kvs k, Rd H a (.dK kvs) ∧ y = kV k ∧ r = valV kvs k) ∨ ∃ kvs k b, Rd H a (.dT kvs) ∧ y = .ref b ∧ H b = some (.tup (k.map kV)) ∧ r = valV kvs k
noncomputable def DPut (H : Hp) (a : Addr) (y v : V) (H' : Hp) : Prop :=
  (∃ kvs k, H a = some (.dK kvs) ∧ y = kV k ∧ kvs.length < sizeLine ∧ H' = upd H a (.dK (putK kvs k v))) ∨
  ∃ kvs k b, H a = some (.dT kvs) ∧ y = .ref b ∧ H b = some (.tup (k.map kV)) ∧ kvs.length < sizeLine ∧ H' = upd H a (.dT (putK kvs k v))
theorem DGet.k {H : Hp} {a : Addr} {kvs : List (Key × V)} {k : Key} (e : H a = some (.dK kvs)) : DGet H a (kV k) (valV kvs k) := .inl ⟨kvs, k, .inl e, rfl, rfl⟩
theorem DGet.t {H : Hp} {a b : Addr} {kvs : List (List Key × V)} {k : List Key} (e : H a = some (.dT kvs)) (eb : H b = some (.tup (k.map kV))) : DGet H a (.ref b) (valV kvs k) := .inr ⟨kvs, k, b, .inl e, rfl, eb, rfl⟩
theorem DPut.k {H : Hp} {a : Addr} {kvs : List (Key × V)} {k : Key} {v : V} (e : H a = some (.dK kvs)) (hl : kvs.length < sizeLine) : DPut H a (kV k) v (upd H a (.dK (putK kvs k v))) := .inl ⟨kvs, k, e, rfl, hl, rfl⟩
theorem DPut.t {H : Hp} {a b : Addr} {kvs : List (List Key × V)} {k : List Key} {v : V} (e : H a = some (.dT kvs)) (eb : H b = some (.tup (k.map kV))) (hl : kvs.length < sizeLine) :
    DPut H a (.ref b) v (upd H a (.dT (putK kvs k v))) := .inr ⟨kvs, k, b, e, rfl, eb, hl, rfl⟩
section
variable {X : Cx} {pins : List (Addr × Obj)} {σ : St} {H : Hp} {s : Shared} {a : Addr} {y v : V} {u r : Value} {o : Option V} {A : Around} {E : Value → Shared → Prop}
theorem Inv.big (I : Inv X pins σ H s) : sysModules < s.heap.objs.size := by
  have h : mainGlobals < s.heap.objs.size := (I.mod.glob.keeps I.bk).lt
  exact Nat.lt_trans (by decide) h
theorem d_getItem {Q : Value → Shared → Prop} (hu : A.units + 1 < cLine) (I : Inv X pins σ H s) (g : DGet H a y (some v)) (ry : RelV y u) (h : ∀ w' s', Inv X pins σ H s' → RelV v w' → Q w' s') :
    wpAny (model X.prog X.w) A (getItem (.ref a) u) Q E s := by
  rcases g with ⟨kvs, k, e, ey, l⟩ | ⟨kvs, k, b, e, ey, eb, l⟩
  · subst ey
    obtain ⟨z, hd, vs, rel, dd⟩ := dk_rd I.hok e
    obtain ⟨w', hw, rw'⟩ := RelO.some_of (v := v) (o := valueAt vs k) (by rw [l]; exact rel.val k)
    exact wpAny_getItem_of (kV_is ry) dd.mapOf hw (h w' _ (I.tok _) rw')
  · subst ey
    cases (show u = Value.ref b from ry)
    obtain ⟨z, hd, xs, rel, dd⟩ := dt_rd I.hok e
    obtain ⟨w', hw, rw'⟩ := RelO.some_of (v := v) (o := (atKey xs k).map (·.2)) (by rw [l]; exact rel.val k)
    obtain ⟨p, hp, hp2⟩ := Option.map_eq_some_iff.mp hw
    refine wpAny_getItem_heap (tupleKind_room_in1 hu) (key_of I.hok eb) dd hp ?_
    rw [hp2]
    exact h w' _ (I.tok _) rw'
theorem d_in {Q : Value → Shared → Prop} (hu : A.units + 1 < cLine) (I : Inv X pins σ H s) (g : DGet H a y o) (ry : RelV y u) (h : ∀ s', Inv X pins σ H s' → Q (.bool o.isSome) s') :
    wpAny (model X.prog X.w) A (compareOp .In u (.ref a)) Q E s := by
  rcases g with ⟨kvs, k, e, ey, l⟩ | ⟨kvs, k, b, e, ey, eb, l⟩
  · subst ey
    obtain ⟨z, hd, vs, rel, dd⟩ := dk_rd I.hok e
    refine wpAny_in_of (kV_is ry) hd dd.mapOf ?_
    rw [← (rel.val k).isSome_eq, ← l]
    exact h _ (I.tok _)
  · subst ey
    cases (show u = Value.ref b from ry)
    obtain ⟨z, hd, xs, rel, dd⟩ := dt_rd I.hok e
    refine wpAny_in_heap (tupleKind_room_in1 hu) (key_of I.hok eb) hd dd ?_
    have q := (rel.val k).isSome_eq
    rw [Option.isSome_map] at q
    rw [← q, ← l]
    exact h _ (I.tok _)
theorem d_notIn {Q : Value → Shared → Prop} (hu : A.units + 1 < cLine) (I : Inv X pins σ H s) (g : DGet H a y o) (ry : RelV y u) (h : ∀ s', Inv X pins σ H s' → Q (.bool (!o.isSome)) s') :
    wpAny (model X.prog X.w) A (compareOp .NotIn u (.ref a)) Q E s := by
  rcases g with ⟨kvs, k, e, ey, l⟩ | ⟨kvs, k, b, e, ey, eb, l⟩
  · subst ey
    obtain ⟨z, hd, vs, rel, dd⟩ := dk_rd I.hok e
    refine wpAny_notIn_of (kV_is ry) hd dd.mapOf ?_
    rw [← (rel.val k).isSome_eq, ← l]
    exact h _ (I.tok _)
  · subst ey
    cases (show u = Value.ref b from ry)
    obtain ⟨z, hd, xs, rel, dd⟩ := dt_rd I.hok e
    refine wpAny_notIn_heap (tupleKind_room_in1 hu) (key_of I.hok eb) hd dd ?_
    have q := (rel.val k).isSome_eq
    rw [Option.isSome_map] at q
    rw [← q, ← l]
    exact h _ (I.tok _)
theorem d_write {h' : Heap} {t' : Nat} {ob : HO} (I : Inv X pins σ H s) (mu : Mut (H a)) (hs : Heap.SameBut a s.heap h') (he : ∃ q, h'.get? a = some q) (new : ObjOk X.prog X.w (upd H a ob) h' a ob) :
    Inv X pins σ (upd H a ob) { s with heap := h', toks := t' } :=
  I.write (x := a) (e := a) mu (.inl rfl) (fun b q hb z => (hs.2 b hb).trans z) he new
theorem dk_new {P : Program} {w : World} {H' : Hp} {h' : Heap} {kvs : List (Key × V)} {vs : List (Key × Value)} (z : kvs.length ≤ sizeLine) (hd : (a == sysModules) = false) (rel : KV kvs vs) (dd : h'.DictOf (mixKind P w) a vs) :
    ObjOk P w H' h' a (.dK kvs) := ⟨z, hd, vs, rel, dd⟩
theorem d_setItem {H' : Hp} {Q : Unit → Shared → Prop} (hu : A.units + 1 < cLine) (I : Inv X pins σ H s) (g : DPut H a y v H') (ry : RelV y u) (rv : RelV v r) (h : ∀ s', Inv X pins σ H' s' → Q () s') :
    wpAny (model X.prog X.w) A (setItem (.ref a) u r) Q E s := by
  rcases g with ⟨kvs, k, e, ey, l, eH⟩ | ⟨kvs, k, b, e, ey, eb, l, eH⟩
  · subst ey eH
    obtain ⟨z, hd, vs, rel, dd⟩ := dk_of I.hok e
    have hz : vs.length ≤ sizeLine := by rw [← rel.length]; exact z
    have hl : (putK kvs k v).length ≤ sizeLine := by have := length_putK kvs k v; omega
    refine wpAny_setItem_pairs (hsz := hz) (kV_is ry) dd fun h' dd' hs => h _ ?_
    have he : ∃ q, h'.get? a = some q := let ⟨q, _, _, hq, _⟩ := dd'; ⟨q, hq⟩
    exact d_write I (by rw [e]; exact True.intro) hs he (dk_new hl hd (rel.put k rv) dd')
  · subst ey eH
    cases (show u = Value.ref b from ry)
    obtain ⟨z, hd, xs, rel, dd⟩ := dt_of I.hok e
    have hz : xs.length ≤ sizeLine := by rw [← Paired.length rel]; exact z
    have hl : (putK kvs k v).length ≤ sizeLine := by have := length_putK kvs k v; omega
    refine wpAny_setItem_heap (hsz := hz) (tupleKind_room_in1 hu) (key_of I.hok eb) dd fun h' dd' hs => h _ ?_
    obtain ⟨q, es, ep, hq, h2, h3, h4, _, h5⟩ := dd'
    refine d_write I (by rw [e]; exact True.intro) hs ⟨q, hq⟩ ⟨hl, hd, _, (rel.put k eb rv).keeps fun c ys ec => ?_, q, es, ep, hq, h2, h3, h4, h5⟩
    rw [upd_ne (ne_of ec e (fun z => nomatch z))]
    exact ec
end
section
variable {X : Cx} {pins : List (Addr × Obj)} {σ : St} {H : Hp} {s : Shared} {a : Addr} {kvs : List (Key × V)} {k : Key} {u : Value} {A : Around} {E : Value → Shared → Prop}
theorem d_len {Q : Value → Shared → Prop} (I : Inv X pins σ H s) (e : Rd H a (.dK kvs)) (h : ∀ t s', Inv X pins σ H s' → Q (.int kvs.length t) s') : wpAny (model X.prog X.w) A (call (.builtin "len") [.ref a]) Q E s := by
  obtain ⟨z, hd, vs, rel, dd⟩ := dk_rd I.hok e
  refine call_len_dict hd dd (by rw [← rel.length]; rw [sizeLine_eq] at z; omega) ?_
  rw [← rel.length]
  exact h _ _ (I.tok _)
end
theorem dict_typeIs {X : Cx} {pins : List (Addr × Obj)} {σ : St} {H : Hp} {s : Shared} {a : Addr} {y : V} {o : Option V} (I : Inv X pins σ H s) (g : DGet H a y o) : s.TypeIs (.ref a) "dict" := by
  rcases g with ⟨kvs, k, e, _, _⟩ | ⟨kvs, k, b, e, _, _, _⟩
  · obtain ⟨_, _, vs, _, dd⟩ := dk_rd I.hok e
    exact dd.typeIs
  · obtain ⟨_, _, xs, _, dd⟩ := dt_rd I.hok e
    exact dd.typeIs
noncomputable def tDGet (td ty : TE) : TE := fun σ H Q => td σ H fun x H1 => ty σ H1 fun y H2 => ∃ a v, x = .ref a ∧ DGet H2 a y (some v) ∧ Q v H2
noncomputable def sDPut (td ty tv : TE) : TS := fun D σ H => tv σ H fun v H1 => td σ H1 fun x H2 => ty σ H2 fun y H3 => ∃ a H4, x = .ref a ∧ DPut H3 a y v H4 ∧ D.nx σ H4
section
variable {X : Cx} {o i e value : Expr} {pos pos' tpos : Pos} {td ty tv : TE}
end
theorem dk_empty {P : Program} {w : World} {H : Hp} (h : Heap) (hb : sysModules < h.objs.size) : ObjOk P w H (h.push { cls := .type "dict", data := .dict #[] }) h.objs.size (.dK []) :=
  ⟨Nat.zero_le _, beq_eq_false_iff_ne.mpr (Ne.symm (Nat.ne_of_lt hb)), [], .nil, Heap.DictOf.new h⟩
noncomputable def tDNewK : TE := fun _ H Q => ∀ p, H p = none → Q (.ref p) (upd H p (.dK []))
section
variable {X : Cx} {pos : Pos}
theorem pe_dnewK : PE X (.Dict [] [] pos) tDNewK := fun pins s σ H Q I h =>
  wpAny_Dict_empty ⟨.ref s.heap.objs.size, _, I.laid (a := s.heap.objs.size) (o := .dK []) (t' := s.toks) (fun _ _ q => Heap.get?_push_of_some _ q) (Nat.le_refl _) (dk_empty s.heap I.big), rfl, h _ (I.hok.fresh (Nat.le_refl _))⟩
end
noncomputable def tPairs : List (TE × TE) → St → Hp → (List (V × V) → Hp → Prop) → Prop
  | [], _, H, Q => Q [] H
  | (tk, tv) :: r, σ, H, Q => tk σ H fun x H1 => tv σ H1 fun y H2 => tPairs r σ H2 fun ps H3 => Q ((x, y) :: ps) H3
abbrev VV : List (V × V) → List (Value × Value) → Prop := Paired fun p q => RelV p.1 q.1 ∧ RelV p.2 q.2
noncomputable def PPs (X : Cx) (pos : Pos) (keys : List (Option Expr)) (values : List Expr) (trs : List (TE × TE)) : Prop :=
  ∀ (pins : List (Addr × Obj)) (s : Shared) (σ : St) (H : Hp) (Q : List (V × V) → Hp → Prop), Inv X pins σ H s → tPairs trs σ H Q →
    wpAny (model X.prog X.w) X.A (evalPairs (pairTrees keys values X.env pos)) (fun vs s' => ∃ ps H', Inv X pins σ H' s' ∧ VV ps vs ∧ Q ps H') X.xe s
theorem pps_nil {X : Cx} {pos : Pos} : PPs X pos [] [] [] := fun pins s σ H Q I h => pairTrees_nil_walk ⟨[], H, I, .nil, h⟩
theorem pps_cons {X : Cx} {pos : Pos} {k v : Expr} {ks : List (Option Expr)} {vs : List Expr} {tk tv : TE} {trs : List (TE × TE)} (hk : PE X k tk) (hv : PE X v tv) (hr : PPs X pos ks vs trs) :
    PPs X pos (some k :: ks) (v :: vs) ((tk, tv) :: trs) := fun pins s σ H Q I h =>
  pairTrees_cons_walk (thn (hk pins s σ H _ I h) fun u s1 ⟨x, H1, I1, rx, q1⟩ => thn (hv pins s1 σ H1 _ I1 q1) fun w2 s2 ⟨y, H2, I2, ry, q2⟩ =>
    thn (hr pins s2 σ H2 _ I2 q2) fun ws s3 ⟨ps, H3, I3, rel, q3⟩ => ⟨(x, y) :: ps, H3, I3, .cons ⟨rx, ry⟩ rel, q3⟩)
noncomputable def mergeK (kvs more : List (Key × V)) : List (Key × V) := more.foldl (fun acc kv => putK acc kv.1 kv.2) kvs
theorem KV.merge : ∀ {more : List (Key × V)} {rs : List (Key × Value)} {kvs : List (Key × V)} {vs : List (Key × Value)}, KV more rs → KV kvs vs → KV (mergeK kvs more) (merged vs rs) := by
  intro more rs kvs vs r
  unfold KV at r
  induction r generalizing kvs vs with
  | nil => intro q; exact q
  | @cons p q ps qs h t ih =>
    intro r0
    have e : KV (putK kvs p.1 p.2) (stored vs q.1 q.2) := by
      have := r0.put p.1 h.2
      rw [← h.1]; exact this
    exact ih e
theorem length_mergeK : ∀ (more kvs : List (Key × V)), (mergeK kvs more).length ≤ kvs.length + more.length
  | [], kvs => by show kvs.length ≤ kvs.length + 0; omega
  | p :: r, kvs => by
    have h1 := length_mergeK r (putK kvs p.1 p.2)
    have h2 := length_putK kvs p.1 p.2
    show (mergeK (putK kvs p.1 p.2) r).length ≤ _
    rw [List.length_cons]; omega
theorem carries_of {P : Program} {w : World} : ∀ {kvs : List (Key × V)} {ws : List (Value × Value)}, VV (kvs.map fun kv => (kV kv.1, kv.2)) ws → ∃ rs, Carries (mixKind P w) ws rs ∧ KV kvs rs
  | [], _, r => by rw [List.map_nil] at r; cases r; exact ⟨[], True.intro, .nil⟩
  | p :: kvs, _, r => by
    rw [List.map_cons] at r
    cases r with
    | @cons a b as bs h t =>
      obtain ⟨rs, c, q⟩ := carries_of (P := P) (w := w) t
      obtain ⟨b1, b2⟩ := b
      exact ⟨(p.1, b2) :: rs, ⟨kV_is h.1, rfl, c⟩, .cons ⟨rfl, h.2⟩ q⟩
noncomputable def tDisp (trs : List (TE × TE)) : TE := fun σ H Q => ∀ p, H p = none → tPairs trs σ (upd H p (.dK [])) fun ps H2 => H2 p = some (.dK []) ∧ ∃ kvs : List (Key × V), ps = kvs.map (fun kv => (kV kv.1, kv.2)) ∧ kvs.length ≤ 15 ∧ Q (.ref p) (upd H2 p (.dK (mergeK [] kvs)))
theorem pe_disp {X : Cx} {pos : Pos} {keys : List (Option Expr)} {values : List Expr} {trs : List (TE × TE)} (h : PPs X pos keys values trs) (hall : keys.all (·.isSome) = true) (hl : keys.length = values.length) (h0 : keys ≠ [])
    (h15 : keys.length ≤ 15) : PE X (.Dict keys values pos) (tDisp trs) := by
  intro pins s σ H Q I q
  have hn := I.hok.fresh (Nat.le_refl s.heap.objs.size)
  have I1 := I.laid (a := s.heap.objs.size) (o := .dK []) (h' := s.heap.push { cls := .type "dict", data := .dict #[] }) (t' := s.toks) (fun _ _ q => Heap.get?_push_of_some _ q) (Nat.le_refl _) (dk_empty s.heap I.big)
  refine wpAny_Dict_walk (knd := mixKind X.prog X.w) hall hl h0 h15 (thn (h pins _ σ _ _ I1 (q _ hn)) fun ws s2 ⟨ps, H2, I2, rel, e, kvs, ep, lk, q2⟩ => ?_)
  subst ep
  obtain ⟨rs, c, rk⟩ := carries_of (P := X.prog) (w := X.w) rel
  obtain ⟨z, hd, vs0, r0, dd⟩ := dk_of I2.hok e
  cases r0
  refine ⟨rs, c, dd, fun h' dd' hs => ⟨.ref s.heap.objs.size, _, ?_, rfl, q2⟩⟩
  have hz : (mergeK [] kvs).length ≤ sizeLine := by
    have h1 := length_mergeK kvs []
    rw [List.length_nil] at h1
    rw [sizeLine_eq]; omega
  have he : ∃ q, h'.get? s.heap.objs.size = some q := let ⟨q, _, _, hq, _⟩ := dd'; ⟨q, hq⟩
  exact d_write I2 (by rw [e]; exact True.intro) hs he (dk_new hz hd (rk.merge .nil) dd')
structure M1 (X : Cx) (o : Expr) (m : Str) (apos : Pos) (e : Expr) (cpos : Pos) : Prop where
  base : attributeBase o m X.env (eval o X.env) = eval o X.env
  few : ((backTo cpos (starEach [e] X.env)).all (fun x => !x.1) && (backToKw cpos (keywordEach [] X.env)).all (fun x => x.1.isSome)
    && decide (([e] : List Expr).length + ([] : List Keyword).length + (if ([] : List Keyword).isEmpty then 0 else 1) < 30)) = true
  line : (apos.endLine == cpos.line) = true
  trees : backTo cpos (starEach [e] X.env) = [(false, eval e X.env)]
structure M2 (X : Cx) (o : Expr) (m : Str) (apos : Pos) (e f : Expr) (cpos : Pos) : Prop where
  base : attributeBase o m X.env (eval o X.env) = eval o X.env
  few : ((backTo cpos (starEach [e, f] X.env)).all (fun x => !x.1) && (backToKw cpos (keywordEach [] X.env)).all (fun x => x.1.isSome)
    && decide (([e, f] : List Expr).length + ([] : List Keyword).length + (if ([] : List Keyword).isEmpty then 0 else 1) < 30)) = true
  line : (apos.endLine == cpos.line) = true
  trees : backTo cpos (starEach [e, f] X.env) = [(false, eval e X.env), (false, eval f X.env)]
noncomputable def IsD (H : Hp) (a : Addr) : Prop := (∃ kvs, Rd H a (.dK kvs)) ∨ ∃ kvs, Rd H a (.dT kvs)
theorem isD_at {X : Cx} {pins : List (Addr × Obj)} {σ : St} {H : Hp} {s : Shared} {a : Addr} (I : Inv X pins σ H s) (d : IsD H a) :
    s.TypeIs (.ref a) "dict" ∧ (∀ b, Value.ref a = .ref b → ∃ ob, s.heap.get? b = some ob ∧ ob.dict = none) ∧ (a == sysModules) = false := by
  rcases d with ⟨kvs, e⟩ | ⟨kvs, e⟩
  · obtain ⟨_, hd, vs, _, dd⟩ := dk_rd I.hok e
    refine ⟨dd.typeIs, fun b q => ?_, hd⟩
    cases q
    obtain ⟨ob, _, _, h1, h2, _⟩ := dd
    exact ⟨ob, h1, h2.2.1⟩
  · obtain ⟨_, hd, xs, _, dd⟩ := dt_rd I.hok e
    refine ⟨dd.typeIs, fun b q => ?_, hd⟩
    cases q
    obtain ⟨ob, _, _, h1, h2, _⟩ := dd
    exact ⟨ob, h1, h2.2.1⟩
section
variable {X : Cx} {pins : List (Addr × Obj)} {σ : St} {H : Hp} {s : Shared} {a : Addr} {y d : V} {u r : Value} {o : Option V} {A : Around} {E : Value → Shared → Prop}
theorem d_get2 {Q : Value → Shared → Prop} (hu : A.units + 1 < cLine) (I : Inv X pins σ H s) (g : DGet H a y o) (ry : RelV y u) (rd : RelV d r) (h : ∀ w' s', Inv X pins σ H s' → RelV (o.getD d) w' → Q w' s') :
    wpAny (model X.prog X.w) A (call (.builtin "dict.get") [.ref a, u, r]) Q E s := by
  rcases g with ⟨kvs, k, e, ey, l⟩ | ⟨kvs, k, b, e, ey, eb, l⟩
  · subst ey
    obtain ⟨z, hd, vs, rel, dd⟩ := dk_rd I.hok e
    refine call_meetsIn PySem.F.slot_dict_get dd.typeIs PySem.F.entry_dict_get (PySem.F.args_dict_get_3 _ _ _) (meets_dict_get_default (mixKind X.prog X.w) a (kV_is ry) hd r) ⟨_, dd.mapOf, h _ _ (I.tok _) ?_⟩
    rw [l]
    exact (rel.val k).getD rd
  · subst ey
    cases (show u = Value.ref b from ry)
    obtain ⟨z, hd, xs, rel, dd⟩ := dt_rd I.hok e
    refine call_meetsIn PySem.F.slot_dict_get dd.typeIs PySem.F.entry_dict_get (PySem.F.args_dict_get_3 _ _ _) (meetsH_dict_get_default (tupleKind (mixKind X.prog X.w)) a b hd r) ⟨tupleKind_room_in1 hu, k, xs, key_of I.hok eb, dd, h _ _ (I.tok _) ?_⟩
    rw [l]
    exact (rel.val k).getD rd
end
noncomputable def tDGet2 (td ty tx : TE) : TE := fun σ H Q => td σ H fun x H1 => ∃ a, x = .ref a ∧ IsD H1 a ∧ ty σ H1 fun y H2 => tx σ H2 fun z H3 => ∃ o, DGet H3 a y o ∧ Q (o.getD z) H3
section
variable {X : Cx} {o e f : Expr} {apos cpos : Pos} {td ty tx : TE}
theorem pe_dget2 (hu : X.A.units + 1 < cLine) (ho : PE X o td) (he : PE X e ty) (hf : PE X f tx) (m : M2 X o "get" apos e f cpos) : PE X (.Call (.Attribute o "get" apos) [e, f] [] cpos) (tDGet2 td ty tx) := by
  intro pins s σ H Q I h
  refine wpAny_Call_method m.base m.few m.line PySem.F.plainAttrs_dict PySem.F.slot_dict_get PySem.F.type_dict_get (thn (ho pins s σ H _ I h) fun u s1 ⟨x, H1, I1, rx, a, ex, d, q1⟩ => ?_)
  subst ex
  obtain rfl : u = Value.ref a := rx
  obtain ⟨t1, t2, _⟩ := isD_at I1 d
  refine ⟨t1, t2, ?_⟩
  rw [m.trees]
  refine Calls.callWith_builtin rfl (Calls.evalArgs_plain (Calls.spliced_cons (thn (he pins s1 σ H1 _ I1 q1) fun iv s2 ⟨y, H2, I2, ry, q2⟩ =>
    Calls.spliced_cons (thn (hf pins s2 σ H2 _ I2 q2) fun fv s3 ⟨z, H3, I3, rz, ov, g, q3⟩ => Calls.spliced_nil ?_))))
  exact d_get2 hu I3 g ry rz fun w' s4 I4 rw' => ⟨_, H3, I4, rw', q3⟩
end
section
variable {X : Cx} {pins : List (Addr × Obj)} {σ : St} {H : Hp} {s : Shared} {a : Addr} {kvs : List (Key × V)} {A : Around} {E : Value → Shared → Prop}
end
section
variable {X : Cx} {pins : List (Addr × Obj)} {σ : St} {H : Hp} {s : Shared} {a : Addr} {y : V} {u : Value} {A : Around} {E : Value → Shared → Prop}
end
end L2
namespace L2
open PySem PySem.Spec PyProof.Rows
section
variable {X : Cx}
theorem call_lenD : CallR X (.builtin "len") (fun xs H Q => ∃ a kvs, xs = [V.ref a] ∧ H a = some (.dK kvs) ∧ Q (.int kvs.length) H) := by
  intro pins s σ H xs us Q I r h
  obtain ⟨a, kvs, rfl, ha, q⟩ := h
  obtain ⟨u, rfl, ru⟩ := vals1 r
  cases ru
  exact d_len I (.inl ha) fun t s' I' => ⟨.int kvs.length, H, I', ⟨t, rfl⟩, q⟩
end
end L2
namespace L2
open PySem PySem.Spec PyProof.Rows
section
variable {κ : Type} [DecidableEq κ]
end
end L2
end
section
open PySem PySem.W PyProof.Rows
namespace L2
open PySem PySem.Spec PyProof.Rows
noncomputable def mask (n : Str) : Str := ⟨n.cps.push 0⟩
noncomputable def lcOk (sc fn : List (Str × NameKind)) (N vars : List Str) : Bool :=
  sc.all (fun p => p.2 != .cell && (p.2 != .free || (fn.lookup p.1 == some .cell || fn.lookup p.1 == some .free)) && (p.2 != .local || sc.lookup p.1 == some .local)) &&
  N.all (fun n => vars.contains n || sc.lookup n != some .local) && vars.all (fun v => sc.lookup (mask v) == none)
noncomputable def lcN (N vars : List Str) : List Str := N.map (fun n => if vars.contains n then mask n else n) ++ vars
noncomputable def blk (X : Cx) (vars : List Str) (scope : Scope) (cl : List (Str × Addr)) (C : Addr) (s₀ : Shared) (H₀ : Hp) (ex : List Addr) (pn : List (Addr × Obj)) : Cx :=
  { X with N := lcN X.N vars, env := compEnvC scope cl C X.env, s₀ := s₀, H₀ := H₀, outer := X.stack, ex := ex, fn := fun _ => false, pn := pn }
theorem lookup_mapped (f : Str → NameKind → NameKind) (x : Str) : ∀ names : List (Str × NameKind), (names.map fun p => (p.1, f p.1 p.2)).lookup x = (names.lookup x).map (f x)
  | [] => rfl
  | p :: r => by
    have ih := lookup_mapped f x r
    rw [List.map_cons, List.lookup_cons, List.lookup_cons, ih]
    cases q : x == p.1 with
    | true => obtain rfl : x = p.1 := by simpa using q
              rfl
    | false => rfl
theorem lookup_relabel {env : Env} {names : List (Str × NameKind)} {x : Str} :
    (names.map fun (n, k) => if (k == NameKind.free && env.scope.kind == .function && env.kindOf n == some .cell) then (n, NameKind.cell) else (n, k)).lookup x =
      (names.lookup x).map fun k => if (k == NameKind.free && env.scope.kind == .function && env.kindOf x == some .cell) then NameKind.cell else k := by
  rw [← lookup_mapped (fun n k => if (k == NameKind.free && env.scope.kind == .function && env.kindOf n == some .cell) then NameKind.cell else k) x names]
  congr 2
  funext p
  obtain ⟨n, k⟩ := p
  show (if _ then _ else _) = _
  split <;> rename_i z <;> simp [z]
theorem lookup_mem {β : Type} {x : Str} {c : β} : ∀ {l : List (Str × β)}, l.lookup x = some c → (x, c) ∈ l
  | [], h => by simp at h
  | p :: r, h => by
    rw [List.lookup_cons] at h
    cases q : x == p.1 with
    | true =>
      rw [q] at h
      obtain rfl : x = p.1 := by simpa using q
      obtain rfl : p.2 = c := by simpa using h
      exact List.mem_cons_self
    | false => rw [q] at h; exact List.mem_cons_of_mem _ (lookup_mem h)
theorem lookup_some_of_mem {β : Type} {x : Str} {c : β} : ∀ {l : List (Str × β)}, (x, c) ∈ l → ∃ d, l.lookup x = some d
  | [], h => nomatch h
  | (n, k) :: r, h => by
    cases hx : x == n with
    | true => exact ⟨k, by simp only [List.lookup_cons, hx]⟩
    | false =>
      have h' : (x, c) ∈ r := by
        rcases List.mem_cons.mp h with e | e
        · cases e; simp at hx
        · exact e
      obtain ⟨d, q⟩ := lookup_some_of_mem h'
      exact ⟨d, by simp only [List.lookup_cons, hx]; exact q⟩
theorem closure_go {env : Env} : ∀ (names : List (Str × NameKind)) (acc : List (Str × Addr)), (∀ p ∈ names, p.2 = .free → ∃ c, env.cells.lookup p.1 = some c) →
    ∃ cl, (forIn names acc fun (x : Str × NameKind) (r : List (Str × Addr)) => (match x with | (name, kind) => if (kind == NameKind.free) = true then do let a ← cellOf env name; pure (ForInStep.yield ((name, a) :: r)) else pure (ForInStep.yield r) : Sem (ForInStep (List (Str × Addr))))) = pure cl ∧
      (∀ p ∈ cl, p ∈ acc ∨ env.cells.lookup p.1 = some p.2) ∧ (∀ p ∈ acc, p ∈ cl) ∧ ∀ p ∈ names, p.2 = .free → ∃ c, (p.1, c) ∈ cl
  | [], acc, _ => ⟨acc, rfl, fun p h => .inl h, fun p h => h, fun p h => nomatch h⟩
  | (n, k) :: r, acc, h => by
    by_cases hk : (k == NameKind.free) = true
    · obtain ⟨c, hc⟩ := h (n, k) List.mem_cons_self (by simpa using hk)
      obtain ⟨cl, e, h1, h2, h3⟩ := closure_go r ((n, c) :: acc) fun p hp => h p (List.mem_cons_of_mem _ hp)
      refine ⟨cl, ?_, fun p hp => ?_, fun p hp => h2 p (List.mem_cons_of_mem _ hp), fun p hp hf => ?_⟩
      · rw [List.forIn_cons]
        have z : cellOf env n = pure c := by unfold cellOf; have hc' : env.cells.lookup n = some c := hc; rw [hc']
        simp only [hk, if_true, z]
        exact e
      · rcases h1 p hp with q | q
        · rcases List.mem_cons.mp q with q | q
          · exact .inr (by rw [q]; exact hc)
          · exact .inl q
        · exact .inr q
      · rcases List.mem_cons.mp hp with q | q
        · exact ⟨c, by rw [q]; exact h2 _ List.mem_cons_self⟩
        · exact h3 p q hf
    · obtain ⟨cl, e, h1, h2, h3⟩ := closure_go r acc fun p hp => h p (List.mem_cons_of_mem _ hp)
      refine ⟨cl, ?_, h1, h2, fun p hp hf => ?_⟩
      · rw [List.forIn_cons]
        simp only [if_neg hk]
        exact e
      · rcases List.mem_cons.mp hp with q | q
        · rw [q] at hf
          exact absurd (by simpa using hf) hk
        · exact h3 p q hf
theorem closure_is {env : Env} {scope : Scope} (h : ∀ p ∈ scope.names, p.2 = .free → ∃ c, env.cells.lookup p.1 = some c) :
    ∃ cl, closureFor scope env = pure cl ∧ (∀ x c, cl.lookup x = some c → env.cells.lookup x = some c) ∧ ∀ x, scope.names.lookup x = some .free → ∃ c, cl.lookup x = some c := by
  obtain ⟨cl, e, h1, _, h3⟩ := closure_go scope.names [] h
  refine ⟨cl, ?_, fun x c q => ?_, fun x q => ?_⟩
  · unfold closureFor
    show (forIn scope.names ([] : List (Str × Addr)) _ >>= fun r => pure r) = _
    erw [e]
    rfl
  · rcases h1 _ (lookup_mem q) with z | z
    · cases z
    · exact z
  · obtain ⟨c, q'⟩ := h3 _ (lookup_mem q) rfl
    exact lookup_some_of_mem q'
end L2
end
section
open PySem PySem.W PyProof.Rows
namespace L2
open PySem PySem.Spec PyProof.Rows
noncomputable def lcTests (cs : List Expr) (v : Env) : Sem Bool :=
  forIn cs true fun c r => if r = true then (isTrue c v (eval c v) >>= fun ok => pure (ForInStep.yield ok)) else pure (ForInStep.yield r)
noncomputable def lcItem (M : Model) (A : Around) (v : Env) (e : Expr) (acc : Value) (X : Value → Shared → Prop) (D : Shared → Prop) : Bool → Shared → Prop := fun ok u => if ok = true then
    wpAny M A (eval e v) (fun x u1 => wpAny M A (call (.builtin "list.append") [acc, x]) (fun _ u2 => D u2) X u1) X u
  else D u
noncomputable def lcTurn (M : Model) (A : Around) (v : Env) (tg e : Expr) (cs : List Expr) (it acc : Value) (X : Value → Shared → Prop) (D : Shared → Prop) (i : Value) (u : Shared) : Prop :=
  wpAny M A (letOwnedTupleGo tg it i) (fun _ u1 => wpAny M A (assign tg v i) (fun _ u2 => wpAny M A (lcTests cs v) (lcItem M A v e acc X D) X u2) X u1) X u
theorem compLoop_turns {prog : Program} {w : World} {A : Around} {R : Result → Shared → Prop} {s : Shared} {elt target iter : Expr} {ifs : List Expr} {scope : Scope} {pos : Pos} {it acc : Value} {env : Env} (I : Nat → Shared → Prop)
    (turn : ∀ k u, I k u → wpAny (model prog w) A (pyNext it) (fun r u1 => match r with
      | none => R (.ok .next) u1
      | some i => lcTurn (model prog w) A env target elt ifs it acc (notedBy (model prog w) A env fun e s' => R (.error e) s') (fun u2 => ∃ m, m < k ∧ I m u2) i u1) (notedBy (model prog w) A env fun e s' => R (.error e) s') u)
    (n : Nat) (h : I n s) : codeAny (model prog w) A (.compLoop (.ListComp elt [⟨target, iter, ifs, 0⟩] scope pos) 0 it acc env) R s := by
  refine codeAny_loop rfl I (fun k u hu => wpAny_noted (m := compTurn (.ListComp elt [⟨target, iter, ifs, 0⟩] scope pos) 0 it acc env) ?_) n h
  rw [compTurn_list]
  refine wpAny_bind (wpAny_standAt (wpAny_bind (wpAny_mono (turn k u hu) (fun r u1 g => ?_) fun _ _ z => z)))
  match r, g with
  | none, g => exact wpAny_pure g
  | some i, g =>
    refine wpAny_bind (wpAny_mono g (fun _ _ g => wpAny_bind (wpAny_mono g (fun _ _ g => wpAny_bind (wpAny_mono g (fun ok u4 g => ?_) fun _ _ z => z)) fun _ _ z => z)) fun _ _ z => z)
    match ok, g with
    | false, g => exact wpAny_pure (And.intro rfl g)
    | true, g => exact wpAny_bind (wpAny_bind (wpAny_mono g (fun _ _ g => wpAny_bind (wpAny_mono g (fun _ _ g => wpAny_pure (wpAny_pure (And.intro rfl g))) fun _ _ z => z)) fun _ _ z => z))
noncomputable def PF (X : Cx) (ifs : List Expr) (t : TT) : Prop :=
  ∀ (pins : List (Addr × Obj)) (s : Shared) (σ : St) (H : Hp) (Q : Bool → Hp → Prop), Inv X pins σ H s → t σ H Q →
    wpAny (model X.prog X.w) X.A (forIn ifs true fun c r => if r = true then do let ok ← isTrue c X.env (eval c X.env); pure (ForInStep.yield ok) else pure (ForInStep.yield r)) (TP X pins σ Q) X.xe s
noncomputable def tTrue : TT := fun _ H Q => Q true H
theorem pf_nil {X : Cx} : PF X [] tTrue := fun _ _ σ H Q I h => wpAny_tests_nil ⟨H, I, h⟩
theorem pf_one {X : Cx} {c : Expr} {t : TT} (h : PT X c t) : PF X [c] t := fun pins s σ H Q I q => wpAny_tests_one (h pins s σ H Q I q)
noncomputable def tLC (k : Nat) (wi : TI) (g : TG) (tt : TT) (te : TE) : TE := fun σ H Q => wi σ H fun J H1 => ∃ W : Nat → Nat → List V → Hp → Prop, (∃ m, W 0 m [] H1) ∧ ∀ i m ys H, W i m ys H →
  (J.stop i H ∧ ∀ p, H p = none → Q (.ref p) (upd H p (.lst ys))) ∨
  (J.go i H ∧ ys.length < sizeLine ∧ ∀ x H', J.yld i H x H' → g x (σ ++ List.replicate k none) H' fun σ2 H2 => tt σ2 H2 fun b H3 =>
    if b = true then te σ2 H3 fun y H4 => ∃ m', m' < m ∧ W (i + 1) m' (ys ++ [y]) H4 else ∃ m', m' < m ∧ W (i + 1) m' ys H3)
section
variable {X : Cx} {pins : List (Addr × Obj)} {σ : St} {H : Hp} {s : Shared} {scope : Scope} {vars : List Str} {cl : List (Str × Addr)}
theorem lcOk_sc (h : lcOk scope.names X.env.scope.names X.N vars = true) : ∀ p ∈ scope.names, p.2 ≠ .cell ∧ (p.2 = .free → X.env.kindOf p.1 = some .cell ∨ X.env.kindOf p.1 = some .free) ∧ (p.2 = .local → scope.names.lookup p.1 = some .local) := by
  intro p hp
  unfold lcOk at h
  simp only [Bool.and_eq_true, List.all_eq_true] at h
  obtain ⟨⟨h1, _⟩, _⟩ := h
  have q := h1 p hp
  simp only [Bool.or_eq_true, bne_iff_ne, ne_eq, beq_iff_eq] at q
  obtain ⟨⟨q1, q2⟩, q3⟩ := q
  refine ⟨q1, fun e => ?_, fun e => ?_⟩
  · rcases q2 with z | z
    · exact absurd e z
    · exact z
  · rcases q3 with z | z
    · exact absurd e z
    · exact z
theorem lcOk_N (h : lcOk scope.names X.env.scope.names X.N vars = true) : ∀ n ∈ X.N, ¬ n ∈ vars → scope.names.lookup n ≠ some .local := by
  intro n hn hv
  unfold lcOk at h
  simp only [Bool.and_eq_true, List.all_eq_true] at h
  obtain ⟨⟨_, h2⟩, _⟩ := h
  have q := h2 n hn
  simp only [Bool.or_eq_true, bne_iff_ne, ne_eq, List.contains_iff_mem] at q
  exact q.resolve_left hv
theorem lcOk_vars (h : lcOk scope.names X.env.scope.names X.N vars = true) : ∀ n ∈ vars, scope.names.lookup (mask n) = none := by
  intro n hn
  unfold lcOk at h
  simp only [Bool.and_eq_true, List.all_eq_true] at h
  simpa using h.2 n hn
theorem Inv.blk {C : Addr} {h' : Heap} {t' : Nat} {m' : Str → Option Value} {fp : List Addr} (I : Inv X pins σ H s) (hkind : scope.kind = .function) (hlc : lcOk scope.names X.env.scope.names X.N vars = true)
    (hc1 : ∀ x c, cl.lookup x = some c → X.env.cells.lookup x = some c) (hc2 : ∀ x, scope.names.lookup x = some .free → ∃ c, cl.lookup x = some c)
    (hfp : ∀ b ∈ fp, FpOk X pins H b) (hfo : ∀ b ∈ fp, ∃ o, s.heap.get? b = some o) (hC : s.heap.objs.size ≤ C) (hn : h'.Ns C m') (k : ∀ b o, s.heap.get? b = some o → h'.get? b = some o) :
    Inv (blk X vars scope cl C s H fp (X.pn ++ pins)) [] (σ ++ List.replicate vars.length none) H { s with heap := h', toks := t' } := by
  have hHC : H C = none := I.hok.fresh hC
  have cellOf : ∀ x c, cl.lookup x = some c → c < s.heap.objs.size := fun x c e => by
    obtain ⟨v, q⟩ := I.cell x c (hc1 x c e)
    exact q.lt
  refine ⟨?ok, rfl, I.bare, Un.kept k, ⟨m', hn, ?loc⟩, fun x c e => ?cell, hHC, fun x c e => I.freeC x c (hc1 x c e), ?pin, I.hok.kept k, ?len⟩
  case ok =>
    refine { mod := I.ok.mod, kind := ?_, glob := I.ok.glob, blt := I.ok.blt, above := hC, inj := ?_, has := ?_, cab := (fun _ _ e => by cases e), hd := I.ok.hd, frames := I.ok.frames, stk := .inl rfl, exf := ?_, bs := I.bs, bsz := Nat.le_trans I.ok.bsz I.sz, noex := ?_, exfs := ?_, funs := I.stack, frf := I.stkFree }
    · exact hkind
    · exact fun x y c e1 e2 => I.ok.inj x y c (hc1 x c e1) (hc1 y c e2)
    · intro x hx
      have hx' : (compEnvC scope cl C X.env).kindOf x = some .cell ∨ (compEnvC scope cl C X.env).kindOf x = some .free := hx
      have e : (compEnvC scope cl C X.env).kindOf x = (scope.names.lookup x).map fun k => if (k == NameKind.free && X.env.scope.kind == .function && X.env.kindOf x == some .cell) then NameKind.cell else k := lookup_relabel
      rw [e] at hx'
      cases q : scope.names.lookup x with
      | none => rw [q] at hx'; simp at hx'
      | some kd =>
        have hm := lcOk_sc (X := X) hlc _ (lookup_mem q)
        by_cases hf : kd = .free
        · subst hf; exact hc2 x q
        · rw [q] at hx'
          have hf' : (kd == NameKind.free) = false := by simpa using hf
          simp only [Option.map_some, hf', Bool.false_and, Bool.false_eq_true, if_false, Option.some.injEq] at hx'
          rcases hx' with z | z
          · exact absurd z hm.1
          · exact absurd z hf
    · intro b hb
      have f := hfp b hb
      obtain ⟨o, e⟩ := hfo b hb
      exact ⟨Nat.ne_of_lt (Nat.lt_of_lt_of_le (Heap.lt_size e) hC), fun x c e => f.2.2.2.2.1 x c (hc1 x c e)⟩
    · intro b o e hb
      have f := hfp b hb
      rcases f.2.2.2.1 with z | z
      · exact I.ok.noex b o e z
      · exact absurd (Nat.lt_of_lt_of_le (Heap.lt_size (I.ok.bs b o e).1) z) (Nat.lt_irrefl _)
    · intro b hb z
      have f := hfp b hb
      rcases List.mem_cons.mp (I.stkSub b z) with q | q
      · exact f.2.1 q
      · exact f.2.2.1 q
  case loc =>
    intro i x v e1 e2 e3
    have e1' : (lcN X.N vars)[i]? = some x := e1
    have e : (compEnvC scope cl C X.env).scope.names.lookup x = (scope.names.lookup x).map fun k => if (k == NameKind.free && X.env.scope.kind == .function && X.env.kindOf x == some .cell) then NameKind.cell else k := lookup_relabel
    by_cases hi : i < σ.length
    · rw [List.getElem?_append_left hi] at e2
      unfold lcN at e1'
      rw [List.getElem?_append_left (by rw [List.length_map, ← I.len]; exact hi), List.getElem?_map] at e1'
      cases q : X.N[i]? with
      | none => rw [q] at e1'; cases e1'
      | some n =>
        rw [q] at e1'
        have e1'' : (if vars.contains n = true then mask n else n) = x := Option.some.inj e1'
        have vis : (scope.names.lookup x).isSome = true := by
          unfold Vis at e3
          have e3' : (compEnvC scope cl C X.env).scope.names.lookup x = some .local ∨ (compEnvC scope cl C X.env).scope.names.lookup x = some .cell ∨ (compEnvC scope cl C X.env).scope.names.lookup x = some .free := e3
          rw [e] at e3'
          cases z : scope.names.lookup x with
          | none => rw [z] at e3'; simp at e3'
          | some _ => rfl
        by_cases hv : n ∈ vars
        · rw [if_pos (by simpa using hv)] at e1''
          have := lcOk_vars (X := X) hlc n hv
          rw [e1''] at this
          rw [this] at vis; cases vis
        · rw [if_neg (by simpa using hv)] at e1''
          subst e1''
          have nl := lcOk_N (X := X) hlc n (List.mem_of_getElem? q) hv
          cases z : scope.names.lookup n with
          | none => rw [z] at vis; cases vis
          | some kd =>
            have hm := lcOk_sc (X := X) hlc _ (lookup_mem z)
            have hkd : kd = .free := by
              unfold Vis at e3
              have e3' : (compEnvC scope cl C X.env).scope.names.lookup n = some .local ∨ (compEnvC scope cl C X.env).scope.names.lookup n = some .cell ∨ (compEnvC scope cl C X.env).scope.names.lookup n = some .free := e3
              rw [e, z] at e3'
              by_cases hf : kd = .free
              · exact hf
              · have hf' : (kd == NameKind.free) = false := by simpa using hf
                simp only [Option.map_some, hf', Bool.false_and, Bool.false_eq_true, if_false, Option.some.injEq] at e3'
                rcases e3' with y | y | y
                · rw [y] at z; exact absurd z nl
                · exact absurd y hm.1
                · exact y
            subst hkd
            have kk := hm.2.1 rfl
            obtain ⟨m, _, hl⟩ := I.loc
            obtain ⟨u, r, look⟩ := hl i n v q e2 (.inr kk)
            obtain ⟨c, hcl⟩ := hc2 n z
            have look' : ∃ c, X.env.cells.lookup n = some c ∧ s.heap.IsCell c (some u) := by
              rcases look with ⟨y, _⟩ | ⟨_, y⟩
              · rcases kk with w | w <;> (rw [w] at y; cases y)
              · exact y
            obtain ⟨c', hc', ⟨o, ho, hd⟩⟩ := look'
            have ec : c = c' := Option.some.inj ((hc1 n c hcl).symm.trans hc')
            subst ec
            refine ⟨u, r, .inr ⟨?_, c, hcl, o, k c o ho, hd⟩⟩
            show (compEnvC scope cl C X.env).scope.names.lookup n = some .cell ∨ (compEnvC scope cl C X.env).scope.names.lookup n = some .free
            rw [e, z]
            simp only [Option.map_some]
            split
            · exact .inl rfl
            · exact .inr rfl
    · rw [List.getElem?_append_right (Nat.not_lt.mp hi), List.getElem?_replicate] at e2
      split at e2 <;> cases e2
  case cell =>
    obtain ⟨v, o, ho, hd⟩ := I.cell x c (hc1 x c e)
    exact ⟨v, o, k c o ho, hd⟩
  case pin =>
    intro p hp
    have hp' : p ∈ X.pn ++ pins := by simpa [L2.blk] using hp
    obtain ⟨e, n, ne, nf, d⟩ := I.pin p hp'
    refine ⟨k _ _ e, n, Nat.ne_of_lt (Nat.lt_of_lt_of_le (Heap.lt_size e) hC), fun z => ?_, d⟩
    rcases List.mem_cons.mp (I.stkSub p.1 z) with q | q
    · exact ne q
    · exact nf q
  case len =>
    show (σ ++ List.replicate vars.length none).length = (lcN X.N vars).length
    unfold lcN
    rw [List.length_append, List.length_append, List.length_map, List.length_replicate, I.len]
end
end L2
end
section
open PySem PySem.W PyProof.Rows
namespace L2
open PySem PySem.Spec PyProof.Rows
noncomputable def GK (n : Nat) (g : TG) : Prop := ∀ x σ H Q, g x σ H Q → g x σ H fun σ2 H2 => Q σ2 H2 ∧ ∀ j, j < n → σ2[j]? = σ[j]?
noncomputable def GKs (n : Nat) (g : TGs) : Prop := ∀ xs σ H Q, g xs σ H Q → g xs σ H fun σ2 H2 => Q σ2 H2 ∧ ∀ j, j < n → σ2[j]? = σ[j]?
noncomputable def TGmono (g : TG) : Prop := ∀ x σ H Q Q', (∀ σ2 H2, Q σ2 H2 → Q' σ2 H2) → g x σ H Q → g x σ H Q'
theorem gk_name {n i : Nat} (h : n ≤ i) : GK n (gName i) := fun x σ H Q q => ⟨q, fun j hj => List.getElem?_set_ne (by omega)⟩
theorem gmono_name {i : Nat} : TGmono (gName i) := fun x σ H Q Q' f q => f _ _ q
theorem gk_nil {n : Nat} : GKs n gNil := fun xs σ H Q q => ⟨q.1, q.2, fun _ _ => rfl⟩
theorem gk_cons {n : Nat} {g : TG} {gs : TGs} (h : GK n g) (hm : TGmono g) (hs : GKs n gs) : GKs n (gCons g gs) := fun xs σ H Q q => by
  obtain ⟨v, r, e, z⟩ := q
  refine ⟨v, r, e, hm _ _ _ _ _ (fun σ2 H2 y => ?_) (h _ _ _ _ z)⟩
  have y' := hs _ _ _ _ y.1
  have : (fun σ3 H3 => (Q σ3 H3 ∧ ∀ j, j < n → σ3[j]? = σ2[j]?)) = fun σ3 H3 => (Q σ3 H3 ∧ ∀ j, j < n → σ3[j]? = σ[j]?) := by
    funext σ3 H3
    exact propext ⟨fun w => ⟨w.1, fun j hj => (w.2 j hj).trans (y.2 j hj)⟩, fun w => ⟨w.1, fun j hj => (w.2 j hj).trans (y.2 j hj).symm⟩⟩
  rw [this] at y'
  exact y'
theorem gk_tup {K : PySem.W.Frag} {n m : Nat} {gs : TGs} (hs : GKs n gs) : GK n (gTup K m gs) := fun x σ H Q q => by
  obtain ⟨a, xs, e, h1, h2, h3⟩ := q
  exact ⟨a, xs, e, h1, h2, hs _ _ _ _ h3⟩
section
variable {X : Cx} {scope : Scope} {vars : List Str} {elt tg iter : Expr} {ifs : List Expr} {pos : Pos} {wi : TI} {g : TG} {tt : TT} {te : TE}
theorem comp_block {pins : List (Addr × Obj)} {σ : St} {H2 : Hp} {s2 : Shared} {cl : List (Str × Addr)} {it : Addr} {fp : List Addr} {tn : Nat → Heap → Prop} {J : It} {RR : Value → Addr → Result → Shared → Prop} {Q : VK} {E : Value → Shared → Prop}
    (hc : X.calm = true) (hx : ∀ v s, ¬ X.xe v s) (hkind : scope.kind = .function) (hlc : lcOk scope.names X.env.scope.names X.N vars = true)
    (hb : ∀ cl C s₀ H₀ ex pn, PG (blk X vars scope cl C s₀ H₀ ex pn) tg g ∧ PF (blk X vars scope cl C s₀ H₀ ex pn) ifs tt ∧ PE (blk X vars scope cl C s₀ H₀ ex pn) elt te) (hgk : GK X.N.length g)
    (hc1 : ∀ x c, cl.lookup x = some c → X.env.cells.lookup x = some c) (hc2 : ∀ x, scope.names.lookup x = some .free → ∃ c, cl.lookup x = some c)
    (I2 : Inv X pins σ H2 s2) (T : Turn X.prog X.w X.K tg J fp it tn) (st2 : tn 0 s2.heap) (f2 : ∀ b ∈ fp, FpOk X pins H2 b)
    {W : Nat → Nat → List V → Hp → Prop} {m0 : Nat} (w0 : W 0 m0 [] H2)
    (turn : ∀ i m ys H, W i m ys H → (J.stop i H ∧ ∀ p, H p = none → Q (.ref p) (upd H p (.lst ys))) ∨
      (J.go i H ∧ ys.length < sizeLine ∧ ∀ x H', J.yld i H x H' → g x (σ ++ List.replicate vars.length none) H' fun σ2 H2 => tt σ2 H2 fun b H3 =>
        if b = true then te σ2 H3 fun y H4 => ∃ m', m' < m ∧ W (i + 1) m' (ys ++ [y]) H4 else ∃ m', m' < m ∧ W (i + 1) m' ys H3))
    (hRR : ∀ D C s4 H4 ys m, Inv X pins σ (upd H4 D (.lst ys)) s4 → s4.heap.Ns C m → H4 D = none → (upd H4 D (.lst ys)) C = none → C ≠ X.env.locals → X.s₀.heap.objs.size ≤ C → (∀ x c, X.env.cells.lookup x = some c → c ≠ C) → (∀ p ∈ X.pn ++ pins, p.1 ≠ C) →
      Q (.ref D) (upd H4 D (.lst ys)) → RR (.ref D) C (.ok .next) s4) :
    wpAny (model X.prog X.w) X.A (newList []) (fun acc s₃ => wpAny (model X.prog X.w) X.A (newFunctionEnv scope X.env.globals cl [] X.env.qual none .none (some X.env)) (fun cenv s₄ =>
      codeAny (model X.prog X.w) X.A (.compStart (.ListComp elt [⟨tg, iter, ifs, 0⟩] scope pos) 0 (.ref it) acc { cenv with scope := relabel scope X.env }) (RR acc cenv.locals) s₄) E s₃) E s2 := by
  have hcell : ∀ y ∈ scope.names, y.2 ≠ .cell := fun y hy => (lcOk_sc (X := X) hlc y hy).1
  refine wpAny_newObj_type (wpAny_newFunctionEnv hcell (fun y hy => absurd hy (by simp)) (fun h₁ hns₁ hsb₁ => ?_) hkind)
  dsimp only at hns₁ hsb₁ ⊢
  generalize hH2 : s2.heap.push { cls := .type "list", dict := none, data := .seq ([] : List Value).toArray } = P2 at hns₁ hsb₁ ⊢
  have hC : P2.objs.size = s2.heap.objs.size + 1 := by rw [← hH2, Heap.size_push]
  have hDC : s2.heap.objs.size ≠ P2.objs.size := by rw [hC]; exact Nat.ne_of_lt (Nat.lt_succ_self _)
  have hCle : s2.heap.objs.size ≤ P2.objs.size := by rw [hC]; exact Nat.le_succ _
  have below : ∀ b, b < s2.heap.objs.size → b ≠ P2.objs.size ∧ b ≠ s2.heap.objs.size := fun b hb => ⟨by rw [hC]; exact Nat.ne_of_lt (Nat.lt_succ_of_lt hb), Nat.ne_of_lt hb⟩
  have old : ∀ b o, s2.heap.get? b = some o → h₁.get? b = some o := fun b o e => hsb₁.extBut b o (below b (Heap.lt_size e)).1 (Heap.get?_push_of_some _ (hH2 ▸ Heap.get?_push_of_some _ e))
  have hacc : h₁.get? s2.heap.objs.size = some { cls := .type "list", data := .seq ([] : List Value).toArray 0 } := hsb₁.extBut _ _ hDC (Heap.get?_push_of_some _ (hH2 ▸ Heap.get?_push_size _ rfl))
  generalize hDe : s2.heap.objs.size = D at *
  generalize hCe : P2.objs.size = C at *
  have fo : ∀ b ∈ fp, ∃ o, s2.heap.get? b = some o := fun b hb => let ⟨o, e, _⟩ := T.obj _ _ st2 b hb; ⟨o, e⟩
  have fpD : ∀ b ∈ fp, b < D := fun b hb => by obtain ⟨o, e⟩ := fo b hb; rw [← hDe]; exact Heap.lt_size e
  have pnlt : ∀ p ∈ X.pn ++ pins, p.1 < D := fun p hp => by rw [← hDe]; exact Heap.lt_size (I2.pin p hp).1
  have cllt : ∀ x c, X.env.cells.lookup x = some c → c < D := fun x c e => by obtain ⟨v, q⟩ := I2.cell x c e; rw [← hDe]; exact q.lt
  have hLD : X.env.locals < D := by rw [← hDe]; exact I2.lt
  have hD0 : X.s₀.heap.objs.size ≤ D := by rw [← hDe]; exact I2.sz
  have IY0 : Inv (blk X vars scope cl C s2 H2 fp (X.pn ++ pins)) [] (σ ++ List.replicate vars.length none) H2 { s2 with heap := h₁, toks := s2.toks + ([] : List (Str × Value)).length } :=
    I2.blk hkind hlc hc1 hc2 f2 fo (by rw [hDe]; exact hCle) hns₁ old
  have st1 : tn 0 h₁ := T.keep _ _ _ st2 fun b _ o e => old b o e
  obtain ⟨hg, hf, he⟩ := hb cl C s2 H2 fp (X.pn ++ pins)
  generalize hY : blk X vars scope cl C s2 H2 fp (X.pn ++ pins) = Y at *
  have Yprog : Y.prog = X.prog := by rw [← hY]; rfl
  have Yw : Y.w = X.w := by rw [← hY]; rfl
  have YK : Y.K = X.K := by rw [← hY]; rfl
  have YA : Y.A = X.A := by rw [← hY]; rfl
  have Ycalm : Y.calm = true := by rw [← hY]; exact hc
  have Yenv : Y.env = compEnvC scope cl C X.env := by rw [← hY]; rfl
  have Yloc : Y.env.locals = C := by rw [Yenv]; rfl
  have Yex : Y.ex = fp := by rw [← hY]; rfl
  have Yfs : Y.fs = frs X.stack := by rw [← hY]; rfl
  have Ys0 : Y.s₀ = s2 := by rw [← hY]; rfl
  have YH0 : Y.H₀ = H2 := by rw [← hY]; rfl
  have Ypn : Y.pn = X.pn ++ pins := by rw [← hY]; rfl
  have YN : Y.N = lcN X.N vars := by rw [← hY]; rfl
  have Yxe : ∀ v s, ¬ Y.xe v s := by rw [← hY]; exact hx
  have noE : ∀ {E' : Value → Shared → Prop} {v : Value} {s : Shared}, Y.xe v s → E' v s := fun h => absurd h (Yxe _ _)
  have Ycell : ∀ x c, Y.env.cells.lookup x = some c → c < D := fun x c e => by rw [Yenv] at e; exact cllt x c (hc1 x c e)
  have fpY : ∀ {H' : Hp} {pl : List (Addr × Obj)}, (∀ b ∈ fp, H' b = none) → (∀ p ∈ pl, D ≤ p.1) → ∀ b ∈ fp, FpOk Y pl H' b := fun {H' pl} hn hp b hb => by
    refine ⟨hn b hb, ?_, ?_, .inl (by rw [Yex]; exact hb), ?_, ?_⟩
    · rw [Yloc]; exact Nat.ne_of_lt (Nat.lt_of_lt_of_le (fpD b hb) hCle)
    · rw [Yfs]; intro z
      rcases List.mem_cons.mp (I2.stkSub b z) with q | q
      · exact (f2 b hb).2.1 q
      · exact (f2 b hb).2.2.1 q
    · intro x c e z
      rw [Yenv] at e
      exact (f2 b hb).2.2.2.2.1 x c (hc1 x c e) z
    · intro p hp'
      rcases List.mem_append.mp hp' with q | q
      · rw [Ypn] at q; exact (f2 b hb).2.2.2.2.2 p q
      · intro z
        have := hp p q
        rw [z] at this
        exact absurd (Nat.lt_of_lt_of_le (fpD b hb) this) (Nat.lt_irrefl _)
  have Dfs : D ∉ Y.fs := by
    rw [Yfs]; intro z
    rcases List.mem_cons.mp (I2.stkSub D z) with q | q
    · exact absurd hLD (by rw [q]; exact Nat.lt_irrefl _)
    · exact I2.nofs (by rw [hDe]; exact Nat.le_refl _) q
  have loop : codeAny (model X.prog X.w) X.A (.compLoop (.ListComp elt [⟨tg, iter, ifs, 0⟩] scope pos) 0 (.ref it) (.ref D) (compEnvC scope cl C X.env)) (RR (.ref D) C) { s2 with heap := h₁, toks := s2.toks + ([] : List (Str × Value)).length } := by
    refine compLoop_turns (fun n s' => ∃ i ys H' its k, Inv Y [(D, { cls := .type "list", data := .seq its k })] (σ ++ List.replicate vars.length none) H' s' ∧ tn i s'.heap ∧ (∀ b ∈ fp, H' b = none) ∧ W i n ys H' ∧ Vals ys its.toList ∧ ys.length ≤ sizeLine) ?_ m0
      ⟨0, [], H2, _, 0, IY0.pins_of (fun p hp => ?_), st1, fun b hb => (f2 b hb).1, w0, .nil, Nat.zero_le _⟩
    · rintro n s3 ⟨i, ys, H3, its, k, I3, st3, fr3, w3, hv, hlen⟩
      rcases turn i n ys H3 w3 with ⟨stop, q⟩ | ⟨go, hlt, step⟩
      · have d := T.done Y Yprog Yw YK Ycalm i _ s3 _ H3 (notedBy (model X.prog X.w) X.A (compEnvC scope cl C X.env) fun e s' => RR (.ref D) C (.error e) s') I3 (fpY fr3 (by intro p hp; rw [List.mem_singleton.mp hp]; exact Nat.le_refl _)) st3 stop
        rw [YA] at d
        refine wpAny_mono d (fun r s4 hr => ?_) fun _ _ z => z
        obtain ⟨rfl, I4⟩ := hr
        obtain ⟨eD, nD, _, _, _⟩ := I4.pin (D, _) (List.mem_append_right _ List.mem_cons_self)
        dsimp only at eD nD
        obtain ⟨m, hnC, _⟩ := I4.loc
        rw [Yloc] at hnC
        have hb4 := I4.base
        rw [Yfs, Yex, YH0, Ys0] at hb4
        have hok4 := I4.hok
        rw [Yprog, Yw] at hok4
        have hCf := I4.free
        rw [Yloc] at hCf
        have neD : ∀ b o, s2.heap.get? b = some o → b ≠ D := fun b o e => by rw [← hDe]; exact Nat.ne_of_lt (Heap.lt_size e)
        have IX : Inv X pins σ (upd H3 D (.lst ys)) s4 := by
          refine I2.call' (ch := fp) (I4.os.trans (by rw [Ys0])) ⟨hb4.keep, hb4.slot, fun b o e n hx' => ?_, hb4.there, fun b xs e => ?_, fun b o u e => ?_, fun b ps e => ?_⟩ (fun b u e => ?_) I4.bare (fun b hb' => ?_)
          · rw [upd_ne (neD b o e)]; exact hb4.free b o e n hx'
          · rw [upd_ne (ne_of_none (hb4.tups b xs e) nD)]; exact hb4.tups b xs e
          · rw [upd_ne (ne_of_none (hb4.frzs b o u e) nD)]; exact hb4.frzs b o u e
          · obtain ⟨more, e'⟩ := hb4.tbls b ps e
            exact ⟨more, by rw [upd_ne (ne_of_none e' nD)]; exact e'⟩
          · by_cases hbD : b = D
            · subst hbD
              rw [upd_same] at e; cases e
              exact ⟨hlen, its.toList, k, hv, by simpa using eD⟩
            · rw [upd_ne hbD] at e
              exact (hok4 b u e).stay (fun c v _ z => z) (fun c z => by rw [upd_ne (ne_of_none z nD)]; exact z) fun c xs z => by rw [upd_ne (ne_of_none z nD)]; exact z
          · have f := f2 b hb'
            exact ⟨f.2.2.2.1, f.2.1, f.2.2.2.2.1, f.2.2.2.2.2⟩
        refine hRR D C s4 H3 ys m IX hnC nD (by rw [upd_ne (Ne.symm hDC)]; exact hCf) (Nat.ne_of_gt (Nat.lt_of_lt_of_le hLD hCle)) (Nat.le_trans hD0 hCle) (fun x c e => Nat.ne_of_lt (Nat.lt_of_lt_of_le (cllt x c e) hCle)) (fun p hp => Nat.ne_of_lt (Nat.lt_of_lt_of_le (pnlt p hp) hCle)) (q D nD)
      · have d := T.item Y Yprog Yw YK Ycalm i _ s3 _ H3 (notedBy (model X.prog X.w) X.A (compEnvC scope cl C X.env) fun e s' => RR (.ref D) C (.error e) s') I3 (fpY fr3 (by intro p hp; rw [List.mem_singleton.mp hp]; exact Nat.le_refl _)) st3 go
        rw [YA] at d
        refine wpAny_mono d (fun r s4 hr => ?_) fun _ _ z => z
        obtain ⟨u, rfl, h4⟩ := hr
        refine wpAny_mono h4 (fun _ s5 h5 => ?_) fun _ _ z => z
        obtain ⟨x, H5, I5, r5, y5, st5, fr5⟩ := h5
        have I5' := I5.pinned (fpY fr5 (by intro p hp; rw [List.mem_singleton.mp hp]; exact Nat.le_refl _)) (T.obj _ _ st5)
        have a1 := hg _ s5 _ H5 x u _ I5' r5 (hgk _ _ _ _ (step x H5 y5))
        rw [Yprog, Yw, YA, Yenv] at a1
        refine wpAny_mono a1 (fun _ s6 h6 => ?_) fun _ _ z => noE z
        obtain ⟨σ6, H6, I6, q6, k6⟩ := h6
        have a2 := hf _ s6 σ6 H6 _ I6 q6
        rw [Yprog, Yw, YA, Yenv] at a2
        have back : ∀ {pl : List (Addr × Obj)} {H' : Hp} {s' : Shared}, Inv Y pl σ6 H' s' → Inv Y pl (σ ++ List.replicate vars.length none) H' s' := fun {pl H' s'} I' => by
          refine I'.weak ?_ fun j v e => ?_
          · rw [I'.len, ← I3.len]
          · by_cases hj : j < σ.length
            · rw [k6 j (by rw [← I2.len]; exact hj)]; exact e
            · rw [List.getElem?_append_right (Nat.not_lt.mp hj), List.getElem?_replicate] at e
              split at e <;> cases e
        refine wpAny_mono a2 (fun ok s7 h7 => ?_) fun _ _ z => noE z
        obtain ⟨H7, I7, q7⟩ := h7
        cases ok with
        | false =>
          rw [if_neg Bool.false_ne_true] at q7
          unfold lcItem
          rw [if_neg (show ¬ false = true from Bool.false_ne_true)]
          obtain ⟨m', hm', w7⟩ := q7
          refine ⟨m', hm', i + 1, ys, H7, its, k, (back I7).pins_of (fun p hp => I7.pin p (List.mem_append_right _ (List.mem_append_left _ hp))), T.keep _ _ _ st5 fun b hb' o e => (I7.pin (b, o) (List.mem_append_right _ (List.mem_append_right _ (mem_pinsAt hb' e)))).1, fun b hb' => ?_, w7, hv, hlen⟩
          obtain ⟨o, e, _⟩ := T.obj _ _ st5 b hb'
          exact (I7.pin (b, o) (List.mem_append_right _ (List.mem_append_right _ (mem_pinsAt hb' e)))).2.1
        | true =>
          rw [if_pos rfl] at q7
          unfold lcItem
          rw [if_pos (show true = true from rfl)]
          have a3 := he _ s7 σ6 H7 _ I7 q7
          rw [Yprog, Yw, YA, Yenv] at a3
          refine wpAny_mono a3 (fun y s8 h8 => ?_) fun _ _ z => noE z
          obtain ⟨v, H8, I8, r8, m', hm', w8⟩ := h8
          obtain ⟨eD, nD, neL, nfD, dD⟩ := I8.pin (D, _) (List.mem_append_right _ (List.mem_append_left _ List.mem_cons_self))
          dsimp only at eD nD neL nfD dD
          refine append_at (hsz := by have := hv.length; simp at this; omega) eD fun h9 hs9 e9 => ?_
          have st8 : tn (i + 1) s8.heap := T.keep _ _ _ st5 fun b hb' o e => (I8.pin (b, o) (List.mem_append_right _ (List.mem_append_right _ (mem_pinsAt hb' e)))).1
          have fr8 : ∀ b ∈ fp, H8 b = none := fun b hb' => by
            obtain ⟨o, e, _⟩ := T.obj _ _ st5 b hb'
            exact (I8.pin (b, o) (List.mem_append_right _ (List.mem_append_right _ (mem_pinsAt hb' e)))).2.1
          have I8' : Inv Y [] (σ ++ List.replicate vars.length none) H8 s8 := (back I8).pins_of fun p hp => nomatch hp
          have I9 := I8'.turned (it := D) (h' := h9) (t' := s8.toks) (fun b o hb' e => hs9.extBut b o hb' e) nD neL (.inr (by rw [Ys0, hDe]; exact Nat.le_refl _)) (fun x c e => Nat.ne_of_lt (Ycell x c e)) (fun p hp => by
            rw [List.append_nil, Ypn] at hp
            exact Nat.ne_of_lt (pnlt p hp))
          refine ⟨m', hm', i + 1, ys ++ [v], H8, its.push y, k + 1, I9.pins_of (fun p hp => ?_), T.keep _ _ _ st8 fun b hb' o e => hs9.extBut b o (Nat.ne_of_lt (fpD b hb')) e, fr8, w8, ?_, ?_⟩
          · obtain rfl := List.mem_singleton.mp hp
            exact ⟨e9, nD, neL, nfD, fun v => by simp⟩
          · rw [Array.toList_push]
            exact Vals.append hv (.cons r8 .nil)
          · rw [List.length_append, List.length_singleton]; exact hlt
    · obtain rfl := List.mem_singleton.mp hp
      refine ⟨hacc, I2.hok.fresh (by rw [hDe]; exact Nat.le_refl _), ?_, Dfs, fun v => by simp⟩
      rw [Yloc]; exact hDC
  exact codeAny_compStart_list loop (T.self _ 0 _ _ _ st1 loop)
end
end L2
end
section
open PySem PySem.W PyProof.Rows
namespace L2
open PySem PySem.Spec PyProof.Rows
section
variable {X : Cx} {scope : Scope} {vars : List Str} {elt tg iter : Expr} {ifs : List Expr} {pos spos py : Pos} {wi : TI} {g : TG} {tt : TT} {te : TE} {i : Nat} {y : Str}
theorem pe_lcomp (vars : List Str) (hc : X.calm = true) (hx : ∀ v s, ¬ X.xe v s) (hkind : scope.kind = .function) (hlc : lcOk scope.names X.env.scope.names X.N vars = true) (hi : PI X tg iter wi)
    (hb : ∀ cl C s₀ H₀ ex pn, PG (blk X vars scope cl C s₀ H₀ ex pn) tg g ∧ PF (blk X vars scope cl C s₀ H₀ ex pn) ifs tt ∧ PE (blk X vars scope cl C s₀ H₀ ex pn) elt te) (hgk : GK X.N.length g)
    (hs : ∀ x, foldedSetIterable iter X.env x = pure x := by intro _; rfl) : PE X (.ListComp elt [⟨tg, iter, ifs, 0⟩] scope pos) (tLC vars.length wi g tt te) := by
  intro pins s σ H Q I h
  obtain ⟨cl, hcl, hc1, hc2⟩ := closure_is (env := X.env) (scope := scope) fun p hp hf => I.ok.has p.1 ((lcOk_sc (X := X) hlc p hp).2.1 hf)
  rw [eval_ListComp]
  refine wpAny_comprehension_free (use := none) rfl hs hcl hkind (fun p hp => (lcOk_sc (X := X) hlc p hp).2.2) ?_
  refine wpAny_mono (hi pins s σ H _ I h) (fun v s1 h1 => wpAny_mono h1 (fun itv s2 h2 => ?_) fun _ _ z => z) fun _ _ z => z
  obtain ⟨it, fp, tn, J, H2, rfl, I2, T, st2, f2, W, ⟨m0, w0⟩, turn⟩ := h2
  refine comp_block (Q := Q) (RR := fun acc C => compPost (model X.prog X.w) X.A X.xe none (EP X pins σ Q) acc C) hc hx hkind hlc hb hgk hc1 hc2 I2 T st2 f2 w0 turn ?_
  intro D C s4 H4 ys m I4 hn nD nC neL hsz hcell hpin q
  refine ⟨m, hn, fun h' hs' => ⟨.ref D, _, I4.turned (it := C) (t' := s4.toks) (fun b o hb e => hs'.extBut b o hb e) nC neL (.inr hsz) hcell hpin, rfl, q⟩⟩
noncomputable def tSetLC (k i : Nat) (wi : TI) (g : TG) (tt : TT) (te : TE) : TS := fun D σ H => tLC k wi g tt te σ H fun v H1 => D.nx (σ.set i (some v)) H1
theorem ps_lcomp (vars : List Str) (i : Nat) (hc : X.calm = true) (hx : ∀ v s, ¬ X.xe v s) (hkind : scope.kind = .function) (hlc : lcOk scope.names X.env.scope.names X.N vars = true) (hN : X.N.Nodup) (hiy : X.N[i]? = some y) (hy : Loc X.env.scope y)
    (hi : PI X tg iter wi)
    (hb : ∀ cl C s₀ H₀ ex pn, PG (blk X vars scope cl C s₀ H₀ ex pn) tg g ∧ PF (blk X vars scope cl C s₀ H₀ ex pn) ifs tt ∧ PE (blk X vars scope cl C s₀ H₀ ex pn) elt te) (hgk : GK X.N.length g)
    (hsw : swapsWith (.ListComp elt [⟨tg, iter, ifs, 0⟩] scope pos) (some (.Name y py)) spos.line X.env = pure true := by rfl)
    (hs : ∀ x, foldedSetIterable iter X.env x = pure x := by intro _; rfl)
    (hf : X.fn y = true ∨ X.env.scope.names.lookup y = some .local := by first | exact .inl rfl | exact .inr rfl | assumption) :
    PS X (.Assign [.Name y py] (.ListComp elt [⟨tg, iter, ifs, 0⟩] scope pos) spos) (tSetLC vars.length i wi g tt te) := by
  intro pins s σ H Dn I h
  obtain ⟨cl, hcl, hc1, hc2⟩ := closure_is (env := X.env) (scope := scope) fun p hp hf => I.ok.has p.1 ((lcOk_sc (X := X) hlc p hp).2.1 hf)
  rw [exec_Assign_Name_used _ _ _ _ hsw]; refine wpAny_bind (wpAny_standAt (wpAny_bind ?_))
  show wpAny _ X.A (do let _ ← comprehension (.ListComp elt [⟨tg, iter, ifs, 0⟩] scope pos) scope X.env _ (newList []) false (eval iter X.env) (some (assign (.Name y py) X.env))) _ _ s
  refine wpAny_bind (wpAny_mono (wpAny_comprehension_free (use := some (assign (.Name y py) X.env)) (Q := fun _ s' => SP X pins Dn .next s') rfl hs hcl hkind (fun p hp => (lcOk_sc (X := X) hlc p hp).2.2) ?_) (fun _ s' hq => wpAny_pure (wpAny_pure hq)) fun _ _ e => e)
  refine wpAny_mono (hi pins s σ H _ I h) (fun v s1 h1 => wpAny_mono h1 (fun itv s2 h2 => ?_) fun _ _ z => z) fun _ _ z => z
  obtain ⟨it, fp, tn, J, H2, rfl, I2, T, st2, f2, W, ⟨m0, w0⟩, turn⟩ := h2
  refine comp_block (Q := fun v H1 => Dn.nx (σ.set i (some v)) H1) (RR := fun acc C => compPost (model X.prog X.w) X.A X.xe (some (assign (.Name y py) X.env)) (fun _ s' => SP X pins Dn .next s') acc C) hc hx hkind hlc hb hgk hc1 hc2 I2 T st2 f2 w0 turn ?_
  intro D C s4 H4 ys m I4 hn nD nC neL hsz hcell hpin q
  show wpAny _ X.A (assign (.Name y py) X.env (.ref D)) _ _ s4
  refine wpAny_assign_Name (store_ok2 I4 hN hiy hy (v := .ref D) rfl (fun s5 I5 ⟨a, hsb, ha⟩ => ?_) hf)
  have hCa : C ≠ a := by
    rcases ha with z | z
    · rw [z]; exact neL
    · exact Ne.symm (hcell _ _ z)
  refine ⟨m, hn.sameBut hsb hCa, fun h' hs' => ?_⟩
  exact ⟨_, _, I5.turned (it := C) (t' := s5.toks) (fun b o hb e => hs'.extBut b o hb e) nC neL (.inr hsz) hcell hpin, q⟩
end
end L2
end
section
open PySem PySem.W PyProof.Rows
namespace L2
open PySem PySem.Spec PyProof.Rows
theorem call_isinst {X : Cx} : CallR X (.builtin "isinstance") (fun xs H Q => ∃ x T t b, xs = [x, .ty T] ∧ TyOf X.K H x t ∧ PySem.W.kitOne X.K t (.type T) = some b ∧ Q (.bl b) H) := by
  intro pins s σ H xs us Q I r h
  obtain ⟨x, T, t, b, rfl, ty, k, q⟩ := h
  obtain ⟨u, c, rfl, ru, rc⟩ := vals2 r
  cases (show c = Value.type T from rc)
  exact isinst_ok I ru ty k fun tk => ⟨.bl b, H, I.tok tk, rfl, q⟩
theorem ObjOk.get {P : Program} {w : World} {H : Hp} {h : Heap} {a : Addr} {o : HO} (x : ObjOk P w H h a o) : ∃ ob, h.get? a = some ob := by
  induction o with
  | lst xs => obtain ⟨_, its, n, _, e⟩ := x; exact ⟨_, e⟩
  | tup xs => obtain ⟨_, its, _, ob, e, _⟩ := x; exact ⟨_, e⟩
  | dK kvs => obtain ⟨_, _, vs, _, ob, es, ep, e, _⟩ := x; exact ⟨_, e⟩
  | dT kvs => obtain ⟨_, _, xs, _, ob, es, ep, e, _⟩ := x; exact ⟨_, e⟩
  | set S n => obtain ⟨ob, es, ep, t, e, _⟩ := x; exact ⟨_, e⟩
  | ins C dx fs => obtain ⟨_, _, _, e, _⟩ := x; exact ⟨_, e⟩
  | own y => exact x
  | xd fs => obtain ⟨mA, ⟨od, es, ep, e, _⟩, _⟩ := x; exact ⟨_, e⟩
  | rng lo hi => obtain ⟨t, u, v, e⟩ := x; exact ⟨_, e⟩
  | frz ob u ih => obtain ⟨e, _⟩ := x; exact ⟨_, e⟩
  | tbl ps => exact ⟨_, x⟩
  | met f y => exact ⟨_, x⟩
  | ext φ => obtain ⟨_, e, _⟩ := x; exact e
theorem Inv.laidAt {X : Cx} {pins : List (Addr × Obj)} {σ : St} {H : Hp} {s : Shared} {h' : Heap} {a : Addr} {o : HO} {t' : Nat} (I : Inv X pins σ H s) (k : ∀ b u, s.heap.get? b = some u → h'.get? b = some u) (hp : s.heap.get? a = none) (new : ObjOk X.prog X.w (upd H a o) h' a o) :
    H a = none ∧ Inv X pins σ (upd H a o) { s with heap := h', toks := t' } := by
  have hn : H a = none := by
    cases q : H a with
    | none => rfl
    | some u =>
      obtain ⟨ob, e⟩ := (I.hok a u q).get
      rw [hp] at e; cases e
  have ne : ∀ b u, s.heap.get? b = some u → b ≠ a := fun b u e z => by rw [z, hp] at e; cases e
  refine ⟨hn, I.un ⟨fun b u q _ _ _ => k b u q, fun b u q _ _ _ => ⟨u.slots, k b u q⟩, fun b u q n _ => ?_, fun b u q _ => ⟨u, k b u q⟩, fun b xs q => ?_, fun b u xs q => ?_, fun b ps q => ?_⟩ fun b u e => ?_⟩
  · rw [upd_ne (ne b u q)]; exact n
  · rw [upd_ne (ne_of_none q hn)]; exact q
  · rw [upd_ne (ne_of_none q hn)]; exact q
  · exact ⟨#[], by rw [upd_ne (ne_of_none q hn), q]; simp⟩
  · by_cases hb : b = a
    · subst hb; rw [upd_same] at e; cases e; exact new
    · rw [upd_ne hb] at e
      exact (I.hok b u e).stay (fun c v _ q => k c v q) (fun c q => by rw [upd_ne (ne_of_none q hn)]; exact q) fun c xs q => by rw [upd_ne (ne_of_none q hn)]; exact q
theorem get_none_of_keep {h h' : Heap} (k : ∀ b o, h.get? b = some o → h'.get? b = some o) : h.get? h'.objs.size = none := by
  cases q : h.get? h'.objs.size with
  | none => rfl
  | some o => exact absurd (Heap.lt_size (k _ _ q)) (Nat.lt_irrefl _)
section
variable {prog : Program} {w : World} {A : Around} {E : Value → Shared → Prop} {s : Shared}
theorem sort_strs_at {a : Addr} {vs : List Value} {ss : List Str} {n : Nat} {Q : Value → Shared → Prop} (ho : s.heap.get? a = some (seqObj "list" vs.toArray n)) (hS : StrsAre vs ss) (h64 : vs.length < 64)
    (h : ∀ (out : Array Value) (ss' : List Str), StrsAre out.toList ss' → ss'.Perm ss → sortedS ss' = true → Q .none { s with heap := sortedHeap s.heap a vs out }) :
    wpAny (model prog w) A (call (.builtin "list.sort") [.ref a]) Q E s := by
  refine wpAny_call_entry PyProof.Rows.slot_list_sort ⟨_, ho, rfl⟩ PyProof.Rows.entry_list_sort (list_sort_treeK strKind_oneLt ho hS.keysOf (fun v₁ v₂ rest e => keyKind_strs (by rw [← e]; exact hS)) h64 fun st' hp hs => ⟨_, rfl, ?_⟩) (PyProof.Rows.args_list_sort _)
  have z := sorted_out_str hS hp hs
  exact h _ z.choose z.choose_spec.1 z.choose_spec.2.1 z.choose_spec.2.2
theorem sorted_src {T : String} {r d : Addr} {n : Nat} {P : Nat → Value → Prop} {OK : Heap → Prop} {Q : Value → Shared → Prop} (K : PySem.W.KdlSrc prog w T r d n P OK) (hh : A.handled = none) (hok : OK s.heap) (hn : n ≤ sizeLine)
    (h : ∀ (D : Addr) (h' : Heap) (tk : Nat) (vs : List Value), (∀ b o, s.heap.get? b = some o → h'.get? b = some o) → h'.get? D = some (seqObj "list" vs.toArray 0) → s.heap.get? D = none → vs.length = n → (∀ (j : Nat) (v : Value), vs[j]? = some v → P j v) →
      wpAny (model prog w) A.in1 (call (.builtin "list.sort") [.ref D]) (fun _ z => Q (.ref D) z) E { s with heap := h', toks := tk }) : wpAny (model prog w) A (call (.builtin "sorted") [.ref r]) Q E s := by
  refine Calls.call_function_entry kind_sorted plain_sorted entry_sorted (args_sorted1 (.ref r)) ?_
  unfold Builtin.«sorted»
  refine wpAny_bind (m := checkCount "sorted" 1 1 [Value.ref r].length) (wpAny_pure (wpAny_bind (PySem.W.kdu_collect (A := A.in1) K hh hok hn fun h' tk acc hk hacc => ?_)))
  have many : acc.toList.length = n := Array.length_toList.trans hacc.1
  refine wpAny_bind (wpAny_newList (wpAny_bind (wpAny_holding (wpAny_mono (h h'.objs.size (h'.push { cls := .type "list", data := .seq acc.toList.toArray }) tk acc.toList (fun b o e => Heap.get?_push_of_some _ (hk b o e)) (Heap.get?_push_size _ rfl) (get_none_of_keep hk) many
    fun j v e => hacc.2 j v (Array.getElem?_toList ▸ e)) (fun _ z q => wpAny_pure (Exists.intro _ (And.intro rfl q))) fun _ _ e => e))) (many ▸ hn))
end
theorem strsAre_of {ss : List Str} : ∀ {us : List Value}, Vals (ss.map V.str) us → StrsAre us ss := by
  induction ss with
  | nil => intro us h; cases h; exact .nil
  | cons x r ih =>
    intro us h
    cases h with
    | cons hx ht =>
      obtain ⟨t, rfl⟩ := hx
      exact .cons x t (ih ht)
theorem vals_strs : ∀ {us : List Value} {ss : List Str}, StrsAre us ss → Vals (ss.map V.str) us
  | _, _, .nil => .nil
  | _, _, .cons x t h => .cons ⟨t, rfl⟩ (vals_strs h)
theorem strs_by {P : Nat → Value → Prop} : ∀ {ss : List Str} {vs : List Value}, vs.length = ss.length → (∀ (j : Nat) (v : Value) (x : Str), vs[j]? = some v → ss[j]? = some x → ∃ t, v = Value.str x t) → StrsAre vs ss
  | [], [], _, _ => .nil
  | x :: r, v :: vs, hl, h => by
    obtain ⟨t, rfl⟩ := h 0 v x rfl rfl
    exact .cons x t (strs_by (P := P) (by simpa using hl) fun j v y e1 e2 => h (j + 1) v y (by simpa using e1) (by simpa using e2))
section
variable {X : Cx}
theorem call_sorted_strs : CallR X (.builtin "sorted") (fun xs H Q => ∃ p ss, xs = [.ref p] ∧ SqL X.K H p (ss.map V.str) ∧ ss.length < 64 ∧ ∀ l ss', H l = none → ss'.Perm ss → sortedS ss' = true → Q (.ref l) (upd H l (.lst (ss'.map V.str)))) := by
  intro pins s σ H xs us Q I r h
  obtain ⟨p, ss, rfl, hS, h64, q⟩ := h
  obtain ⟨u, rfl, ru⟩ := vals1 r
  cases (show u = Value.ref p from ru)
  obtain ⟨its, hv, hl, hz⟩ := I.list hS
  have sa := strsAre_of hv
  refine sorted_strs hl.isList sa (by rw [sa.length]; exact h64) fun out ss' a1 a2 a3 => ?_
  obtain ⟨e, he⟩ := sortedAll_at s.heap its out
  have hlen : (ss'.map V.str).length ≤ sizeLine := by rw [List.length_map, a2.length_eq]; exact Nat.le_of_lt (Nat.lt_of_lt_of_le h64 (by decide))
  obtain ⟨hn, I'⟩ := I.laidAt (a := s.heap.objs.size + 1) (o := .lst (ss'.map V.str)) (t' := s.toks) (fun b o e => sortedAll_old e) (Heap.get?_none_of_le (Nat.le_succ _)) ⟨hlen, out.toList, e, vals_strs a1, by simpa [seqObj] using he⟩
  exact ⟨.ref _, _, I', rfl, q _ ss' hn a2 a3⟩
theorem call_sorted_dict (hc : X.calm = true) : CallR X (.builtin "sorted") (fun xs H Q => ∃ d kvs ss, xs = [.ref d] ∧ H d = some (.dK kvs) ∧ kvs.map (·.1) = ss.map Sum.inr ∧ ss.length < 64 ∧ ∀ l ss', H l = none → ss'.Perm ss → sortedS ss' = true → Q (.ref l) (upd H l (.lst (ss'.map V.str)))) := by
  intro pins s σ H xs us Q I r h
  obtain ⟨d, kvs, ss, rfl, hd, hk, h64, q⟩ := h
  obtain ⟨u, rfl, ru⟩ := vals1 r
  cases (show u = Value.ref d from ru)
  obtain ⟨z, lo, vs, rel, dd⟩ := dk_of I.hok hd
  obtain ⟨ep, da⟩ := dd.dictAt
  have hlen : vs.length = ss.length := by
    have e1 := rel.length
    have e2 : (kvs.map (·.1)).length = (ss.map (Sum.inr (α := Int))).length := by rw [hk]
    rw [List.length_map, List.length_map] at e2
    omega
  refine sorted_src (PySem.W.kdl_dict (knd := mixKind X.prog X.w) (kvs := vs) (ep := ep) lo) (I.ok.hd hc) da (by rw [hlen]; exact Nat.le_of_lt (Nat.lt_of_lt_of_le h64 (by decide))) fun D h' tk ws keep hD hDn hl hP => ?_
  have sa : StrsAre ws ss := by
    refine strs_by (P := fun _ _ => True) (by rw [hl, hlen]) fun j v x e1 e2 => ?_
    obtain ⟨k, y, e3, hk'⟩ := hP j v e1
    have e4 : (kvs.map (·.1))[j]? = some k := by
      have e5 := rel.keys
      rw [e5, List.getElem?_map, e3]; rfl
    rw [hk, List.getElem?_map, e2] at e4
    have e6 : (Sum.inr x : Key) = k := Option.some.inj e4
    subst e6
    rcases keyIs_shape (show keyIs (Sum.inr x) v = true from hk') with ⟨i, t, z, _⟩ | ⟨x', t, z, e⟩
    · cases z
    · cases z; exact ⟨t, e⟩
  refine sort_strs_at (n := 0) hD sa (by rw [hl, hlen]; exact h64) fun out ss' a1 a2 a3 => ?_
  obtain ⟨e, he⟩ := sortedHeap_at (out := out) hD
  have hle : (ss'.map V.str).length ≤ sizeLine := by rw [List.length_map, a2.length_eq]; exact Nat.le_of_lt (Nat.lt_of_lt_of_le h64 (by decide))
  have keep' : ∀ b o, s.heap.get? b = some o → (sortedHeap h' D ws out).get? b = some o := fun b o e => by
    rw [sortedHeap_old (fun z => by rw [z, hDn] at e; cases e) (Heap.lt_size (keep b o e))]; exact keep b o e
  obtain ⟨hn, I'⟩ := I.laidAt (a := D) (o := .lst (ss'.map V.str)) (t' := tk) keep' hDn ⟨hle, out.toList, e, vals_strs a1, by simpa [seqObj] using he⟩
  exact ⟨.ref _, _, I', rfl, q _ ss' hn a2 a3⟩
end
end L2
end
section
open PySem PySem.W PyProof.Rows
namespace L2
open PySem PySem.Spec PyProof.Rows
section
variable {prog : Program} {w : World} {A : Around} {E : Value → Shared → Prop} {s : Shared}
theorem tuple_no_keys : typeLookup (.type "tuple") "keys" = pure none := am_miss_of_fast (by decide +kernel)
set_option maxHeartbeats 4500000 in
set_option maxRecDepth 9000 in
theorem no_keys_tuple {a : Addr} {o : Obj} {xs : Array Value} {k : Nat} {Q : Option Value → Shared → Prop}
    (hx : s.heap.get? a = some o) (hc : o.cls = .type "tuple") (hdat : o.data = .seq xs k) (hd : o.dict = none) (hA : A.handled = none)
    (h : ∀ h' tk, (∀ b o, s.heap.get? b = some o → h'.get? b = some o) → Q none { s with heap := h', toks := tk }) : wpAny (model prog w) A (getAttr? (.ref a) "keys") Q E s := by
  obtain ⟨c, dct, dat, sl⟩ := o
  simp only at hc hdat hd
  subst hc hdat hd
  obtain ⟨h0, gs, dr, t0, o0⟩ := s
  have hT : ∀ k, (Shared.mk h0 gs dr k o0).TypeIs (.ref a) "tuple" := fun _ => Exists.intro _ (And.intro hx rfl)
  have f1 := sub_AttributeError; have f3 := F.slot_tuple_getattribute.lookup; have f4 := F.slot_tuple_getattribute.bind (.ref a); have f5 := am_tuple_getattr_none
  unfold getAttr?; unfold getAttrBy?; unfold getAttrBy
  repeat (any_goals (first | assumption | exact hT _ | ((with_reducible show wpAny _ _ (call (Value.builtin "tuple.__getattribute__") _ _) _ _ _); refine call_meets F.slot_tuple_getattribute (hT _) am_entry_tuple_getattribute (F.args_tuple_getattribute_2 _ _) (meets_getattribute_miss_tuple a xs k sl "keys" _ tuple_no_keys (by decide +kernel)) ⟨hx, hA, fun h' tk' e hx' => ?_⟩) | wp_step))
  obtain ⟨_, _, he⟩ := hx'.there
  with_reducible_and_instances unfold getattributeRaised
  repeat (any_goals (first | exact he | assumption | wp_step))
  exact h _ _ fun b o e => hx'.keeps b o e
end
end L2
end
section
open PySem PySem.W PyProof.Rows
namespace L2
open PySem PySem.Spec PyProof.Rows
section
variable {prog : Program} {w : World} {A : Around} {E : Value → Shared → Prop} {s : Shared}
theorem entry_update_loop : entryFor table "dict.update.loop" = some Builtin.«dict.update.loop» := entryFor_of_tree (by kernel_rfl)
theorem plain_update_loop : plainId "dict.update.loop" = true := by decide +kernel
theorem ifB {c : Prop} [Decidable c] {m m' : Sem α} {M : Model} {Q : α → Shared → Prop} (hc : c) (h : wpAny M A m Q E s) : wpAny M A (if c then m else m') Q E s := by rw [if_pos hc]; exact h
noncomputable def PairAt (prog : Program) (w : World) (h : Heap) (v : Value) (kv : Key × Value) : Prop := ∃ b o kx n, v = .ref b ∧ h.get? b = some o ∧ o.cls = .type "tuple" ∧ o.data = .seq #[kx, kv.2] n ∧ (mixKind prog w).is kv.1 kx = true
theorem PairAt.keeps {h h' : Heap} {v : Value} {kv : Key × Value} (x : PairAt prog w h v kv) (k : ∀ b o, h.get? b = some o → o.cls = .type "tuple" → h'.get? b = some o) : PairAt prog w h' v kv :=
  let ⟨b, o, kx, n, e, g, c, d, r⟩ := x; ⟨b, o, kx, n, e, k b o g c, c, d, r⟩
theorem update_loop {R : Result → Shared → Prop} {it tp d : Addr} {items : Array Value} {kvs : List (Key × Value)} {res : Value} (hh : A.handled = none) (hne : tp ≠ it) (hdi : d ≠ it) (hdt : d ≠ tp) (hl : kvs.length = items.size) (hz : items.size < sizeLine) :
    ∀ (k i : Nat) (ii : Int) (s : Shared) (acc : List (Key × Value)), items.size - i = k → i ≤ items.size → acc.length ≤ i → s.heap.IsTupleIter it tp i → s.heap.IsTuple tp items → s.heap.DictOf (mixKind prog w) d acc → (∃ od, s.heap.get? d = some od ∧ od.cls = .type "dict") → (∃ oi, s.heap.get? it = some oi ∧ oi.cls = .type "tuple_iterator") →
      (∀ (j : Nat) (v : Value) (kv : Key × Value), items[j]? = some v → kvs[j]? = some kv → PairAt prog w s.heap v kv) →
      (∀ s' , s'.heap.DictOf (mixKind prog w) d (merged acc (kvs.drop i)) → (∃ h' tk, s' = { s with heap := h', toks := tk }) → (∀ b o, b ≠ d → b ≠ it → s.heap.get? b = some o → s'.heap.get? b = some o) → R (.ok (.ret res)) s') →
      codeAny (model prog w) A (.builtin "dict.update.loop" ⟨[.ref d, .ref it, .int ii 0, res], []⟩) R s := by
  have W := Walks.tuple (prog := prog) (w := w) (A := A.in1) hh it tp hne items
  intro k
  induction k with
  | zero =>
    intro i ii s acc hk hi hac hit htp hd hdc hic hP hR
    obtain rfl : i = items.size := Nat.le_antisymm hi (by omega)
    refine codeAny_builtin entry_update_loop ?_
    rw [Around.under_plainId plain_update_loop _]
    show wpAny _ A.in1 (pyNext (.ref it) >>= _) _ _ s
    refine wpAny_bind (W.done s _ _ ⟨hit, htp⟩ fun h' tk keep => ?_)
    refine wpAny_bind (m := Builtin.Dict.addKeywords d []) (wpAny_pure ?_)
    refine wpAny_pure (hR _ ?_ ⟨h', tk, rfl⟩ fun b o _ hb e => keep b o (by simpa using hb) e)
    rw [List.drop_eq_nil_of_le (by omega)]
    exact hd.at fun o e => keep d o (by simpa using hdi) e
  | succ k ih =>
    intro i ii s acc hk hi hac hit htp hd hdc hic hP hR
    have hlt : i < items.size := Nat.lt_of_le_of_ne hi (by omega)
    refine codeAny_builtin entry_update_loop ?_
    rw [Around.under_plainId plain_update_loop _]
    show wpAny _ A.in1 (pyNext (.ref it) >>= _) _ _ s
    refine wpAny_bind (W.item i s _ _ hlt ⟨hit, htp⟩ fun v h' tk hv hst keep => ?_)
    have hkv : i < kvs.length := by omega
    obtain ⟨b, o, kx, n, rfl, hb, hc, hdat, his⟩ := hP i v kvs[i] hv (by simp [hkv])
    have hbi : b ≠ it := fun z => by
      obtain ⟨oi, e1, e2⟩ := hic
      rw [z, e1] at hb; cases hb; rw [e2] at hc; exact absurd hc (by decide)
    have hb' : h'.get? b = some o := keep b o (by simpa using hbi) hb
    have hT : (({ s with heap := h', toks := tk } : Shared)).TypeIs (.ref b) "tuple" := ⟨o, hb', hc⟩
    have hd' : h'.DictOf (mixKind prog w) d acc := hd.at fun o e => keep d o (by simpa using hdi) e
    dsimp only
    refine wpAny_bind (wpAny_holding (wpAny_bind (wpAny_tryCatch ?_)))
    unfold Builtin.Dict.pairItems
    refine wpAny_bind (wpAny_typeOf hT (ifB (by decide) (wpAny_bind (wpAny_seqItems hb' hdat (wpAny_pure ?_)))))
    show wpAny _ _ (holding [kx, kvs[i].2] (dictSet d kx kvs[i].2)) _ _ _
    refine wpAny_holding (wpAny_dictSet_pairs (hsz := by omega) his hd' fun h'' dd hs => ?_)
    obtain ⟨od, hod, hodc⟩ := hdc
    have hbd : b ≠ d := fun z => by rw [z, hod] at hb; cases hb; rw [hodc] at hc; exact absurd hc (by decide)
    have keep2 : ∀ b o, b ≠ d → b ≠ it → s.heap.get? b = some o → h''.get? b = some o := fun b o h1 h2 e => (hs.2 b h1).trans (keep b o (by simpa using h2) e)
    refine wpAny_pure ⟨plainId_quiet plain_update_loop _, ?_⟩
    refine ih (i + 1) (ii + 1) _ (stored acc kvs[i].1 kvs[i].2) (by omega) hlt (Nat.le_trans (stored_length_le _ _ _) (by omega)) (hst.1.at fun o e => (hs.2 it (Ne.symm hdi)).trans e) (htp.at fun o e => keep2 tp o (Ne.symm hdt) hne e) dd ?_ ?_ ?_ ?_
    · obtain ⟨q, es, ep, e1, e2, _⟩ := dd
      exact ⟨q, e1, e2.1⟩
    · obtain ⟨oi, e1, e2, _⟩ := hst.1
      exact ⟨oi, (hs.2 it (Ne.symm hdi)).trans e1, e2⟩
    · intro j v kv e1 e2
      refine (hP j v kv e1 e2).keeps fun b' o' e3 e4 => keep2 b' o' (fun z => ?_) (fun z => ?_) e3
      · rw [z, hod] at e3; cases e3; rw [hodc] at e4; exact absurd e4 (by decide)
      · obtain ⟨oi, f1, f2⟩ := hic
        rw [z, f1] at e3; cases e3; rw [f2] at e4; exact absurd e4 (by decide)
    · rintro s' dd' ⟨h3, tk3, rfl⟩ keep3
      refine hR _ ?_ ⟨h3, tk3, rfl⟩ fun b o h1 h2 e => keep3 b o h1 h2 (keep2 b o h1 h2 e)
      have e : kvs.drop i = kvs[i] :: kvs.drop (i + 1) := List.drop_eq_getElem_cons hkv
      rw [e]
      exact dd'
theorem call_dict_tup {p : Addr} {o : Obj} {items : Array Value} {n : Nat} {kvs : List (Key × Value)} {Q : Value → Shared → Prop} (hh : A.handled = none) (hb : sysModules < s.heap.objs.size) (hp : s.heap.get? p = some o) (hc : o.cls = .type "tuple") (hdt : o.data = .seq items n) (hdn : o.dict = none)
    (hl : kvs.length = items.size) (hz : items.size < sizeLine) (hP : ∀ (j : Nat) (v : Value) (kv : Key × Value), items[j]? = some v → kvs[j]? = some kv → PairAt prog w s.heap v kv)
    (h : ∀ h' tk, h'.DictOf (mixKind prog w) s.heap.objs.size (merged [] kvs) → (∀ b o, s.heap.get? b = some o → h'.get? b = some o) → Q (.ref s.heap.objs.size) { s with heap := h', toks := tk }) :
    wpAny (model prog w) A (call (.type "dict") [.ref p]) Q E s := by
  refine callType_codes (Q₁ := fun z u => z = .ref s.heap.objs.size ∧ u = { s with heap := s.heap.push { cls := .type "dict", data := .dict #[] } }) F.kt_called_dict (F.kt_typeCall_dict_1 _) F.entry_dict_init (kt_code_dict_new _ ⟨rfl, rfl⟩) ?_
  rintro obj s₁ ⟨rfl, rfl⟩
  have up : ∀ b o, s.heap.get? b = some o → (s.heap.push { cls := .type "dict", data := .dict #[] }).get? b = some o := fun b o e => Heap.get?_push_of_some _ e
  have hnew : (s.heap.push { cls := .type "dict", data := .dict #[] }).DictOf (mixKind prog w) s.heap.objs.size [] := Heap.DictOf.new s.heap
  have hp1 := up _ _ hp
  refine ⟨hnew.typeIs, F.args_dict_init_2 (.ref s.heap.objs.size) (.ref p), ?_⟩
  with_unfolding_all refine wpAny_bind (m := Builtin.Dict.selfAndRest _ _) (wpAny_bind (wpAny_notOrdered_dict hnew.typeIs (wpAny_pure ?_)))
  show wpAny _ _ (Builtin.Dict.updateFrom "dict.__init__" s.heap.objs.size (.ref p) [] .none) _ _ _
  unfold Builtin.Dict.updateFrom; refine wpAny_bind (wpAny_typeOf (T := "tuple") ⟨o, hp1, hc⟩ ?_)
  rw [if_pos (by decide)]
  refine wpAny_bind (no_keys_tuple hp1 hc hdt hdn hh fun h1 tk1 k1 => ?_)
  simp only [Option.isNone_none, if_true]
  refine wpAny_bind (wpAny_rule ?_)
  have htp1 : h1.IsTuple p items := ⟨o, k1 _ _ hp1, hc, n, hdt⟩
  refine wpAny_bind (wpAny_pyIter_tuple htp1 ?_)
  have up2 : ∀ b o, h1.get? b = some o → (h1.push { cls := .type "tuple_iterator", data := .fields #[.ref p, .int 0 0] }).get? b = some o := fun b o e => Heap.get?_push_of_some _ e
  have hd1 : h1.get? s.heap.objs.size = some { cls := .type "dict", data := .dict #[] } := k1 _ _ (Heap.get?_push_size _ rfl)
  have hpl : p < h1.objs.size := Heap.lt_size (k1 _ _ hp1)
  have hdl : s.heap.objs.size < h1.objs.size := Heap.lt_size hd1
  have hps : p < s.heap.objs.size := Heap.lt_size hp
  refine wpAny_pure ⟨plainId_quiet plain_update_loop _, ?_⟩
  refine update_loop (A := A.in1) (it := h1.objs.size) (tp := p) (kvs := kvs) hh (Nat.ne_of_lt hpl) (Nat.ne_of_lt hdl) (Nat.ne_of_gt hps) hl hz items.size 0 0 _ [] rfl (Nat.zero_le _) (Nat.le_refl _) ⟨_, Heap.get?_push_size _ rfl, rfl, rfl⟩ (htp1.push _) ?_ ⟨_, up2 _ _ hd1, rfl⟩ ⟨_, Heap.get?_push_size _ rfl, rfl⟩ ?_ ?_
  · exact (hnew.at fun o e => up2 _ o (k1 _ o e))
  · exact fun j v kv e1 e2 => (hP j v kv e1 e2).keeps fun b o e _ => up2 b o (k1 b o (up b o e))
  · rintro s' dd ⟨h3, tk3, rfl⟩ keep3
    refine ⟨rfl, h h3 tk3 (by simpa using dd) fun b o e => keep3 b o (Nat.ne_of_lt (Heap.lt_size e)) (Nat.ne_of_lt (Heap.lt_size (k1 _ _ (up _ _ e)))) (up2 _ _ (k1 _ _ (up _ _ e)))⟩
end
section
variable {X : Cx}
noncomputable def PairV (H : Hp) (y : V) (kv : Key × V) : Prop := ∃ b, y = .ref b ∧ H b = some (.tup [kV kv.1, kv.2])
theorem pairs_get {P : Program} {w : World} {H : Hp} {h : Heap} (ok : HOk P w H h) : ∀ {ys : List V} {kvs : List (Key × V)} {its : List Value}, Paired (PairV H) ys kvs → Vals ys its → ∃ vs : List (Key × Value), KV kvs vs ∧ vs.length = its.length ∧
    ∀ (j : Nat) (v : Value) (kv : Key × Value), its[j]? = some v → vs[j]? = some kv → PairAt P w h v kv
  | _, _, _, .nil, .nil => ⟨[], .nil, rfl, fun j v kv e => by simp at e⟩
  | _, _, _, .cons (b := kv0) hp hr, .cons hv hrv => by
    obtain ⟨vs, h1, h2, h3⟩ := pairs_get ok hr hrv
    obtain ⟨b, rfl, hb⟩ := hp
    obtain ⟨_, its0, r0, o, e1, e2, n, e3, _⟩ := (show ObjOk P w H h b (.tup [kV kv0.1, kv0.2]) from ok b _ hb)
    obtain ⟨u1, u2, rfl, r1, r2⟩ := vals2 r0
    cases (show _ = Value.ref b from hv)
    refine ⟨(kv0.1, u2) :: vs, .cons ⟨rfl, r2⟩ h1, by simp [h2], fun j v kv f1 f2 => ?_⟩
    cases j with
    | zero =>
      simp only [List.getElem?_cons_zero, Option.some.injEq] at f1 f2
      subst f1 f2
      exact ⟨b, o, u1, n, rfl, e1, e2, e3, kV_is r1⟩
    | succ j => exact h3 j v kv (by simpa using f1) (by simpa using f2)
theorem KV.mergeNil {kvs : List (Key × V)} {vs : List (Key × Value)} (r : KV kvs vs) : KV (mergeK [] kvs) (merged [] vs) := KV.merge r .nil
theorem call_dict_pairs (hc : X.calm = true) : CallR X (.type "dict") (fun xs H Q => ∃ p ys kvs, xs = [.ref p] ∧ H p = some (.tup ys) ∧ Paired (PairV H) ys kvs ∧ ys.length < sizeLine ∧ ∀ d, H d = none → Q (.ref d) (upd H d (.dK (mergeK [] kvs)))) := by
  intro pins s σ H xs us Q I r h
  obtain ⟨p, ys, kvs, rfl, hp, hP, hz, q⟩ := h
  obtain ⟨u, rfl, ru⟩ := vals1 r
  cases (show u = Value.ref p from ru)
  obtain ⟨_, its, r0, o, e1, e2, n, e3, e4⟩ := (show ObjOk X.prog X.w H s.heap p (.tup ys) from I.hok p _ hp)
  obtain ⟨vs, h1, h2, h3⟩ := pairs_get I.hok hP r0
  have hlen := r0.length
  have hk := Paired.length hP
  refine call_dict_tup (kvs := vs) (I.ok.hd hc) I.big e1 e2 e3 e4 (by simpa using h2) (by simp; omega) (fun j v kv f1 f2 => h3 j v kv (by simpa using f1) f2) fun h' tk dd keep => ?_
  have hle : (mergeK [] kvs).length ≤ sizeLine := by have := length_mergeK kvs []; simp at this; omega
  obtain ⟨hn, I'⟩ := I.laidAt (a := s.heap.objs.size) (o := .dK (mergeK [] kvs)) (t' := tk) keep (Heap.get?_none_of_le (Nat.le_refl _)) (dk_new hle (beq_eq_false_iff_ne.mpr (Ne.symm (Nat.ne_of_lt I.big))) (KV.mergeNil h1) dd)
  exact ⟨.ref _, _, I', rfl, q _ hn⟩
end
end L2
end
section
open PySem PySem.W PyProof.Rows
namespace L2
open PySem PySem.Spec PyProof.Rows
noncomputable def DefOk (P : Program) (w : World) (K : PySem.W.Frag) (mg : Str → Option Value) (base : Heap) (x : Str) (k : Nat) (ps : List Str) (sp : Sp) : Prop :=
  ∃ (f : Addr) (fd : FuncData), FnOk P w K mg base CX0 k f fd ps sp ∧ mg x = some (.ref f) ∧ PySem.W.keepIn K (.ref f) = true ∧ Binds K fd ps [] ∧ ∀ us : List Value, us.length = ps.length → bindArgs fd ⟨us, []⟩ = pure (ps.zip us)
theorem Fun.args {K : PySem.W.Frag} {x qual : Str} {st : Stmt} {f : Addr} {fd : FuncData} {ps : List Str} (F : Fun K x qual st f fd)
    (h : ∀ (kV doc pm : Value) (an : Option Addr) (cdv ct : Value) (us : List Value), us.length = ps.length → bindArgs (PySem.W.fnOf x qual (defArgs st) (defBody st) (defScope st) .none kV doc pm an cdv ct) ⟨us, []⟩ = pure (ps.zip us)) : ∀ us : List Value, us.length = ps.length → bindArgs fd ⟨us, []⟩ = pure (ps.zip us) := by
  obtain ⟨oc, od, kV, doc, pm, an, cdv, ct, osl, rfl, lk, hcd⟩ := F.ex
  exact h kV doc pm an cdv ct
noncomputable def At (K : PySem.W.Frag) (mg : Str → Option Value) (x : Str) (st : Stmt) : Prop := ∃ (f : Addr) (fd : FuncData), Fun K x x st f fd ∧ mg x = some (.ref f)
section
variable {P : Program} {w : World} {K : PySem.W.Frag} {mg : Str → Option Value} {base : Heap}
theorem DefOk.mono {x : Str} {j k : Nat} {ps : List Str} {sp : Sp} (d : DefOk P w K mg base x j ps sp) (h : j ≤ k) : DefOk P w K mg base x k ps sp := let ⟨f, fd, F, r⟩ := d; ⟨f, fd, F.mono h, r⟩
theorem At.ok {x : Str} {st : Stmt} {N ps : List Str} {k : Nat} {sp : Sp} (a : At K mg x st) (S : FnScope N ps (defScope st))
    (hb : ∀ (kV doc pm : Value) (an : Option Addr) (cdv ct : Value) (us : List Value), us.length = ps.length → bindArgs (PySem.W.fnOf x x (defArgs st) (defBody st) (defScope st) .none kV doc pm an cdv ct) ⟨us, []⟩ = pure (ps.zip us))
    (len : ∀ vs H Q E, sp vs H Q E → vs.length = ps.length)
    (hbody : ∀ (f : Addr) (cdv : Value) (A : Around) (outer : List Env) (s : Shared) (H : Hp) (vs : List V) (Q : VK) (E : XK), Room k (A.deeper (envOfC x (defScope st) s.heap.objs.size f cdv)) → sp vs H Q E →
      ∃ t, PSs (cxOf CX0 P w K mg base N x (defScope st) f cdv A outer s H E).nox (defBody st) t ∧ t { nx := fun _ H' => Q .non H', rt := Q } (start N vs) H) : DefOk P w K mg base x (k + 1) ps sp := by
  obtain ⟨f, fd, F, hm⟩ := a
  exact ⟨f, fd, F.ok S len fun cdv A outer s H vs Q E => hbody f cdv A outer s H vs Q E, hm, F.kp, F.binds hb, F.args hb⟩
theorem At.none_left {x : Str} {st : Stmt} {ps : List Str} {sp : Sp} (a : At K mg x st) (hb : ∀ (kV doc pm : Value) (an : Option Addr) (cdv ct : Value) (us : List Value), us.length = ps.length → bindArgs (PySem.W.fnOf x x (defArgs st) (defBody st) (defScope st) .none kV doc pm an cdv ct) ⟨us, []⟩ = pure (ps.zip us))
    (no : ∀ vs H Q E, ¬ sp vs H Q E) : DefOk P w K mg base x 0 ps sp := by
  obtain ⟨f, fd, F, hm⟩ := a
  exact ⟨f, fd, ⟨fun vs H Q E h => absurd h (no vs H Q E), fun A outer s H args us vs Q E _ _ _ _ h => absurd h (no vs H Q E)⟩, hm, F.kp, F.binds hb, F.args hb⟩
end
section
variable {X : Cx} {x : Str} {k j : Nat} {ps : List Str} {sp : Sp} {e : Expr} {es : List Expr} {t : TA} {p pos : Pos}
theorem pe_d (D : DefOk X.prog X.w X.K X.mg X.base x j ps sp) (hr : Room k X.A) (hg : Gl X x) (hj : j ≤ k) (ha : PA X (e :: es) t) (hdb : (x == ("__debug__" : Str)) = false := by decide)
    (he : starEach (e :: es) X.env = (false, eval e X.env) :: starEach es X.env := by rfl) (hpl : (backTo pos (starEach es X.env)).any (·.1) = false := by rfl) : PE X (.Call (.Name x p) (e :: es) [] pos) (tCall sp [] E0 t) := by
  obtain ⟨f, fd, F, hm, kp, bd, _⟩ := D
  exact pe_call F (hr.mono hj) hg hm kp bd .nil pass0 ha hdb he hpl
end
theorem at_mk {K : PySem.W.Frag} {mg : Str → Option Value} {h : Heap} {x : Str} {st : Stmt} {f : Addr} {oc : Value} {od an : Option Addr} {osl : Array (Option Value)} {kV doc pm cdv ct : Value} (X : K.In h) (G : h.Ns mainGlobals mg)
    (a : PySem.W.nsIn K mainGlobals x = some (some (.ref f))) (l : K.lookup f = some ⟨oc, od, .func (PySem.W.fnOf x x (defArgs st) (defBody st) (defScope st) .none kV doc pm an cdv ct), osl⟩) (c : PySem.W.codeIn K cdv x = true) (k : PySem.W.keepIn K (.ref f) = true) : At K mg x st :=
  ⟨f, _, fun_mk l c k, PySem.W.mg_of X G a⟩
structure Bl (mg : Str → Option Value) : Prop where
  len : mg "len" = none
  range : mg "range" = none
  isinstance : mg "isinstance" = none
  int : mg "int" = none
  bool : mg "bool" = none
  tuple : mg "tuple" = none
  dict : mg "dict" = none
  sorted : mg "sorted" = none
  min : mg "min" = none
  max : mg "max" = none
  abs : mg "abs" = none
noncomputable def Kp (a : Addr) (H H' : Hp) : Prop := ∀ b o, b ≠ a → H b = some o → H' b = some o
theorem Kp.refl (a : Addr) (H : Hp) : Kp a H H := fun _ _ _ h => h
theorem Kp.trans {a : Addr} {H H1 H2 : Hp} (x : Kp a H H1) (y : Kp a H1 H2) : Kp a H H2 := fun b o n h => y b o n (x b o n h)
theorem Same.kp {a : Addr} {H H' : Hp} (x : Same H H') : Kp a H H' := fun b o _ h => x b o h
theorem Kp.st {a : Addr} {H : Hp} {o : HO} : Kp a H (upd H a o) := fun b u n q => by rw [upd_ne n]; exact q
theorem Kp.lst {a b : Addr} {H H' : Hp} {K : PySem.W.Frag} {xs : List V} {kvs : List (Key × V)} (x : Kp a H H') (ha : H a = some (.dK kvs)) (h : SqL K H b xs) : SqL K H' b xs := by
  rcases h with (h | ⟨o, h⟩) | h
  · exact .inl (.inl (x _ _ (ne_of h ha (by intro z; cases z)) h))
  · exact .inl (.inr ⟨o, x _ _ (ne_of h ha (by intro z; cases z)) h⟩)
  · exact .inr h
theorem Kp.tup {a b : Addr} {H H' : Hp} {xs : List V} {kvs : List (Key × V)} (x : Kp a H H') (ha : H a = some (.dK kvs)) (h : H b = some (.tup xs)) : H' b = some (.tup xs) := x _ _ (ne_of h ha (by intro z; cases z)) h
end L2
end
section
open PySem PySem.W PyProof.Rows
namespace L2
open PySem PySem.Spec PyProof.Rows
class MonoE (t : TE) : Prop where
  m : ∀ σ H Q Q', (∀ x H1, Q x H1 → Q' x H1) → t σ H Q → t σ H Q'
class MonoT (t : TT) : Prop where
  m : ∀ σ H Q Q', (∀ x H1, Q x H1 → Q' x H1) → t σ H Q → t σ H Q'
class MonoA (t : TA) : Prop where
  m : ∀ σ H Q Q', (∀ x H1, Q x H1 → Q' x H1) → t σ H Q → t σ H Q'
class MonoO (t : TO) : Prop where
  m : ∀ σ H Q Q', (∀ x H1, Q x H1 → Q' x H1) → t σ H Q → t σ H Q'
class MonoI (t : TI) : Prop where
  m : ∀ σ H Q Q', (∀ x H1, Q x H1 → Q' x H1) → t σ H Q → t σ H Q'
class MonoR (r : R2) : Prop where
  m : ∀ x y H Q Q', (∀ x H1, Q x H1 → Q' x H1) → r x y H Q → r x y H Q'
class MonoU (r : V → Hp → VK → Prop) : Prop where
  m : ∀ x H Q Q', (∀ x H1, Q x H1 → Q' x H1) → r x H Q → r x H Q'
class MonoC (r : List V → Hp → VK → Prop) : Prop where
  m : ∀ x H Q Q', (∀ x H1, Q x H1 → Q' x H1) → r x H Q → r x H Q'
class MonoM (r : V → List V → Hp → VK → Prop) : Prop where
  m : ∀ x xs H Q Q', (∀ x H1, Q x H1 → Q' x H1) → r x xs H Q → r x xs H Q'
class MonoL (r : V → Option Int → Option Int → Hp → VK → Prop) : Prop where
  m : ∀ x l u H Q Q', (∀ x H1, Q x H1 → Q' x H1) → r x l u H Q → r x l u H Q'
class MonoSp (sp : Sp) : Prop where
  m : ∀ vs H Q Q' E, (∀ x H1, Q x H1 → Q' x H1) → sp vs H Q E → sp vs H Q' E
instance {i} : MonoE (tVar i) := ⟨fun σ H Q Q' f ⟨v, e, q⟩ => ⟨v, e, f _ _ q⟩⟩
instance {v} : MonoE (tC v) := ⟨fun σ H Q Q' f q => f _ _ q⟩
instance {g} : MonoR (rI0 g) := ⟨fun x y H Q Q' f ⟨i, j, a, b, q⟩ => ⟨i, j, a, b, f _ _ q⟩⟩
instance {C g} : MonoR (rI C g) := ⟨fun x y H Q Q' f ⟨i, j, a, b, c, q⟩ => ⟨i, j, a, b, c, f _ _ q⟩⟩
instance {g} : MonoU (rU g) := ⟨fun x H Q Q' f ⟨i, a, q⟩ => ⟨i, a, f _ _ q⟩⟩
instance : MonoR rEq := ⟨fun x y H Q Q' f ⟨a, q⟩ => ⟨a, f _ _ q⟩⟩
instance : MonoR rNe := ⟨fun x y H Q Q' f ⟨a, q⟩ => ⟨a, f _ _ q⟩⟩
instance {r r' : R2} [MonoR r] [MonoR r'] : MonoR (fun x y H Q => r x y H Q ∨ r' x y H Q) := ⟨fun x y H Q Q' f h => h.imp (MonoR.m x y H Q Q' f) (MonoR.m x y H Q Q' f)⟩
instance {r r' : List V → Hp → VK → Prop} [MonoC r] [MonoC r'] : MonoC (fun xs H Q => r xs H Q ∨ r' xs H Q) := ⟨fun x H Q Q' f h => h.imp (MonoC.m x H Q Q' f) (MonoC.m x H Q Q' f)⟩
instance {r r' : V → Option Int → Option Int → Hp → VK → Prop} [MonoL r] [MonoL r'] : MonoL (fun x l u H Q => r x l u H Q ∨ r' x l u H Q) := ⟨fun x l u H Q Q' f h => h.imp (MonoL.m x l u H Q Q' f) (MonoL.m x l u H Q Q' f)⟩
instance {r ta tb} [MonoR r] [MonoE ta] [MonoE tb] : MonoE (tOp r ta tb) := ⟨fun σ H Q Q' f h => MonoE.m (t := ta) _ _ _ _ (fun x H1 h1 => MonoE.m (t := tb) _ _ _ _ (fun y H2 h2 => MonoR.m (r := r) _ _ _ _ _ f h2) h1) h⟩
instance {r ta} [MonoU r] [MonoE ta] : MonoE (tUn r ta) := ⟨fun σ H Q Q' f h => MonoE.m (t := ta) _ _ _ _ (fun x H1 h1 => MonoU.m (r := r) _ _ _ _ f h1) h⟩
instance {t} [MonoE t] : MonoT (tTest t) := ⟨fun σ H Q Q' f h => MonoE.m (t := t) _ _ _ _ (fun x H1 ⟨k, e, q⟩ => ⟨k, e, f _ _ q⟩) h⟩
instance {t} [MonoE t] : MonoT (tB t) := ⟨fun σ H Q Q' f h => MonoE.m (t := t) _ _ _ _ (fun x H1 ⟨k, e, q⟩ => ⟨k, e, f _ _ q⟩) h⟩
theorem ite_mono {c A B A' B' : Prop} [Decidable c] (f : A → A') (g : B → B') (h : if c then A else B) : if c then A' else B' := by split at h <;> simp_all
instance {t u} [MonoT t] [MonoT u] : MonoT (tAnd t u) := ⟨fun σ H Q Q' f h => MonoT.m (t := t) _ _ _ _ (fun x H1 h1 => ite_mono (MonoT.m (t := u) _ _ _ _ f) (f _ _) h1) h⟩
instance {t u} [MonoT t] [MonoT u] : MonoT (tOr t u) := ⟨fun σ H Q Q' f h => MonoT.m (t := t) _ _ _ _ (fun x H1 h1 => ite_mono (f _ _) (MonoT.m (t := u) _ _ _ _ f) h1) h⟩
instance {t} [MonoT t] : MonoT (tNot t) := ⟨fun σ H Q Q' f h => MonoT.m (t := t) _ _ _ _ (fun x H1 h1 => f _ _ h1) h⟩
instance : MonoT tTrue := ⟨fun σ H Q Q' f h => f _ _ h⟩
instance {t ta tb} [MonoT t] [MonoE ta] [MonoE tb] : MonoE (tIf t ta tb) := ⟨fun σ H Q Q' f h => MonoT.m (t := t) _ _ _ _ (fun x H1 h1 => ite_mono (MonoE.m (t := ta) _ _ _ _ f) (MonoE.m (t := tb) _ _ _ _ f) h1) h⟩
instance {ta tb} [MonoE ta] [MonoE tb] : MonoE (tAndV ta tb) := ⟨fun σ H Q Q' f h => MonoE.m (t := ta) _ _ _ _ (fun x H1 ⟨c, e, q⟩ => ⟨c, e, ite_mono (MonoE.m (t := tb) _ _ _ _ f) (f _ _) q⟩) h⟩
instance {ta tb} [MonoE ta] [MonoE tb] : MonoE (tOrV ta tb) := ⟨fun σ H Q Q' f h => MonoE.m (t := ta) _ _ _ _ (fun x H1 ⟨c, e, q⟩ => ⟨c, e, ite_mono (f _ _) (MonoE.m (t := tb) _ _ _ _ f) q⟩) h⟩
instance {ta} [MonoE ta] : MonoE (tNotV ta) := ⟨fun σ H Q Q' f h => MonoE.m (t := ta) _ _ _ _ (fun x H1 ⟨c, e, q⟩ => ⟨c, e, f _ _ q⟩) h⟩
instance : MonoA tNil := ⟨fun σ H Q Q' f q => f _ _ q⟩
instance {ta t} [MonoE ta] [MonoA t] : MonoA (tCons ta t) := ⟨fun σ H Q Q' f h => MonoE.m (t := ta) _ _ _ _ (fun x H1 h1 => MonoA.m (t := t) _ _ _ _ (fun xs H2 h2 => f _ _ h2) h1) h⟩
instance {t} [MonoA t] : MonoE (tTup t) := ⟨fun σ H Q Q' f h => MonoA.m (t := t) _ _ _ _ (fun xs H1 ⟨z, q⟩ => ⟨z, fun p hp => f _ _ (q p hp)⟩) h⟩
instance {t} [MonoA t] : MonoE (tLst t) := ⟨fun σ H Q Q' f h => MonoA.m (t := t) _ _ _ _ (fun xs H1 ⟨z, q⟩ => ⟨z, fun p hp => f _ _ (q p hp)⟩) h⟩
instance {sp ds E t} [MonoSp sp] [MonoA t] : MonoE (tCall sp ds E t) := ⟨fun σ H Q Q' f h => MonoA.m (t := t) _ _ _ _ (fun xs H1 h1 => MonoSp.m (sp := sp) _ _ _ _ _ f h1) h⟩
instance {r t} [MonoC r] [MonoA t] : MonoE (tCB r t) := ⟨fun σ H Q Q' f h => MonoA.m (t := t) _ _ _ _ (fun xs H1 h1 => MonoC.m (r := r) _ _ _ _ f h1) h⟩
instance {K T r to t} [MonoM r] [MonoE to] [MonoA t] : MonoE (tBM K T r to t) := ⟨fun σ H Q Q' f h => MonoE.m (t := to) _ _ _ _ (fun x H1 ⟨y, h1⟩ => ⟨y, MonoA.m (t := t) _ _ _ _ (fun xs H2 h2 => MonoM.m (r := r) _ _ _ _ _ f h2) h1⟩) h⟩
instance : MonoM rAppend := ⟨fun x xs H Q Q' f ⟨l, ys, y, a, b, c, d, q⟩ => ⟨l, ys, y, a, b, c, d, f _ _ q⟩⟩
instance {td ty} [MonoE td] [MonoE ty] : MonoE (tDGet td ty) := ⟨fun σ H Q Q' f h => MonoE.m (t := td) _ _ _ _ (fun x H1 h1 => MonoE.m (t := ty) _ _ _ _ (fun y H2 ⟨a, v, b, c, q⟩ => ⟨a, v, b, c, f _ _ q⟩) h1) h⟩
instance {td ty tx} [MonoE td] [MonoE ty] [MonoE tx] : MonoE (tDGet2 td ty tx) := ⟨fun σ H Q Q' f h => MonoE.m (t := td) _ _ _ _ (fun x H1 ⟨a, b, c, h1⟩ => ⟨a, b, c, MonoE.m (t := ty) _ _ _ _ (fun y H2 h2 => MonoE.m (t := tx) _ _ _ _ (fun z H3 ⟨o, d, q⟩ => ⟨o, d, f _ _ q⟩) h2) h1⟩) h⟩
instance : MonoE tDNewK := ⟨fun σ H Q Q' f h p hp => f _ _ (h p hp)⟩
instance : MonoO tNoPart := ⟨fun σ H Q Q' f q => f _ _ q⟩
instance {t} [MonoE t] : MonoO (tPart t) := ⟨fun σ H Q Q' f h => MonoE.m (t := t) _ _ _ _ (fun x H1 ⟨i, e, q⟩ => ⟨i, e, f _ _ q⟩) h⟩
instance {r te tl th} [MonoL r] [MonoE te] [MonoO tl] [MonoO th] : MonoE (tSl r te tl th) := ⟨fun σ H Q Q' f h => MonoE.m (t := te) _ _ _ _ (fun x H1 h1 => MonoO.m (t := tl) _ _ _ _ (fun l H2 h2 => MonoO.m (t := th) _ _ _ _ (fun u H3 h3 => MonoL.m (r := r) _ _ _ _ _ _ f h3) h2) h1) h⟩
instance {K} : MonoL (rSlL K) := ⟨fun x l u H Q Q' f ⟨a, xs, e, s, q⟩ => ⟨a, xs, e, s, fun p hp => f _ _ (q p hp)⟩⟩
instance {K} : MonoL (rSlT K) := ⟨fun x l u H Q Q' f ⟨a, xs, e, s, z, q⟩ => ⟨a, xs, e, s, z, fun p hp => f _ _ (q p hp)⟩⟩
instance {K} : MonoR (rIxL K) := ⟨fun x y H Q Q' f ⟨a, b, c, d, e, g, h, i, q⟩ => ⟨a, b, c, d, e, g, h, i, f _ _ q⟩⟩
instance {K} : MonoR (rIxT K) := ⟨fun x y H Q Q' f ⟨a, b, c, d, e, g, h, i, q⟩ => ⟨a, b, c, d, e, g, h, i, f _ _ q⟩⟩
instance : MonoR rIxS := ⟨fun x y H Q Q' f ⟨a, b, c, d, e, g, h, q⟩ => ⟨a, b, c, d, e, g, h, f _ _ q⟩⟩
instance {K} : MonoR (rIx K) := ⟨fun x y H Q Q' f h => h.imp (MonoR.m (r := rIxL K) _ _ _ _ _ f) (fun h => h.imp (MonoR.m (r := rIxT K) _ _ _ _ _ f) (MonoR.m (r := rIxS) _ _ _ _ _ f))⟩
instance : MonoR rCat := ⟨fun x y H Q Q' f ⟨a, b, c, d, e, g, h, i, j, q⟩ => ⟨a, b, c, d, e, g, h, i, j, fun p hp => f _ _ (q p hp)⟩⟩
instance {K} : MonoR (rCatT K) := ⟨fun x y H Q Q' f ⟨a, b, c, d, e, g, h, i, j, k, q1, q2⟩ => ⟨a, b, c, d, e, g, h, i, j, k, fun z => f _ _ (q1 z), fun z p hp => f _ _ (q2 z p hp)⟩⟩
instance {K neg} : MonoR (rIn K neg) := ⟨fun x y H Q Q' f ⟨a, b, c, d, e, g, q⟩ => ⟨a, b, c, d, e, g, f _ _ q⟩⟩
instance {ta} [MonoE ta] : MonoE (tIsN ta) := ⟨fun σ H Q Q' f h => MonoE.m (t := ta) _ _ _ _ (fun x H1 h1 => f _ _ h1) h⟩
instance {ta} [MonoE ta] : MonoE (tNotN ta) := ⟨fun σ H Q Q' f h => MonoE.m (t := ta) _ _ _ _ (fun x H1 h1 => f _ _ h1) h⟩
instance {K tl} [MonoE tl] : MonoI (iList K tl) := ⟨fun σ H Q Q' f h => MonoE.m (t := tl) _ _ _ _ (fun x H1 ⟨a, b, c, q⟩ => ⟨a, b, c, f _ _ q⟩) h⟩
instance {K tl} [MonoE tl] : MonoI (iTup K tl) := ⟨fun σ H Q Q' f h => MonoE.m (t := tl) _ _ _ _ (fun x H1 ⟨a, b, c, q⟩ => ⟨a, b, c, f _ _ q⟩) h⟩
instance {ta} [MonoA ta] : MonoI (iRng1 ta) := ⟨fun σ H Q Q' f h => MonoA.m (t := ta) _ _ _ _ (fun x H1 ⟨a, b, c, d, q⟩ => ⟨a, b, c, d, f _ _ q⟩) h⟩
instance {k wi g tt te} [MonoI wi] : MonoE (tLC k wi g tt te) := ⟨fun σ H Q Q' f h => MonoI.m (t := wi) _ _ _ _ (fun J H1 ⟨W, w0, turn⟩ => ⟨W, w0, fun i m ys H w => (turn i m ys H w).imp (fun ⟨a, q⟩ => ⟨a, fun p hp => f _ _ (q p hp)⟩) (fun z => z)⟩) h⟩
section
variable {X : Cx}
noncomputable def rLenQ (K : PySem.W.Frag) : List V → Hp → VK → Prop := fun xs H Q => ∃ p ys, xs = [.ref p] ∧ (SqL K H p ys ∨ SqT K H p ys) ∧ Q (.int ys.length) H
noncomputable def rLenS : List V → Hp → VK → Prop := fun xs H Q => ∃ z, xs = [.str z] ∧ z.length ≤ sizeLine ∧ Q (.int z.length) H
instance {K} : MonoC (rLenQ K) := ⟨fun x H Q Q' f ⟨a, b, c, d, q⟩ => ⟨a, b, c, d, f _ _ q⟩⟩
instance : MonoC rLenS := ⟨fun x H Q Q' f ⟨a, b, c, q⟩ => ⟨a, b, c, f _ _ q⟩⟩
theorem callLen : CallR X (.builtin "len") (fun xs H Q => rLenQ X.K xs H Q ∨ rLenS xs H Q) := call_len_seq.or call_len_str
noncomputable def rIsi (K : PySem.W.Frag) : List V → Hp → VK → Prop := fun xs H Q => ∃ x T t b, xs = [x, .ty T] ∧ TyOf K H x t ∧ PySem.W.kitOne K t (.type T) = some b ∧ Q (.bl b) H
instance {K} : MonoC (rIsi K) := ⟨fun x H Q Q' f ⟨a, b, c, d, e, g, h, q⟩ => ⟨a, b, c, d, e, g, h, f _ _ q⟩⟩
theorem callIsi : CallR X (.builtin "isinstance") (rIsi X.K) := call_isinst
noncomputable def rSortS (K : PySem.W.Frag) : List V → Hp → VK → Prop := fun xs H Q => ∃ p ss, xs = [.ref p] ∧ SqL K H p (ss.map V.str) ∧ ss.length < 64 ∧ ∀ l ss', H l = none → ss'.Perm ss → sortedS ss' = true → Q (.ref l) (upd H l (.lst (ss'.map V.str)))
noncomputable def rSortD : List V → Hp → VK → Prop := fun xs H Q => ∃ d kvs ss, xs = [.ref d] ∧ H d = some (.dK kvs) ∧ kvs.map (·.1) = ss.map Sum.inr ∧ ss.length < 64 ∧ ∀ l ss', H l = none → ss'.Perm ss → sortedS ss' = true → Q (.ref l) (upd H l (.lst (ss'.map V.str)))
instance {K} : MonoC (rSortS K) := ⟨fun x H Q Q' f ⟨a, b, c, d, e, q⟩ => ⟨a, b, c, d, e, fun l s h1 h2 h3 => f _ _ (q l s h1 h2 h3)⟩⟩
instance : MonoC rSortD := ⟨fun x H Q Q' f ⟨a, b, c, d, e, g, h, q⟩ => ⟨a, b, c, d, e, g, h, fun l s h1 h2 h3 => f _ _ (q l s h1 h2 h3)⟩⟩
noncomputable def rDictP : List V → Hp → VK → Prop := fun xs H Q => ∃ p ys kvs, xs = [.ref p] ∧ H p = some (.tup ys) ∧ Paired (PairV H) ys kvs ∧ ys.length < sizeLine ∧ ∀ d, H d = none → Q (.ref d) (upd H d (.dK (mergeK [] kvs)))
instance : MonoC rDictP := ⟨fun x H Q Q' f ⟨a, b, c, d, e, g, h, q⟩ => ⟨a, b, c, d, e, g, h, fun l h1 => f _ _ (q l h1)⟩⟩
theorem callDict (hc : X.calm = true) : CallR X (.type "dict") rDictP := call_dict_pairs hc
noncomputable def rMin : List V → Hp → VK → Prop := fun xs H Q => ∃ i j, xs = [.int i, .int j] ∧ Q (.int (if j < i then j else i)) H
noncomputable def rMax : List V → Hp → VK → Prop := fun xs H Q => ∃ i j, xs = [.int i, .int j] ∧ Q (.int (if j > i then j else i)) H
noncomputable def rAbs : List V → Hp → VK → Prop := fun xs H Q => ∃ i, xs = [.int i] ∧ Q (.int (if i < 0 then -i else i)) H
noncomputable def rInt1 : List V → Hp → VK → Prop := fun xs H Q => (∃ i, xs = [.int i] ∧ Q (.int i) H) ∨ ∃ k, xs = [.bl k] ∧ Q (.int (if k then 1 else 0)) H
noncomputable def rTupOf (K : PySem.W.Frag) : List V → Hp → VK → Prop := fun xs H Q => ∃ p ys, xs = [.ref p] ∧ ((SqL K H p ys ∧ ∀ l, H l = none → Q (.ref l) (upd H l (.tup ys))) ∨ (SqT K H p ys ∧ Q (.ref p) H))
instance : MonoC rMin := ⟨fun x H Q Q' f ⟨a, b, c, q⟩ => ⟨a, b, c, f _ _ q⟩⟩
instance : MonoC rMax := ⟨fun x H Q Q' f ⟨a, b, c, q⟩ => ⟨a, b, c, f _ _ q⟩⟩
instance : MonoC rAbs := ⟨fun x H Q Q' f ⟨a, b, q⟩ => ⟨a, b, f _ _ q⟩⟩
instance : MonoC rInt1 := ⟨fun x H Q Q' f h => h.imp (fun ⟨a, b, q⟩ => ⟨a, b, f _ _ q⟩) (fun ⟨a, b, q⟩ => ⟨a, b, f _ _ q⟩)⟩
instance {K} : MonoC (rTupOf K) := ⟨fun x H Q Q' f ⟨a, b, c, h⟩ => ⟨a, b, c, h.imp (fun ⟨d, q⟩ => ⟨d, fun l h => f _ _ (q l h)⟩) (fun ⟨d, q⟩ => ⟨d, f _ _ q⟩)⟩⟩
theorem callTup : CallR X (.type "tuple") (rTupOf X.K) := call_tuple_of
end
end L2
end
section
open PySem PySem.W PyProof.Rows
namespace L2
open PySem PySem.Spec PyProof.Rows
structure EndsLe (D D' : Ends) : Prop where
  nx : ∀ σ H, D.nx σ H → D'.nx σ H
  rt : ∀ v H, D.rt v H → D'.rt v H
  bk : ∀ σ H, D.bk σ H → D'.bk σ H
  ct : ∀ σ H, D.ct σ H → D'.ct σ H
class MonoS (t : TS) : Prop where
  m : ∀ D D' σ H, EndsLe D D' → t D σ H → t D' σ H
class MonoG (g : TG) : Prop where
  m : ∀ x σ H Q Q', (∀ σ2 H2, Q σ2 H2 → Q' σ2 H2) → g x σ H Q → g x σ H Q'
class MonoGs (g : TGs) : Prop where
  m : ∀ x σ H Q Q', (∀ σ2 H2, Q σ2 H2 → Q' σ2 H2) → g x σ H Q → g x σ H Q'
instance {i} : MonoG (gName i) := ⟨fun x σ H Q Q' f q => f _ _ q⟩
instance : MonoGs gNil := ⟨fun x σ H Q Q' f q => ⟨q.1, f _ _ q.2⟩⟩
instance {t u} [MonoG t] [MonoGs u] : MonoGs (gCons t u) := ⟨fun x σ H Q Q' f ⟨v, r, e, q⟩ => ⟨v, r, e, MonoG.m (g := t) _ _ _ _ _ (fun σ2 H2 h => MonoGs.m (g := u) _ _ _ _ _ f h) q⟩⟩
instance {K n t} [MonoGs t] : MonoG (gTup K n t) := ⟨fun x σ H Q Q' f ⟨a, xs, e, h, l, q⟩ => ⟨a, xs, e, h, l, MonoGs.m (g := t) _ _ _ _ _ f q⟩⟩
instance {to ti} [MonoE to] [MonoE ti] : MonoG (gSub to ti rSetL) := ⟨fun x σ H Q Q' f h => MonoE.m (t := to) _ _ _ _ (fun o H1 h1 => MonoE.m (t := ti) _ _ _ _ (fun i H2 ⟨a, b, c, d, e, g, i, j, q⟩ => ⟨a, b, c, d, e, g, i, j, f _ _ q⟩) h1) h⟩
instance : MonoS tNext := ⟨fun D D' σ H l h => l.nx _ _ h⟩
instance : MonoS tBreak := ⟨fun D D' σ H l h => l.bk _ _ h⟩
instance : MonoS tCont := ⟨fun D D' σ H l h => l.ct _ _ h⟩
instance : MonoS tRetN := ⟨fun D D' σ H l h => l.rt _ _ h⟩
instance {t u} [MonoS t] [MonoS u] : MonoS (tSeq t u) := ⟨fun D D' σ H l h => MonoS.m (t := t) { D with nx := u D } { D' with nx := u D' } σ H ⟨fun σ H q => MonoS.m (t := u) D D' σ H l q, l.rt, l.bk, l.ct⟩ h⟩
instance {te g} [MonoE te] [MonoG g] : MonoS (tAsg te g) := ⟨fun D D' σ H l h => MonoE.m (t := te) _ _ _ _ (fun x H1 q => MonoG.m (g := g) _ _ _ _ _ l.nx q) h⟩
instance {te} [MonoE te] : MonoS (tRet te) := ⟨fun D D' σ H l h => MonoE.m (t := te) _ _ _ _ l.rt h⟩
instance {te} [MonoE te] : MonoS (tDrop te) := ⟨fun D D' σ H l h => MonoE.m (t := te) _ _ _ _ (fun _ H1 q => l.nx _ _ q) h⟩
instance {c t u} [MonoT c] [MonoS t] [MonoS u] : MonoS (tIfS c t u) := ⟨fun D D' σ H l h => MonoT.m (t := c) _ _ _ _ (fun b H1 q => ite_mono (MonoS.m (t := t) _ _ _ _ l) (MonoS.m (t := u) _ _ _ _ l) q) h⟩
instance {td ty tv} [MonoE td] [MonoE ty] [MonoE tv] : MonoS (sDPut td ty tv) := ⟨fun D D' σ H l h => MonoE.m (t := tv) _ _ _ _ (fun v H1 h1 => MonoE.m (t := td) _ _ _ _ (fun x H2 h2 => MonoE.m (t := ty) _ _ _ _ (fun y H3 ⟨a, H4, e, p, q⟩ => ⟨a, H4, e, p, l.nx _ _ q⟩) h2) h1) h⟩
instance {wi g tb} [MonoI wi] [MonoG g] [MonoS tb] : MonoS (tFor wi g tb) := ⟨fun D D' σ H l h => MonoI.m (t := wi) _ _ _ _ (fun J H1 ⟨W, w0, turn⟩ => ⟨W, w0, fun i m σ H w => (turn i m σ H w).imp (fun ⟨a, q⟩ => ⟨a, l.nx _ _ q⟩)
  (fun ⟨a, N, hN, q⟩ => ⟨a, N, hN, fun x H' y => MonoG.m (g := g) _ _ _ _ _ (fun σ2 H2 z => MonoS.m (t := tb) { D with nx := N, ct := N, bk := D.nx } { D' with nx := N, ct := N, bk := D'.nx } σ2 H2 ⟨fun _ _ z => z, l.rt, l.nx, fun _ _ z => z⟩ z) (q x H' y)⟩)⟩) h⟩
instance {c tb} [MonoT c] [MonoS tb] : MonoS (tWhile c tb) := ⟨fun D D' σ H l ⟨W, w0, turn⟩ => ⟨W, w0, fun m σ H w => MonoT.m (t := c) _ _ _ _ (fun b H1 q => ite_mono (fun ⟨N, hN, z⟩ => ⟨N, hN, MonoS.m (t := tb) { D with nx := N, ct := N, bk := D.nx } { D' with nx := N, ct := N, bk := D'.nx } σ H1 ⟨fun _ _ z => z, l.rt, l.nx, fun _ _ z => z⟩ z⟩) (l.nx _ _) q) (turn m σ H w)⟩⟩
instance {k i wi g tt te} [MonoI wi] : MonoS (tSetLC k i wi g tt te) := ⟨fun D D' σ H l h => MonoE.m (t := tLC k wi g tt te) _ _ _ _ (fun x H1 q => l.nx _ _ q) h⟩
end L2
namespace L2
open PySem PySem.Spec PyProof.Rows
end L2
end
section
open PySem PySem.W PyProof.Rows
namespace L2
open PySem PySem.Spec PyProof.Rows
noncomputable def stK (a : Addr) (k : Int) (l : Option Int) : List (Key × V) := match l with
  | none => [(.inr "script", .ref a), (.inr "k", .int k)]
  | some l => [(.inr "script", .ref a), (.inr "k", .int k), (.inr "left", .int l)]
noncomputable def SqF (K : PySem.W.Frag) (H : Hp) (a : Addr) (xs : List V) : Prop := (∃ o, H a = some (.frz o (.lst xs))) ∨
  ∃ (o : Obj) (its : Array Value) (n : Nat), K.lookup a = some o ∧ o.cls = .type "list" ∧ o.dict = none ∧ o.data = .seq its n ∧ its.size ≤ sizeLine ∧ Vals xs its.toList
theorem SqF.sq {K : PySem.W.Frag} {H : Hp} {a : Addr} {xs : List V} (h : SqF K H a xs) : SqL K H a xs := by
  rcases h with ⟨o, h⟩ | h
  · exact .inl (.inr ⟨o, h⟩)
  · exact .inr h
theorem SqF.upd {K : PySem.W.Frag} {H : Hp} {a c : Addr} {xs : List V} {u o' : HO} (h : SqF K H a xs) (hc : H c = some u) (hu : ∀ o w, u ≠ .frz o w) : SqF K (upd H c o') a xs := by
  rcases h with ⟨o, h⟩ | h
  · exact .inl ⟨o, by rw [upd_ne (ne_of h hc fun z => hu _ _ z.symm)]; exact h⟩
  · exact .inr h
theorem Kp.frz {st a : Addr} {H H' : Hp} {K : PySem.W.Frag} {xs : List V} {kvs : List (Key × V)} (x : Kp st H H') (ha : H st = some (.dK kvs)) (h : SqF K H a xs) : SqF K H' a xs := by
  rcases h with ⟨o, h⟩ | h
  · exact .inl ⟨o, x _ _ (ne_of h ha (by intro z; cases z)) h⟩
  · exact .inr h
theorem Same.frz {a : Addr} {H H' : Hp} {K : PySem.W.Frag} {xs : List V} (x : Same H H') (h : SqF K H a xs) : SqF K H' a xs := by
  rcases h with ⟨o, h⟩ | h
  · exact .inl ⟨o, x _ _ h⟩
  · exact .inr h
noncomputable def IsSt (K : PySem.W.Frag) (H : Hp) (st : Addr) (k : Int) (l : Option Int) : Prop := ∃ (a : Addr) (ns : List Int), H st = some (.dK (stK a k l)) ∧ SqF K H a (ns.map V.int) ∧ ns.length ≤ 63 ∧ 0 ≤ k
theorem IsSt.keep {K : PySem.W.Frag} {H H' : Hp} {st : Addr} {k : Int} {l : Option Int} (x : IsSt K H st k l) (y : Kp st H H') (e : H' st = H st) : IsSt K H' st k l :=
  let ⟨a, ns, h1, h2, h3, h4⟩ := x; ⟨a, ns, e.trans h1, y.frz h1 h2, h3, h4⟩
theorem IsSt.same {K : PySem.W.Frag} {H H' : Hp} {st : Addr} {k : Int} {l : Option Int} (x : IsSt K H st k l) (y : Same H H') : IsSt K H' st k l :=
  let ⟨a, ns, h1, h2, h3, h4⟩ := x; IsSt.keep ⟨a, ns, h1, h2, h3, h4⟩ y.kp ((y _ _ h1).trans h1.symm)
theorem IsSt.upd {K : PySem.W.Frag} {H : Hp} {st c : Addr} {k : Int} {l : Option Int} {u o : HO} (x : IsSt K H st k l) (hc : H c = some u) (hu : ∀ o w, u ≠ .frz o w) (hn : c ≠ st) : IsSt K (upd H c o) st k l :=
  let ⟨a, ns, h1, h2, h3, h4⟩ := x; ⟨a, ns, by rw [upd_ne (Ne.symm hn)]; exact h1, h2.upd hc hu, h3, h4⟩
theorem IsSt.at {K : PySem.W.Frag} {H : Hp} {st : Addr} {k : Int} {l : Option Int} (x : IsSt K H st k l) : ∃ kvs, H st = some (.dK kvs) := let ⟨a, ns, h1, _⟩ := x; ⟨_, h1⟩
theorem IsSt.pos {K : PySem.W.Frag} {H : Hp} {st : Addr} {k : Int} {l : Option Int} (x : IsSt K H st k l) : 0 ≤ k := let ⟨a, ns, h1, _, _, h⟩ := x; h
end L2
end
section
open PySem PySem.W PyProof.Rows
namespace L2
open PySem PySem.Spec PyProof.Rows
noncomputable def noStar : Expr → Bool
  | .Starred _ _ => false
  | _ => true
theorem star_cons {e : Expr} {es : List Expr} {env : Env} (h : noStar e = true) : starEach (e :: es) env = (false, eval e env) :: starEach es env := by
  cases e <;> first | rfl | cases h
theorem star_any {pos : Pos} {env : Env} : ∀ {es : List Expr}, es.all noStar = true → (backTo pos (starEach es env)).any (·.1) = false
  | [], _ => rfl
  | e :: es, h => by
    have h := Bool.and_eq_true_iff.mp (List.all_cons ▸ h)
    rw [star_cons h.1]
    have := star_any (pos := pos) (env := env) h.2
    unfold backTo at this ⊢
    simp only [List.map_cons, List.any_cons, Bool.false_or]
    exact this
section
variable {X : Cx} {e : Expr} {es : List Expr} {te : TE} {t : TA}
theorem pk (ha : PE X e te) (hr : PA X es t) (hs : noStar e = true := by rfl) : PA X (e :: es) (tCons te t) := pa_cons ha hr (star_cons hs)
variable {x : Str} {k j : Nat} {ps : List Str} {sp : Sp} {p pos : Pos} {id T : String} {r : List V → Hp → VK → Prop}
theorem kd (D : DefOk X.prog X.w X.K X.mg X.base x j ps sp) (hr : Room k X.A) (hg : Gl X x) (hj : j ≤ k) (ha : PA X (e :: es) t) (hdb : (x == ("__debug__" : Str)) = false := by decide) (he : noStar e = true := by rfl) (hpl : es.all noStar = true := by rfl) :
    PE X (.Call (.Name x p) (e :: es) [] pos) (tCall sp [] E0 t) := pe_d D hr hg hj ha hdb (star_cons he) (star_any hpl)
theorem kB (hc : CallR X (.builtin id) r) (hg : Gl X x) (hm : X.mg x = none) (hv : bootBuiltins x = some (.builtin id)) (ha : PA X (e :: es) t) (hn : x ≠ "__name__" := by decide) (hdb : (x == ("__debug__" : Str)) = false := by decide) (he : noStar e = true := by rfl) (hpl : es.all noStar = true := by rfl) :
    PE X (.Call (.Name x p) (e :: es) [] pos) (tCB r t) := pe_callB hc hg hm hv ha hn hdb (star_cons he) (star_any hpl)
theorem kT (hc : CallR X (.type T) r) (hg : Gl X x) (hm : X.mg x = none) (hv : bootBuiltins x = some (.type T)) (ha : PA X (e :: es) t) (hn : x ≠ "__name__" := by decide) (hdb : (x == ("__debug__" : Str)) = false := by decide) (he : noStar e = true := by rfl) (hpl : es.all noStar = true := by rfl) :
    PE X (.Call (.Name x p) (e :: es) [] pos) (tCB r t) := pe_callTy hc hg hm hv ha hn hdb (star_cons he) (star_any hpl)
end
end L2
namespace L2
open PySem PySem.Spec PyProof.Rows
noncomputable def tVals (vs : List V) : TA := fun _ H Q => Q vs H
instance {vs} : MonoA (tVals vs) := ⟨fun σ H Q Q' f q => f _ _ q⟩
end L2
end
section
open PySem PySem.W PyProof.Rows
namespace L2
open PySem PySem.Spec PyProof.Rows
structure QE (X : Cx) (e : Expr) (t : TE) : Prop where h : PE X e t
structure QT (X : Cx) (e : Expr) (t : TT) : Prop where h : PT X e t
structure QW (X : Cx) (e : Expr) (t : TT) : Prop where h : PW X e t
structure QA (X : Cx) (es : List Expr) (t : TA) : Prop where h : PA X es t
structure QO (X : Cx) (e : Option Expr) (t : TO) : Prop where h : PO X e t
structure QS (X : Cx) (s : Stmt) (t : TS) : Prop where h : PS X s t
structure QSs (X : Cx) (s : List Stmt) (t : TS) : Prop where h : PSs X s t
structure QG (X : Cx) (e : Expr) (t : TG) : Prop where h : PG X e t
structure QGs (X : Cx) (e : List Expr) (t : TGs) : Prop where h : PGs X e t
structure QI (X : Cx) (tg e : Expr) (t : TI) : Prop where h : PI X tg e t
structure QF (X : Cx) (es : List Expr) (t : TT) : Prop where h : PF X es t
structure QP (X : Cx) (pos : Pos) (ks : List (Option Expr)) (vs : List Expr) (t : List (TE × TE)) : Prop where h : PPs X pos ks vs t
section
variable {X : Cx} {a b c e o i : Expr} {es : List Expr} {ta tb tc te td ty tx tv to ti : TE} {t t' : TT} {tr : TA} {pos p p2 pos' apos cpos : Pos} {x y : Str}
theorem qv (i : Nat) {x : Str} {pos : Pos} (hN : X.N[i]? = some x := by rfl) (hv : Vis X.env.scope x := by first | exact Or.inl rfl | exact Or.inr (Or.inl rfl) | exact Or.inr (Or.inr rfl)) (hd : (x == ("__debug__" : Str)) = false := by decide)
    (hcd : (x == ("__classdict__" : Str)) = false := by decide) : QE X (.Name x pos) (tVar i) := ⟨pe_var hN hv hd hcd⟩
theorem qe_int {n : Int} {j : Nat} : QE X (.Constant (.int n) j pos) (tC (.int n)) := ⟨pe_int⟩
theorem qe_bl {n : Bool} {j : Nat} : QE X (.Constant (.bool n) j pos) (tC (.bl n)) := ⟨pe_bl⟩
theorem qe_non {j : Nat} : QE X (.Constant .none j pos) (tC .non) := ⟨pe_non⟩
theorem qe_str {n : Str} {j : Nat} : QE X (.Constant (.str n) j pos) (tC (.str n)) := ⟨pe_str⟩
theorem qe_glob {v : V} {u : Value} (hg : Gl X x) (hm : X.mg x = some u) (r : RelV v u) (hd : (x == ("__debug__" : Str)) = false := by decide) : QE X (.Name x pos) (tC v) := ⟨pe_glob hg hm r hd⟩
theorem qe_bltn {v : V} {u : Value} (hg : Gl X x) (hm : X.mg x = none) (hv : bootBuiltins x = some u) (r : RelV v u) (hn : x ≠ "__name__" := by decide) (hd : (x == ("__debug__" : Str)) = false := by decide) : QE X (.Name x pos) (tC v) := ⟨pe_bltn hg hm hv r hn hd⟩
theorem qe_op {op : Operator} {r : R2} (ho : OpR X (binaryOp op) r) (ha : QE X a ta) (hb : QE X b tb) : QE X (.BinOp a op b pos) (tOp r ta tb) := ⟨pe_op ho ha.h hb.h⟩
theorem qe_not (ha : QE X a ta) : QE X (.UnaryOp .Not a pos) (tNotV ta) := ⟨pe_not ha.h⟩
theorem qe_one {op : BoolOp} (h : QE X a ta) : QE X (.BoolOp op [a] pos) ta := ⟨pe_one h.h⟩
theorem qe_and {rest : List Expr} (ha : QE X a ta) (hb : QE X (.BoolOp .And (b :: rest) pos) tb) : QE X (.BoolOp .And (a :: b :: rest) pos) (tAndV ta tb) := ⟨pe_and ha.h hb.h⟩
theorem qe_or {rest : List Expr} (ha : QE X a ta) (hb : QE X (.BoolOp .Or (b :: rest) pos) tb) : QE X (.BoolOp .Or (a :: b :: rest) pos) (tOrV ta tb) := ⟨pe_or ha.h hb.h⟩
theorem qe_ifExp (hc : QT X c t) (ha : QE X a ta) (hb : QE X b tb) : QE X (.IfExp c a b pos) (tIf t ta tb) := ⟨pe_ifExp hc.h ha.h hb.h⟩
theorem qe_tup {x1} (h : QA X es tr) : QE X (.Tuple es x1 pos) (tTup tr) := ⟨pe_tup h.h⟩
theorem qe_lst (h : QA X es tr) : QE X (.List es pos) (tLst tr) := ⟨pe_lst h.h⟩
theorem qe_dnewK : QE X (.Dict [] [] pos) tDNewK := ⟨pe_dnewK⟩
theorem qps_nil : QP X pos [] [] [] := ⟨pps_nil⟩
theorem qps_cons {k v : Expr} {ks : List (Option Expr)} {vs : List Expr} {tk : TE} {trs : List (TE × TE)} (hk : QE X k tk) (hv : QE X v tv) (hr : QP X pos ks vs trs) : QP X pos (some k :: ks) (v :: vs) ((tk, tv) :: trs) := ⟨pps_cons hk.h hv.h hr.h⟩
theorem qe_disp {ks : List (Option Expr)} {vs : List Expr} {trs : List (TE × TE)} (h : QP X pos ks vs trs) (hall : ks.all (·.isSome) = true) (hl : ks.length = vs.length) (h0 : ks ≠ []) (h15 : ks.length ≤ 15) : QE X (.Dict ks vs pos) (tDisp trs) := ⟨pe_disp h.h hall hl h0 h15⟩
theorem qo_none : QO X none tNoPart := ⟨po_none⟩
theorem qo_some (h : QE X e te) : QO X (some e) (tPart te) := ⟨po_some h.h⟩
theorem qe_slice {r : V → Option Int → Option Int → Hp → VK → Prop} {lo hi : Option Expr} {tl th : TO} (hr : SlR X r) (he : QE X e te) (hl : QO X lo tl) (hu : QO X hi th) : QE X (.Subscript e (.Slice lo hi none p2) pos) (tSl r te tl th) := ⟨pe_slice hr he.h hl.h hu.h⟩
theorem qe_ix {r : R2} (hr : IxR X r) (ha : QE X a ta) (hb : QE X b tb) (hs : PlainIx b) : QE X (.Subscript a b pos) (tOp r ta tb) := ⟨pe_ix hr ha.h hb.h hs⟩
theorem qe_dget2 {f : Expr} (hu : X.A.units + 1 < cLine) (ho : QE X o td) (he : QE X e ty) (hf : QE X f tx) (m : M2 X o "get" apos e f cpos) : QE X (.Call (.Attribute o "get" apos) [e, f] [] cpos) (tDGet2 td ty tx) := ⟨pe_dget2 hu ho.h he.h hf.h m⟩
theorem qa_nil : QA X [] tNil := ⟨pa_nil⟩
theorem qk (ha : QE X e te) (hr : QA X es tr) (hs : noStar e = true := by rfl) : QA X (e :: es) (tCons te tr) := ⟨pk ha.h hr.h hs⟩
variable {k j : Nat} {ps : List Str} {sp : Sp} {id T : String} {r : List V → Hp → VK → Prop}
theorem qd (D : DefOk X.prog X.w X.K X.mg X.base x j ps sp) (hr : Room k X.A) (hg : Gl X x) (hj : j ≤ k) (ha : QA X (e :: es) tr) (hdb : (x == ("__debug__" : Str)) = false := by decide) (he : noStar e = true := by rfl) (hpl : es.all noStar = true := by rfl) :
    QE X (.Call (.Name x p) (e :: es) [] pos) (tCall sp [] E0 tr) := ⟨kd D hr hg hj ha.h hdb he hpl⟩
theorem qB (hc : CallR X (.builtin id) r) (hg : Gl X x) (hm : X.mg x = none) (hv : bootBuiltins x = some (.builtin id)) (ha : QA X (e :: es) tr) (hn : x ≠ "__name__" := by decide) (hdb : (x == ("__debug__" : Str)) = false := by decide) (he : noStar e = true := by rfl) (hpl : es.all noStar = true := by rfl) :
    QE X (.Call (.Name x p) (e :: es) [] pos) (tCB r tr) := ⟨kB hc hg hm hv ha.h hn hdb he hpl⟩
theorem qT (hc : CallR X (.type T) r) (hg : Gl X x) (hm : X.mg x = none) (hv : bootBuiltins x = some (.type T)) (ha : QA X (e :: es) tr) (hn : x ≠ "__name__" := by decide) (hdb : (x == ("__debug__" : Str)) = false := by decide) (he : noStar e = true := by rfl) (hpl : es.all noStar = true := by rfl) :
    QE X (.Call (.Name x p) (e :: es) [] pos) (tCB r tr) := ⟨kT hc hg hm hv ha.h hn hdb he hpl⟩
theorem qe_bm {name : Str} {rm : V → List V → Hp → VK → Prop} (pa : PlainAttrs T) (slot : Slot T name id) (hty : typeOf (.builtin id) = pure (.type "method_descriptor")) (hm : MtR X id rm) (ho : QE X o to) (ha : QA X [e] tr)
    (hbase : attributeBase o name X.env (eval o X.env) = eval o X.env := by rfl) (hline : (apos.endLine == cpos.line) = true := by rfl) (hs : noStar e = true := by rfl) :
    QE X (.Call (.Attribute o name apos) [e] [] cpos) (tBM X.K T rm to tr) := ⟨pe_bm pa slot hty hm ho.h ha.h hbase (by rw [star_cons hs]; rfl) hline (star_cons hs) rfl⟩
theorem qe_cmpR {op : CmpOp} {r : R2} (ho : OpR X (compareOp op) r) (ha : QE X a ta) (hb : QE X b tb) (hm : behindInMarks op b = false) : QE X (.Compare a [op] [b] pos) (tOp r ta tb) := ⟨pe_cmpR ho ha.h hb.h hm⟩
theorem qt_cmpR {op : CmpOp} {r : R2} (ho : OpR X (compareOp op) r) (ha : QE X a ta) (hb : QE X b tb) (hm : behindInMarks op b = false) : QT X (.Compare a [op] [b] pos) (tTest (tOp r ta tb)) := ⟨pt_cmpR ho ha.h hb.h hm⟩
theorem qe_isN {j : Nat} (ha : QE X a ta) : QE X (.Compare a [.Is] [.Constant .none j pos'] pos) (tIsN ta) := ⟨pe_cmp (pc_isN ha.h)⟩
theorem qt_isN {j : Nat} (ha : QE X a ta) : QT X (.Compare a [.Is] [.Constant .none j pos'] pos) (tB (tIsN ta)) := ⟨pt_cmp (pc_isN ha.h)⟩
theorem qt_notN {j : Nat} (ha : QE X a ta) : QT X (.Compare a [.IsNot] [.Constant .none j pos'] pos) (tB (tNotN ta)) := ⟨pt_cmp (pc_notN ha.h)⟩
theorem qw_and1 (ha : QT X a t) : QW X (.BoolOp .And [a] pos) t := ⟨pw_and1 ha.h⟩
theorem qw_or1 (ha : QT X a t) : QW X (.BoolOp .Or [a] pos) t := ⟨pw_or1 ha.h⟩
theorem qw_and {rest : List Expr} (ha : QT X a t) (hb : QW X (.BoolOp .And (b :: rest) pos) t') : QW X (.BoolOp .And (a :: b :: rest) pos) (tAnd t t') := ⟨pw_and ha.h hb.h⟩
theorem qw_or {rest : List Expr} (ha : QT X a t) (hb : QW X (.BoolOp .Or (b :: rest) pos) t') : QW X (.BoolOp .Or (a :: b :: rest) pos) (tOr t t') := ⟨pw_or ha.h hb.h⟩
theorem QW.pt (h : QW X e t) : QT X e t := ⟨h.h.pt⟩
theorem qt_not (ha : QT X a t) : QT X (.UnaryOp .Not a pos) (tNot t) := ⟨pt_not ha.h⟩
theorem qt_val (h : QE X e te) (he : ∀ whole, isTrue e X.env whole = (do let v ← whole; standAt e.pos; holding [v] (truthy v)) := by intro _; rfl) : QT X e (tB te) := ⟨pt_val h.h he⟩
theorem qg_name {i : Nat} (hN : X.N.Nodup) (hi : X.N[i]? = some x) (hx : Loc X.env.scope x) (hf : X.fn x = true ∨ X.env.scope.names.lookup x = some .local := by first | exact .inl rfl | exact .inr rfl | assumption) : QG X (.Name x pos) (gName i) := ⟨pg_name hN hi hx hf⟩
theorem qgs_nil : QGs X [] gNil := ⟨pgs_nil⟩
theorem qgs_cons {t : TG} {u : TGs} (h1 : QG X e t) (h2 : QGs X es u) (hs : (assignEach (e :: es) X.env).map (·.2) = assign e X.env :: (assignEach es X.env).map (·.2) := by rfl) : QGs X (e :: es) (gCons t u) := ⟨pgs_cons h1.h h2.h hs⟩
theorem qg_tup {k : Nat} {t : TGs} {n : Nat} (hc : X.calm = true) (h : QGs X es t) (hn : (assignEach es X.env).length = n := by rfl) (hst : (assignEach es X.env).findIdx? (·.1) = none := by rfl) : QG X (.Tuple es k pos) (gTup X.K n t) := ⟨pg_tup hc h.h hn hst⟩
variable {tg iter l : Expr} {wi : TI} {g : TG} {ta' : TA}
theorem qf_nil : QF X [] tTrue := ⟨pf_nil⟩
theorem qf_one (h : QT X c t) : QF X [c] t := ⟨pf_one h.h⟩
variable {scope : Scope} {ifs : List Expr} {body rest : List Stmt} {spos py : Pos} {tb' ts us : TS} {st : Stmt}
theorem qe_lcomp (vars : List Str) (hc : X.calm = true) (hx : ∀ v s, ¬ X.xe v s) (hkind : scope.kind = .function) (hlc : lcOk scope.names X.env.scope.names X.N vars = true) (hi : QI X tg iter wi)
    (hb : ∀ cl C s₀ H₀ ex pn, QG (blk X vars scope cl C s₀ H₀ ex pn) tg g ∧ QF (blk X vars scope cl C s₀ H₀ ex pn) ifs t ∧ QE (blk X vars scope cl C s₀ H₀ ex pn) e te) (hgk : GK X.N.length g)
    (hs : ∀ x, foldedSetIterable iter X.env x = pure x := by intro _; rfl) : QE X (.ListComp e [⟨tg, iter, ifs, 0⟩] scope pos) (tLC vars.length wi g t te) :=
  ⟨pe_lcomp vars hc hx hkind hlc hi.h (fun cl C s₀ H₀ ex pn => let ⟨h1, h2, h3⟩ := hb cl C s₀ H₀ ex pn; ⟨h1.h, h2.h, h3.h⟩) hgk hs⟩
theorem qs_lcomp (vars : List Str) (i : Nat) (hc : X.calm = true) (hx : ∀ v s, ¬ X.xe v s) (hkind : scope.kind = .function) (hlc : lcOk scope.names X.env.scope.names X.N vars = true) (hN : X.N.Nodup) (hiy : X.N[i]? = some y) (hy : Loc X.env.scope y) (hi : QI X tg iter wi)
    (hb : ∀ cl C s₀ H₀ ex pn, QG (blk X vars scope cl C s₀ H₀ ex pn) tg g ∧ QF (blk X vars scope cl C s₀ H₀ ex pn) ifs t ∧ QE (blk X vars scope cl C s₀ H₀ ex pn) e te) (hgk : GK X.N.length g)
    (hsw : swapsWith (.ListComp e [⟨tg, iter, ifs, 0⟩] scope pos) (some (.Name y py)) spos.line X.env = pure true := by rfl) (hs : ∀ x, foldedSetIterable iter X.env x = pure x := by intro _; rfl)
    (hf : X.fn y = true ∨ X.env.scope.names.lookup y = some .local := by first | exact .inl rfl | exact .inr rfl | assumption) :
    QS X (.Assign [.Name y py] (.ListComp e [⟨tg, iter, ifs, 0⟩] scope pos) spos) (tSetLC vars.length i wi g t te) :=
  ⟨ps_lcomp vars i hc hx hkind hlc hN hiy hy hi.h (fun cl C s₀ H₀ ex pn => let ⟨h1, h2, h3⟩ := hb cl C s₀ H₀ ex pn; ⟨h1.h, h2.h, h3.h⟩) hgk hsw hs hf⟩
theorem qs_set {i : Nat} (hN : X.N.Nodup) (hi : X.N[i]? = some x) (hx : Loc X.env.scope x) (he : QE X e te) (hs : swapsWith e (some (.Name x pos')) pos.line X.env = pure false := by rfl) (hf : X.fn x = true ∨ X.env.scope.names.lookup x = some .local := by first | exact .inl rfl | exact .inr rfl | assumption) :
    QS X (.Assign [.Name x pos'] e pos) (tAsg te (gName i)) := ⟨ps_set hN hi hx he.h hs hf⟩
theorem qs_asg (he : QE X e te) (hg : QG X tg g) (hs : swapsWithSole [tg] e pos.line X.env = pure false := by rfl) (hw : swappedStores [tg] e X.env = pure none := by rfl) (h1 : (assignEach [tg] X.env).map (·.2) = [assign tg X.env] := by rfl) : QS X (.Assign [tg] e pos) (tAsg te g) := ⟨ps_asg he.h hg.h hs hw h1⟩
theorem qs_if {A B : List Stmt} (hc : QT X c t) (ha : QSs X A ts) (hb : QSs X B us) : QS X (.If c A B pos) (tIfS t ts us) := ⟨ps_if hc.h ha.h hb.h⟩
theorem qs_for (hp : PassesOwn (model X.prog X.w) X.A X.env X.xe) (hc : X.calm = true) (hi : QI X tg iter wi) (hg : QG X tg g) (hb : QSs X body tb') (hs : ∀ x, foldedSetIterable iter X.env x = pure x := by intro _; rfl) : QS X (.For tg iter body [] pos) (tFor wi g tb') := ⟨ps_for hp hc hi.h hg.h hb.h hs⟩
theorem qs_while (hp : PassesOwn (model X.prog X.w) X.A X.env X.xe) (hc : QT X c t) (hb : QSs X body tb') : QS X (.While c body [] pos) (tWhile t tb') := ⟨ps_while hp hc.h hb.h⟩
theorem qs_expr (he : QE X e te) (hs : swapsWith e none pos.line X.env = pure false := by rfl) : QS X (.Expr e pos) (tDrop te) := ⟨ps_expr he.h hs⟩
theorem qs_ret (he : QE X e te) : QS X (.Return (some e) pos) (tRet te) := ⟨ps_ret he.h⟩
theorem qss_nil : QSs X [] tNext := ⟨pss_nil⟩
theorem qss_cons (h1 : QS X st ts) (h2 : QSs X rest us) : QSs X (st :: rest) (tSeq ts us) := ⟨pss_cons h1.h h2.h⟩
theorem qss_one (h1 : QS X st ts) : QSs X [st] ts := ⟨pss_one h1.h⟩
end
theorem At.okQ {P : Program} {w : World} {K : PySem.W.Frag} {mg : Str → Option Value} {base : Heap} {x : Str} {st : Stmt} {N ps : List Str} {k : Nat} {sp : Sp} (a : At K mg x st) (S : FnScope N ps (defScope st))
    (hb : ∀ (kV doc pm : Value) (an : Option Addr) (cdv ct : Value) (us : List Value), us.length = ps.length → bindArgs (PySem.W.fnOf x x (defArgs st) (defBody st) (defScope st) .none kV doc pm an cdv ct) ⟨us, []⟩ = pure (ps.zip us))
    (len : ∀ vs H Q E, sp vs H Q E → vs.length = ps.length)
    (hbody : ∀ (f : Addr) (cdv : Value) (A : Around) (outer : List Env) (s : Shared) (H : Hp) (vs : List V) (Q : VK) (E : XK), Room k (A.deeper (envOfC x (defScope st) s.heap.objs.size f cdv)) → sp vs H Q E →
      ∃ t, QSs (cxOf CX0 P w K mg base N x (defScope st) f cdv A outer s H E).nox (defBody st) t ∧ t { nx := fun _ H' => Q .non H', rt := Q } (start N vs) H) : DefOk P w K mg base x (k + 1) ps sp :=
  a.ok S hb len fun f cdv A outer s H vs Q E hr h => let ⟨t, q, z⟩ := hbody f cdv A outer s H vs Q E hr h; ⟨t, q.h, z⟩
end L2
end
section
open PySem PySem.W PyProof.Rows
namespace L2
open PySem PySem.Spec PyProof.Rows
theorem cut_from {xs : List V} {r : Int} (h : 0 ≤ r) : cutV xs (some r) none = xs.drop r.toNat := by
  have e : r = ((r.toNat : Nat) : Int) := by omega
  unfold cutV
  rw [e, HT.sIx_nat, HT.sIx_none]
  simp only [Int.toNat_natCast]
  rcases Nat.le_total r.toNat xs.length with z | z
  · rw [Nat.min_eq_left z]; exact List.take_of_length_le (by rw [List.length_drop]; omega)
  · rw [Nat.min_eq_right z, List.drop_eq_nil_of_le (Nat.le_refl _), List.drop_eq_nil_of_le z]; simp
theorem cut_to {xs : List V} {r : Int} (h : 0 ≤ r) : cutV xs none (some r) = xs.take r.toNat := by
  have e : r = ((r.toNat : Nat) : Int) := by omega
  unfold cutV
  rw [e, HT.sIx_nat, HT.sIx_none]
  simp only [Int.toNat_natCast, List.drop_zero, Nat.sub_zero]
  rcases Nat.le_total r.toNat xs.length with z | z
  · rw [Nat.min_eq_left z]
  · rw [Nat.min_eq_right z, List.take_of_length_le (Nat.le_refl _), List.take_of_length_le z]
end L2
namespace L2
end L2
namespace L2
theorem ifF {c A B : Prop} [Decidable c] (hc : ¬ c) (h : B) : if c then A else B := by rw [if_neg hc]; exact h
end L2
namespace L2
open PySem PySem.Spec PyProof.Rows
noncomputable def LCb (k : Nat) (g : TG) (tt : TT) (te : TE) (σ : St) (Q : VK) (J : It) (H1 : Hp) : Prop := ∃ W : Nat → Nat → List V → Hp → Prop, (∃ m, W 0 m [] H1) ∧ ∀ i m ys H, W i m ys H →
  (J.stop i H ∧ ∀ p, H p = none → Q (.ref p) (upd H p (.lst ys))) ∨
  (J.go i H ∧ ys.length < sizeLine ∧ ∀ x H', J.yld i H x H' → g x (σ ++ List.replicate k none) H' fun σ2 H2 => tt σ2 H2 fun b H3 =>
    if b = true then te σ2 H3 fun y H4 => ∃ m', m' < m ∧ W (i + 1) m' (ys ++ [y]) H4 else ∃ m', m' < m ∧ W (i + 1) m' ys H3)
end L2
namespace L2
class MonoPs (trs : List (TE × TE)) : Prop where
  m : ∀ σ H Q Q', (∀ ps H1, Q ps H1 → Q' ps H1) → tPairs trs σ H Q → tPairs trs σ H Q'
instance : MonoPs [] := ⟨fun σ H Q Q' f q => f _ _ q⟩
instance {tk tv r} [MonoE tk] [MonoE tv] [MonoPs r] : MonoPs ((tk, tv) :: r) := ⟨fun σ H Q Q' f h => MonoE.m (t := tk) _ _ _ _ (fun x H1 h1 => MonoE.m (t := tv) _ _ _ _ (fun y H2 h2 => MonoPs.m (trs := r) _ _ _ _ (fun ps H3 h3 => f _ _ h3) h2) h1) h⟩
instance {trs} [MonoPs trs] : MonoE (tDisp trs) := ⟨fun σ H Q Q' f h p hp => MonoPs.m (trs := trs) _ _ _ _ (fun ps H2 ⟨a, kvs, b, c, q⟩ => ⟨a, kvs, b, c, f _ _ q⟩) (h p hp)⟩
end L2
namespace L2
end L2
namespace L2
open PySem PySem.Spec PyProof.Rows
theorem Fun.okQ {P : Program} {w : World} {K : PySem.W.Frag} {mg : Str → Option Value} {base : Heap} {x : Str} {st : Stmt} {f : Addr} {fd : FuncData} {N ps : List Str} {k : Nat} {sp : Sp} (F : Fun K x x st f fd) (S : FnScope N ps (defScope st)) (len : ∀ vs H Q E, sp vs H Q E → vs.length = ps.length)
    (hbody : ∀ (f : Addr) (cdv : Value) (A : Around) (outer : List Env) (s : Shared) (H : Hp) (vs : List V) (Q : VK) (E : XK), Room k (A.deeper (envOfC x (defScope st) s.heap.objs.size f cdv)) → sp vs H Q E →
      ∃ t, QSs (cxOf CX0 P w K mg base N x (defScope st) f cdv A outer s H E).nox (defBody st) t ∧ t { nx := fun _ H' => Q .non H', rt := Q } (start N vs) H) : FnOk P w K mg base CX0 (k + 1) f fd ps sp :=
  F.ok S len fun cdv A outer s H vs Q E hr h => let ⟨t, q, z⟩ := hbody f cdv A outer s H vs Q E hr h; ⟨t, q.h, z⟩
theorem sqF_of {K : PySem.W.Frag} {H : Hp} {a : Addr} {xs : List V} (o : Only H) (h : SqL K H a xs) : SqF K H a xs := by
  rcases h with (h | ⟨u, h⟩) | h
  · rcases o a with z | ⟨u, ys, z⟩ <;> (rw [h] at z; cases z)
  · exact .inl ⟨u, h⟩
  · exact .inr h
end L2
end
section
open PySem PySem.W PyProof.Rows
namespace L2
open PySem PySem.Spec PyProof.Rows
noncomputable def KD (P : Program) (w : World) (K : PySem.W.Frag) (a : Addr) (kvs : List (Key × V)) : Prop := (a == sysModules) = false ∧
  ∃ (o : Obj) (es : Array DictEntry) (ep : Nat) (vs : List (Key × Value)), K.lookup a = some o ∧ o.ExactDict ∧ o.data = .dict es ep ∧ PySem.KeysOf (mixKind P w) es ∧ Pairs (mixKind P w) es.toList vs ∧ (vs.map (·.1)).Nodup ∧ KV kvs vs
noncomputable def tKGet (kvs : List (Key × V)) (ty : TE) : TE := fun σ H Q => ty σ H fun y H2 => ∃ k v, y = kV k ∧ valV kvs k = some v ∧ Q v H2
noncomputable def tKIn (kvs : List (Key × V)) (ty : TE) : TE := fun σ H Q => ty σ H fun y H2 => ∃ k, y = kV k ∧ Q (.bl (valV kvs k).isSome) H2
noncomputable def tKNotIn (kvs : List (Key × V)) (ty : TE) : TE := fun σ H Q => ty σ H fun y H2 => ∃ k, y = kV k ∧ Q (.bl (!(valV kvs k).isSome)) H2
instance {kvs ty} [MonoE ty] : MonoE (tKGet kvs ty) := ⟨fun σ H Q Q' f h => MonoE.m (t := ty) _ _ _ _ (fun y H2 ⟨k, v, a, b, q⟩ => ⟨k, v, a, b, f _ _ q⟩) h⟩
instance {kvs ty} [MonoE ty] : MonoE (tKIn kvs ty) := ⟨fun σ H Q Q' f h => MonoE.m (t := ty) _ _ _ _ (fun y H2 ⟨k, a, q⟩ => ⟨k, a, f _ _ q⟩) h⟩
instance {kvs ty} [MonoE ty] : MonoE (tKNotIn kvs ty) := ⟨fun σ H Q Q' f h => MonoE.m (t := ty) _ _ _ _ (fun y H2 ⟨k, a, q⟩ => ⟨k, a, f _ _ q⟩) h⟩
section
variable {X : Cx} {o i : Expr} {pos : Pos} {ty : TE} {a : Addr} {kvs : List (Key × V)}
end
end L2
namespace L2
open PySem PySem.Spec PyProof.Rows
theorem boolsAre_of {bs : List Bool} : ∀ {us : List Value}, Vals (bs.map V.bl) us → LSm.BoolsAre us bs := by
  induction bs with
  | nil => intro us h; cases h; exact .nil
  | cons b r ih =>
    intro us h
    cases h with
    | cons hx ht =>
      cases (show _ = Value.bool b from hx)
      exact .cons _ (ih ht)
theorem iter_kept {s : Shared} {h' : Heap} {o : Obj} (hk : ∀ b x, b ∉ [s.heap.objs.size] → (s.heap.push o).get? b = some x → h'.get? b = some x) : ∀ b x, s.heap.get? b = some x → h'.get? b = some x :=
  fun b x e => hk b x (by intro z; rw [List.mem_singleton.mp z] at e; exact absurd (Heap.lt_size e) (Nat.lt_irrefl _)) (Heap.get?_push_of_some _ e)
section
variable {X : Cx}
noncomputable def rAll (K : PySem.W.Frag) : List V → Hp → VK → Prop := fun xs H Q => ∃ (p : Addr) (bs : List Bool), xs = [.ref p] ∧ SqL K H p (bs.map V.bl) ∧ Q (.bl (bs.all id)) H
noncomputable def rAny (K : PySem.W.Frag) : List V → Hp → VK → Prop := fun xs H Q => ∃ (p : Addr) (bs : List Bool), xs = [.ref p] ∧ SqL K H p (bs.map V.bl) ∧ Q (.bl (bs.any id)) H
noncomputable def rSum (K : PySem.W.Frag) : List V → Hp → VK → Prop := fun xs H Q => ∃ (p : Addr) (ns : List Int), xs = [.ref p] ∧ SqL K H p (ns.map V.int) ∧ Q (.int ns.sum) H
instance {K} : MonoC (rAll K) := ⟨fun x H Q Q' f ⟨a, b, c, d, q⟩ => ⟨a, b, c, d, f _ _ q⟩⟩
instance {K} : MonoC (rAny K) := ⟨fun x H Q Q' f ⟨a, b, c, d, q⟩ => ⟨a, b, c, d, f _ _ q⟩⟩
instance {K} : MonoC (rSum K) := ⟨fun x H Q Q' f ⟨a, b, c, d, q⟩ => ⟨a, b, c, d, f _ _ q⟩⟩
theorem callAll (hc : X.calm = true) : CallR X (.builtin "all") (rAll X.K) := by
  intro pins s σ H xs us Q I r h
  obtain ⟨p, bs, rfl, hS, q⟩ := h
  obtain ⟨u, rfl, ru⟩ := vals1 r
  cases (show u = Value.ref p from ru)
  obtain ⟨its, hv, pl, hz⟩ := I.list hS
  have hl := pl.isList
  have hb := boolsAre_of hv
  have hlt : p < s.heap.objs.size := by obtain ⟨_, e, _⟩ := hl; exact Heap.lt_size e
  refine call_all_walk (wpAny_pyIter_list (items := its.toArray) hl ?_)
  refine ⟨s.heap.objs.size, [s.heap.objs.size, p], [s.heap.objs.size], its.toArray.size, _, _, fun i => (bs[i]?).getD true, rfl, Walks.list (A := X.A.in1) (I.ok.hd hc) _ p (Nat.ne_of_lt hlt) its.toArray, ⟨⟨_, Heap.get?_push_size _ rfl, rfl, rfl⟩, hl.push _⟩, ?_, ?_⟩
  · intro i v s' Q' E' hP hQ
    obtain ⟨b, e, rfl⟩ := hb.get i v (by simpa using hP)
    simp only [Option.getD_some, e] at hQ
    exact wpAny_truthy_bool hQ
  · intro h' tk hk
    rw [show ((List.range its.toArray.size).all fun i => (bs[i]?).getD true) = bs.all id by rw [List.size_toArray, hb.length]; exact LSm.range_all bs]
    exact ⟨.bl (bs.all id), H, I.kept (iter_kept hk), rfl, q⟩
end
end L2
namespace L2
open PySem PySem.Spec PyProof.Rows
noncomputable def Its (x : Str) : It := ⟨fun i _ => i < x.cps.size, fun i H v H' => H' = H ∧ ∃ c, x.cps[i]? = some c ∧ v = .str ⟨#[c]⟩, fun i _ => i = x.cps.size⟩
theorem turn_str {P : Program} {w : World} {K : PySem.W.Frag} {tg : Expr} {ty : String} (x : Str) (t : Tok) (it : Addr) (hty : ["enumerate", "zip", "dict_itemiterator", "dict_reverseitemiterator", "odict_iterator", "itertools.zip_longest", "itertools.pairwise"].contains ty = false)
    (W : ∀ A : Around, A.handled = none → Walks P w A it [it] [it] x.cps.size (SignAt x) (fun i h => h.IsStrIter it ty x t i)) (S : ∀ (A : Around) (i : Nat) (s : Shared) (Q : Value → Shared → Prop) (E : Value → Shared → Prop), s.heap.IsStrIter it ty x t i → Q (.ref it) s → wpAny (model P w) A (pyIter (.ref it)) Q E s) :
    Turn P w K tg (Its x) [it] it (fun i h => h.IsStrIter it ty x t i) where
  mem := by simp
  obj := fun i h st b hb => by
    have e : b = it := by simpa using hb
    subst e
    obtain ⟨o, e, c, d⟩ := st
    exact ⟨o, e, fun v z => by rw [d] at z; cases z⟩
  keep := fun i h h' st k => let ⟨o, e, r⟩ := st; ⟨o, k it (by simp) o e, r⟩
  item := by
    intro X hP hw hK hc i pins s σ H E I hf st hg
    subst hP hw hK
    obtain ⟨f0, f1, f2, f3, f4, f5⟩ := hf it (by simp)
    refine (W X.A (I.ok.hd hc)).item i s _ _ hg st fun v h' tk hv st' hk => ?_
    obtain ⟨c, u, hx, rfl⟩ := hv
    have I1 : Inv X pins σ H { s with heap := h', toks := tk } := I.turned (t' := tk) (fun b o hb e => hk b o (by simpa using hb) e) f0 f1 f3 f4 f5
    obtain ⟨o, e, cc, d⟩ := id st'
    exact ⟨_, rfl, go_of (s := { s with heap := h', toks := tk }) e cc d hty ⟨.str ⟨#[c]⟩, H, I1, ⟨_, rfl⟩, ⟨rfl, c, hx, rfl⟩, st', fun b hb => (hf b hb).1⟩⟩
  done := by
    intro X hP hw hK hc i pins s σ H E I hf st hg
    subst hP hw hK
    obtain ⟨f0, f1, f2, f3, f4, f5⟩ := hf it (by simp)
    have hi : i = x.cps.size := hg
    subst hi
    exact (W X.A (I.ok.hd hc)).done s _ _ st fun h' tk hk => ⟨rfl, I.turned (t' := tk) (fun b o hb e => hk b o (by simpa using hb) e) f0 f1 f3 f4 f5⟩
  self := fun A i s Q E st h => S A i s Q E st h
noncomputable def iStr (tl : TE) : TI := fun σ H R => tl σ H fun v H1 => ∃ x, v = .str x ∧ R (Its x) H1
instance {tl} [MonoE tl] : MonoI (iStr tl) := ⟨fun σ H Q Q' f h => MonoE.m (t := tl) _ _ _ _ (fun x H1 ⟨a, b, q⟩ => ⟨a, b, f _ _ q⟩) h⟩
theorem lcS {x : Str} {k : Nat} {g : TG} {tt : TT} {te : TE} [MonoG g] [MonoT tt] [MonoE te] {σ : St} {H : Hp} {Q : VK} (Pv : Nat → List V → Hp → Prop) (h0 : Pv 0 [] H) (hl : ∀ i ys H, i ≤ x.cps.size → Pv i ys H → ys.length ≤ i) (hz : x.cps.size ≤ sizeLine)
    (hs : ∀ i c ys H, x.cps[i]? = some c → Pv i ys H → g (.str ⟨#[c]⟩) (σ ++ List.replicate k none) H fun σ2 H2 => tt σ2 H2 fun b H3 => if b = true then te σ2 H3 fun y H4 => Pv (i + 1) (ys ++ [y]) H4 else Pv (i + 1) ys H3)
    (hd : ∀ ys H, Pv x.cps.size ys H → ∀ p, H p = none → Q (.ref p) (upd H p (.lst ys))) : LCb k g tt te σ Q (Its x) H := by
  refine ⟨fun i m ys H => m = x.cps.size - i ∧ i ≤ x.cps.size ∧ Pv i ys H, ⟨x.cps.size, by simp, Nat.zero_le _, h0⟩, ?_⟩
  rintro i m ys H ⟨rfl, hi, p⟩
  have hy := hl i ys H hi p
  by_cases hlt : i < x.cps.size
  · refine .inr ⟨hlt, by omega, fun v H' y => ?_⟩
    obtain ⟨e, c, hc, rfl⟩ := y
    subst e
    refine MonoG.m (g := g) _ _ _ _ _ (fun σ2 H2 z => MonoT.m (t := tt) _ _ _ _ (fun b H3 z => ?_) z) (hs i c ys _ hc p)
    cases b with
    | true =>
      rw [if_pos rfl] at z ⊢
      exact MonoE.m (t := te) _ _ _ _ (fun v H4 w => ⟨x.cps.size - (i + 1), by omega, rfl, hlt, w⟩) z
    | false =>
      rw [if_neg Bool.false_ne_true] at z ⊢
      exact ⟨x.cps.size - (i + 1), by omega, rfl, hlt, z⟩
  · have e : i = x.cps.size := by omega
    subst e
    exact .inl ⟨rfl, hd ys H p⟩
end L2
end
section
open PySem PySem.W PyProof.Rows
namespace L2
open PySem PySem.Spec PyProof.Rows
noncomputable def rEqNil (K : PySem.W.Frag) : R2 := fun x y H Q => ∃ p q xs, x = .ref p ∧ y = .ref q ∧ SqL K H p xs ∧ SqL K H q [] ∧ Q (.bl xs.isEmpty) H
instance {K} : MonoR (rEqNil K) := ⟨fun x y H Q Q' f ⟨a, b, c, d, e, g, h, q⟩ => ⟨a, b, c, d, e, g, h, f _ _ q⟩⟩
instance {r r' ta tb tc} [MonoR r] [MonoR r'] [MonoE ta] [MonoE tb] [MonoE tc] : MonoE (tChain r r' ta tb tc) := ⟨fun σ H Q Q' f h => MonoE.m (t := ta) _ _ _ _ (fun x H1 h1 => MonoE.m (t := tb) _ _ _ _ (fun y H2 h2 => MonoR.m (r := r) _ _ _ _ _ (fun z H3 ⟨k, e, q⟩ => ⟨k, e, ite_mono (MonoE.m (t := tc) _ _ _ _ fun w' H4 h4 => MonoR.m (r := r') _ _ _ _ _ f h4) (f _ _) q⟩) h2) h1) h⟩
section
variable {X : Cx}
end
end L2
namespace L2
open PySem PySem.Spec PyProof.Rows
noncomputable def cutAt (x y : Str) : List Str := Builtin.Str.partsBetween x (Builtin.Str.occurrences x y 0 x.length (x.length + 1)) y.length
noncomputable def rSplit : V → List V → Hp → VK → Prop := fun v xs H Q => ∃ x y, v = .str x ∧ xs = [.str y] ∧ (decide (x.length < y.length) || decide (Builtin.Str.strKind x < Builtin.Str.strKind y)) = false ∧ (y.length == 0) = false ∧
  (Builtin.Str.occurrences x y 0 x.length (x.length + 1)).isEmpty = false ∧ x.length ≤ sizeLine ∧ (cutAt x y).length ≤ sizeLine ∧ ∀ p, H p = none → Q (.ref p) (upd H p (.lst ((cutAt x y).map V.str)))
instance : MonoM rSplit := ⟨fun x xs H Q Q' f ⟨a, b, c, d, e, g, h, i, j, q⟩ => ⟨a, b, c, d, e, g, h, i, j, fun p hp => f _ _ (q p hp)⟩⟩
end L2
namespace L2
open PySem PySem.Spec PyProof.Rows
end L2
namespace L2
open PySem PySem.Spec PyProof.Rows
end L2
end
section
open PySem PySem.W PyProof.Rows
namespace L2
open PySem PySem.Spec PyProof.Rows
theorem dict_declines (l : Addr) (o : Obj) (b : Str) (u : Tok) :
    Meets (Builtin.«dict.__eq__» ⟨[.ref l, .str b u], []⟩) (fun _ R s => s.heap.get? l = some o ∧ R (.ok (.ret .notImplemented)) s) :=
  .of_wp fun prog w A R s h => by
    obtain ⟨hp, g, d, tk, os⟩ := s; obtain ⟨hl, h⟩ := h; have f1 := PySem.F.sub_str_dict; wp_walk; exact ⟨_, rfl, h⟩
theorem str_declines (b : Str) (u : Tok) (l : Addr) (c : Value) (es : Array DictEntry) (ep : Nat) (dd : Option Addr) (sl : Array (Option Value)) :
    Meets (Builtin.«str.__eq__» ⟨[.str b u, .ref l], []⟩) (fun _ R s => s.heap.get? l = some { cls := c, dict := dd, data := .dict es ep, slots := sl } ∧ R (.ok (.ret .notImplemented)) s) :=
  .of_wp fun prog w A R s h => by obtain ⟨hp, g, d, tk, os⟩ := s; obtain ⟨hl, h⟩ := h; wp_walk using AutoSeq1.wpAny_loadPart' hl, wpAny_load hl; exact ⟨_, rfl, h⟩
theorem rc_dict_str {A : Around} {s : Shared} {l : Addr} {o : Obj} {es : Array DictEntry} {ep : Nat} (b : Str) (u : Tok) (hl : s.heap.get? l = some o) (hx : o.ExactDict) (hd : o.data = .dict es ep) (hu : A.units < cLine) : SeqAt.RcAt A s (.ref l) (.str b u) false := fun prog w E Q h => by
  obtain ⟨cls, dd, data, sl⟩ := o
  have hc : cls = .type "dict" := hx.1
  simp only at hd
  subst hc hd
  exact SeqAt.rc_eq_decline_or (k := false) ⟨_, hl, rfl⟩ (typeIs_str s b u) (by decide) PySem.F.sub_str_dict PySem.F.slot_dict_eq PySem.F.slot_str_eq_refl
    (fun _ hq => call_meets PySem.F.slot_dict_eq ⟨_, hl, rfl⟩ PySem.F.entry_dict_eq (PySem.F.args_dict_eq_2 _ _) (dict_declines l _ b u) ⟨hl, hq⟩)
    (fun _ hq => call_meets PySem.F.slot_str_eq_refl (typeIs_str s b u) PySem.F.entry_str_eq (PySem.F.args_str_eq_2 _ _) (str_declines b u l (.type "dict") es ep dd sl) ⟨hl, hq⟩)
    (fun _ z => wpAny_of_eq (show isSame (.ref l) (.str b u) = pure false from rfl) z) (.inr hu) h
noncomputable def rEqRS (K : PySem.W.Frag) : R2 := fun x y H Q => ∃ p z, x = .ref p ∧ y = .str z ∧ ((∃ xs, SqL K H p xs) ∨ (∃ xs, SqT K H p xs) ∨ ∃ kvs, H p = some (.dK kvs)) ∧ Q (.bl false) H
noncomputable def rEqT0 (K : PySem.W.Frag) : R2 := fun x y H Q => ∃ p q xs, x = .ref p ∧ y = .ref q ∧ SqT K H p xs ∧ SqT K H q [] ∧ Q (.bl xs.isEmpty) H
noncomputable def rSlW (K : PySem.W.Frag) : V → Option Int → Option Int → Hp → VK → Prop := fun x lo hi H Q => ∃ a xs, x = .ref a ∧ SqT K H a xs ∧ (HT.sIx xs.length 0 lo = 0 ∧ HT.sIx xs.length xs.length hi = xs.length) ∧ Q (.ref a) H
noncomputable def rCat0 (K : PySem.W.Frag) : R2 := fun x y H Q => ∃ a b ys, x = .ref a ∧ y = .ref b ∧ SqT K H a [] ∧ SqT K H b ys ∧ Q (.ref b) H
noncomputable def rMul2 (K : PySem.W.Frag) : R2 := fun x y H Q => ∃ a xs, x = .ref a ∧ y = .int 2 ∧ SqT K H a xs ∧ xs.length ≤ 1000 ∧ (xs = [] → Q (.ref a) H) ∧ (xs ≠ [] → ∀ p, H p = none → Q (.ref p) (upd H p (.tup (xs ++ xs))))
noncomputable def rCatS : R2 := fun x y H Q => ∃ a b, x = .str a ∧ y = .str b ∧ a.length + b.length ≤ sizeLine ∧ Q (.str (a ++ b)) H
instance {K} : MonoR (rEqRS K) := ⟨fun x y H Q Q' f ⟨a, b, c, d, e, q⟩ => ⟨a, b, c, d, e, f _ _ q⟩⟩
instance {K} : MonoR (rEqT0 K) := ⟨fun x y H Q Q' f ⟨a, b, c, d, e, g, h, q⟩ => ⟨a, b, c, d, e, g, h, f _ _ q⟩⟩
instance {K} : MonoL (rSlW K) := ⟨fun x l u H Q Q' f ⟨a, xs, e, s, z, q⟩ => ⟨a, xs, e, s, z, f _ _ q⟩⟩
instance {K} : MonoR (rCat0 K) := ⟨fun x y H Q Q' f ⟨a, b, c, d, e, g, h, q⟩ => ⟨a, b, c, d, e, g, h, f _ _ q⟩⟩
instance {K} : MonoR (rMul2 K) := ⟨fun x y H Q Q' f ⟨a, b, c, d, e, g, q1, q2⟩ => ⟨a, b, c, d, e, g, fun z => f _ _ (q1 z), fun z p hp => f _ _ (q2 z p hp)⟩⟩
instance : MonoR rCatS := ⟨fun x y H Q Q' f ⟨a, b, c, d, e, q⟩ => ⟨a, b, c, d, e, f _ _ q⟩⟩
theorem noFill_tuple_mul : fillsNumberSlot (.type "tuple") "mul" = pure false :=
  PySem.fillsNumberSlot_seq (id := "tuple.__mul__") (r := some (.builtin "tuple.__rmul__")) PySem.F.slot_tuple_mul.lookup (by decide +kernel) PySem.F.slot_tuple_rmul.lookup (by decide +kernel)
theorem repeat_tuple : seqRepeat? (.type "tuple") = pure (some (.builtin "tuple.__mul__")) := by
  unfold seqRepeat?
  rw [PySem.seqSlot_of (T := "tuple") (name := "__mul__") (id := "tuple.__mul__") PySem.F.slot_tuple_mul.lookup (by decide +kernel), PySem.seqSlot_of (T := "tuple") (name := "__rmul__") (id := "tuple.__rmul__") PySem.F.slot_tuple_rmul.lookup (by decide +kernel)]
  rfl
theorem int_rmul_tuple (a : Int) (t : Tok) (l : Addr) (items : Array Value) (n : Nat) (dd : Option Addr) (sl : Array (Option Value)) :
    Meets (Builtin.«int.__rmul__» ⟨[.int a t, .ref l], []⟩) (fun _ R s => s.heap.get? l = some { cls := .type "tuple", dict := dd, data := .seq items n, slots := sl } ∧ R (.ok (.ret Value.notImplemented)) s) :=
  .of_wp fun prog w A R s h => by obtain ⟨hp, g, d, tk, os⟩ := s; obtain ⟨hl, h⟩ := h; wp_walk using AutoSeq1.wpAny_loadPart' hl, wpAny_load hl; exact ⟨_, rfl, h⟩
theorem getItem_whole {prog : Program} {w : World} {A : Around} {E : Value → Shared → Prop} {s : Shared} {t sl : Addr} {items : Array Value} {vl vu : Value} {lo hi : Option Int} {Q : Value → Shared → Prop} (ht : IsTup s.heap t items) (hs : s.heap.IsSliceOf sl vl vu .none) (pl : IsPart vl lo) (pu : IsPart vu hi)
    (hw : HT.sIx items.size 0 lo = 0 ∧ HT.sIx items.size items.size hi = items.size) (h : Q (.ref t) s) : wpAny (model prog w) A (getItem (.ref t) (.ref sl)) Q E s := by
  obtain ⟨os, hos, hcs, hds⟩ := id hs
  have hTs : s.TypeIs (.ref sl) "slice" := ⟨os, hos, hcs⟩
  unfold getItem
  try with_reducible refine wpAny_holding ?_
  first | refine wpAny_bind (wpAny_pure ?_) | skip
  refine wpAny_bind (wpAny_sequenceKey ht.typeIs (by decide) ?_)
  refine wpAny_bind (wpAny_callSpecial?_slot (name := Str.ofString "__getitem__") ht.typeIs PyProof.Rows.slot_tuple_getitem
    (wpAny_call_entry PyProof.Rows.slot_tuple_getitem ht.typeIs entry_tuple_getitem ?_ (args_tuple_getitem _ _)))
  show wpAny _ _ (Builtin.Tuple.tupleItemsOf (.ref t) >>= _) _ _ s
  refine wpAny_bind (tupleItemsOf_ ht ?_)
  refine wpAny_bind (wpAny_typeOf hTs ?_)
  rw [if_pos (by decide)]
  refine wpAny_bind (HT.sliceApplied_gen hs pl pu ?_)
  show wpAny _ _ (if (((HT.sIx items.size 0 lo : Nat) : Int) == 0 && (1 : Int) == 1 && (HT.sIx items.size items.size hi - HT.sIx items.size 0 lo) == items.size) = true then _ else _) _ _ s
  rw [if_pos (by rw [hw.1, hw.2]; simp)]
  refine wpAny_bind (m := Builtin.Tuple.tupleIsExact _) (wpAny_bind (wpAny_typeOf ht.typeIs (wpAny_pure ?_)))
  rw [if_pos (by decide)]
  exact wpAny_bind (wpAny_rule (wpAny_pure ⟨_, rfl, wpAny_pure h⟩))
section
variable {X : Cx}
theorem op_eqRS (hu : X.A.units < cLine) : OpR X (compareOp .Eq) (rEqRS X.K) := by
  intro pins s σ H x y v u Q I rx ry h
  obtain ⟨p, z, rfl, rfl, hp, hQ⟩ := h
  cases (show v = Value.ref p from rx)
  obtain ⟨t, rfl⟩ := ry
  have fin : EP X pins σ Q (.bool false) s := ⟨.bl false, H, I, rfl, hQ⟩
  rcases hp with ⟨xs, hp⟩ | ⟨xs, hp⟩ | ⟨kvs, hp⟩
  · obtain ⟨its, hv, pl, hz⟩ := I.list hp
    exact SeqAt.RcAt.list_str z t pl.isList hu _ _ _ _ fin
  · obtain ⟨its, hv, pl, hz⟩ := I.tuple hp
    exact SeqAt.RcAt.tuple_str z t pl hu _ _ _ _ fin
  · obtain ⟨_, _, vs, _, o, es, ep, e, hx, hd, _⟩ := dk_of I.hok hp
    exact rc_dict_str z t e hx hd hu _ _ _ _ fin
theorem sl_tupW : SlR X (rSlW X.K) := by
  intro pins s σ H x v vl vu lo hi sl Q I rx hs pl pu h
  obtain ⟨a, xs, rfl, hx, hw, q⟩ := h
  cases rx
  obtain ⟨its, r, ht, hz⟩ := I.tuple hx
  have hlen : its.toArray.size = xs.length := by rw [List.size_toArray]; exact r.length.symm
  refine ⟨"tuple", _, PyProof.Rows.slot_tuple_getitem.lookup, ht.typeIs, ?_⟩
  exact getItem_whole ht hs pl pu (by rw [hlen]; exact hw) ⟨.ref a, H, I, rfl, q⟩
theorem op_cat0 : OpR X (binaryOp .Add) (rCat0 X.K) := by
  intro pins s σ H x y v u Q I rx ry h
  obtain ⟨a, b, ys, rfl, rfl, ha, hb, q⟩ := h
  cases (show v = Value.ref a from rx)
  cases (show u = Value.ref b from ry)
  obtain ⟨its, r1, p1, _⟩ := I.tuple ha
  obtain ⟨its2, r2, p2, _⟩ := I.tuple hb
  have e1 : its = [] := by cases r1; rfl
  subst e1
  obtain ⟨⟨cls, dd, data, sl⟩, ho, hc, n, hd⟩ := id p1
  obtain ⟨⟨cls2, dd2, data2, sl2⟩, ho2, hc2, n2, hd2⟩ := id p2
  simp only at hc hd hc2 hd2
  subst hc hd hc2 hd2
  exact concat_meets ⟨_, ho, rfl⟩ ⟨_, ho2, rfl⟩ noFill_tuple_add seq_tuple_add PySem.F.slot_tuple_add PySem.F.entry_tuple_add (PySem.F.args_tuple_add_2 _ _)
    (tuple_addW0 a b _ _ n n2 dd dd2 sl sl2 rfl) ⟨ho, ho2, ⟨.ref b, H, I, rfl, q⟩⟩
theorem op_catS : OpR X (binaryOp .Add) rCatS := by
  intro pins s σ H x y v u Q I rx ry h
  obtain ⟨a, b, rfl, rfl, hz, q⟩ := h
  obtain ⟨t, rfl⟩ := rx
  obtain ⟨t', rfl⟩ := ry
  exact PyProof.Rows.add_str (fun t' tk => ⟨.str (a ++ b), H, I.tok _, ⟨_, rfl⟩, q⟩) hz
theorem opAddW : OpR X (binaryOp .Add) (fun x y H Q => (rI0 fun i j => .int (i + j)) x y H Q ∨ (rCat x y H Q ∨ (rCatT X.K x y H Q ∨ (rCat0 X.K x y H Q ∨ rCatS x y H Q)))) := op_add.or (op_cat.or (op_catT.or (op_cat0.or op_catS)))
theorem slB : SlR X (fun x lo hi H Q => rSlL X.K x lo hi H Q ∨ (rSlT X.K x lo hi H Q ∨ rSlW X.K x lo hi H Q)) := sl_list.or (sl_tup.or sl_tupW)
end
section
variable {X : Cx} {o i : Expr} {pos : Pos} {ty : TE} {a : Addr} {kvs : List (Key × V)}
end
end L2
end
section
open PySem PySem.W PyProof.Rows
namespace L2
open PySem PySem.Spec PyProof.Rows
noncomputable def evT {α : Type} (c : Nat → Nat → Bool) : KasT α → α
  | .ret a => a
  | .ask i j k => evT c (k (c i j))
noncomputable def evK {α : Type} (n : Nat) (c : Nat → Nat → Bool) : KasT α → Bool
  | .ret _ => true
  | .ask i j k => decide (i < n) && decide (j < n) && !decide (i = j) && evK n c (k (c i j))
theorem kasWp_ev {α : Type} {cmp : Nat → Nat → (Bool → Shared → Prop) → Shared → Prop} {n : Nat} {c : Nat → Nat → Bool} {s : Shared} (hc : ∀ i j C, i < n → j < n → i ≠ j → C (c i j) s → cmp i j C s) {Q : α → Shared → Prop} :
    ∀ t : KasT α, evK n c t = true → Q (evT c t) s → t.kasWp cmp Q s
  | .ret a, _, q => q
  | .ask i j k, h, q => by
    simp only [evK, Bool.and_eq_true, decide_eq_true_eq, Bool.not_eq_true', decide_eq_false_iff_not] at h
    exact hc i j _ h.1.1.1 h.1.1.2 h.1.2 (kasWp_ev hc (k (c i j)) h.2 q)
noncomputable def EvQ {α : Type} (n : Nat) (c : Nat → Nat → Bool) (t : KasT α) (Q : α → Prop) : Prop := evK n c t = true ∧ Q (evT c t)
theorem EvQ.ret {α : Type} {n : Nat} {c : Nat → Nat → Bool} {a : α} {Q : α → Prop} (h : Q a) : EvQ n c (.ret a) Q := ⟨rfl, h⟩
theorem EvQ.ask {α : Type} {n : Nat} {c : Nat → Nat → Bool} {i j : Nat} {k : Bool → KasT α} {Q : α → Prop} (hi : i < n) (hj : j < n) (hij : i ≠ j) (h : EvQ n c (k (c i j)) Q) : EvQ n c (.ask i j k) Q :=
  ⟨by simp only [evK, hi, hj, hij, h.1, decide_true, decide_false, Bool.not_false, Bool.and_self], h.2⟩
theorem EvQ.bind {α β : Type} {n : Nat} {c : Nat → Nat → Bool} {f : α → KasT β} {Q : β → Prop} : ∀ {t : KasT α}, EvQ n c t (fun a => EvQ n c (f a) Q) → EvQ n c (t.bind f) Q
  | .ret a, h => h.2
  | .ask i j k, h => by
    have e := h.1
    simp only [evK, Bool.and_eq_true, decide_eq_true_eq, Bool.not_eq_true', decide_eq_false_iff_not] at e
    exact EvQ.ask e.1.1.1 e.1.1.2 e.1.2 (EvQ.bind (t := k (c i j)) ⟨e.2, h.2⟩)
theorem EvQ.mono {α : Type} {n : Nat} {c : Nat → Nat → Bool} {t : KasT α} {Q Q' : α → Prop} (h : EvQ n c t Q) (f : ∀ a, Q a → Q' a) : EvQ n c t Q' := ⟨h.1, f _ h.2⟩
structure Shuf (n : Nat) (p : Array Nat) : Prop where
  perm : p.toList.Perm (List.range n)
theorem Shuf.size {n : Nat} {p : Array Nat} (h : Shuf n p) : p.size = n := by simpa using h.perm.length_eq
theorem Shuf.lt {n : Nat} {p : Array Nat} (h : Shuf n p) {i : Nat} (hi : i < n) : p.getD i 0 < n := by
  have hi' : i < p.size := h.size ▸ hi
  have : p.getD i 0 ∈ p.toList := by
    rw [Array.getD_eq_getD_getElem?, Array.getElem?_eq_getElem hi']
    exact Array.getElem_mem_toList hi'
  exact List.mem_range.mp (h.perm.mem_iff.mp this)
theorem Shuf.ne {n : Nat} {p : Array Nat} (h : Shuf n p) {i j : Nat} (hi : i < n) (hj : j < n) (hij : i ≠ j) : p.getD i 0 ≠ p.getD j 0 := fun e => by
  have hi' : i < p.size := h.size ▸ hi
  have hj' : j < p.size := h.size ▸ hj
  have nd : p.toList.Nodup := h.perm.nodup_iff.mpr List.nodup_range
  rw [Array.getD_eq_getD_getElem?, Array.getD_eq_getD_getElem?, Array.getElem?_eq_getElem hi', Array.getElem?_eq_getElem hj'] at e
  exact hij ((List.getElem?_inj (by simpa using hi') nd).mp (by rw [Array.getElem?_toList, Array.getElem?_toList, Array.getElem?_eq_getElem hi', Array.getElem?_eq_getElem hj']; exact congrArg some e))
theorem Shuf.of {n : Nat} {p q : Array Nat} (h : Shuf n p) (pm : q.Perm p) : Shuf n q := ⟨(Array.perm_iff_toList_perm.mp pm).trans h.perm⟩
theorem shuf_range (n : Nat) : Shuf n (List.toArray (List.range n)) := ⟨List.Perm.refl _⟩
section
variable {n : Nat} {r : Nat → Nat}
noncomputable def rk (r : Nat → Nat) (p : Array Nat) (i : Nat) : Nat := r (p.getD i 0)
noncomputable def UpTo (r : Nat → Nat) (p : Array Nat) (k : Nat) : Prop := ∀ i j, i < j → j < k → rk r p i < rk r p j
noncomputable def DownTo (r : Nat → Nat) (p : Array Nat) (k : Nat) : Prop := ∀ i j, i < j → j < k → rk r p j < rk r p i
noncomputable def cN (r : Nat → Nat) (i j : Nat) : Bool := decide (r i < r j)
noncomputable def InjN (n : Nat) (r : Nat → Nat) : Prop := ∀ i j, i < n → j < n → r i = r j → i = j
theorem rk_ne {p : Array Nat} (hr : InjN n r) (h : Shuf n p) {i j : Nat} (hi : i < n) (hj : j < n) (hij : i ≠ j) : rk r p i ≠ rk r p j := fun e => h.ne hi hj hij (hr _ _ (h.lt hi) (h.lt hj) e)
theorem up_more {p : Array Nat} {k : Nat} (h : UpTo r p k) (hk : 1 ≤ k) (x : rk r p (k - 1) < rk r p k) : UpTo r p (k + 1) := fun i j hij hj => by
  rcases Nat.lt_or_ge j k with c | c
  · exact h i j hij c
  · have : j = k := by omega
    subst this
    rcases Nat.lt_or_ge i (j - 1) with d | d
    · exact Nat.lt_trans (h i (j - 1) d (by omega)) x
    · have : i = j - 1 := by omega
      subst this; exact x
theorem down_more {p : Array Nat} {k : Nat} (h : DownTo r p k) (hk : 1 ≤ k) (x : rk r p k < rk r p (k - 1)) : DownTo r p (k + 1) := fun i j hij hj => by
  rcases Nat.lt_or_ge j k with c | c
  · exact h i j hij c
  · have : j = k := by omega
    subst this
    rcases Nat.lt_or_ge i (j - 1) with d | d
    · exact Nat.lt_trans x (h i (j - 1) d (by omega))
    · have : i = j - 1 := by omega
      subst this; exact x
theorem asc_ok {p : Array Nat} (hr : InjN n r) (h : Shuf n p) : ∀ (f m : Nat), 1 ≤ m → m + f ≤ n → UpTo r p m →
    EvQ n (cN r) (kas_asc p f m) fun m' => m ≤ m' ∧ m' ≤ m + f ∧ UpTo r p m' ∧ (m' < m + f → rk r p m' < rk r p (m' - 1))
  | 0, m, h1, hm, u => EvQ.ret ⟨Nat.le_refl _, Nat.le_refl _, u, fun x => absurd x (Nat.lt_irrefl _)⟩
  | f + 1, m, h1, hm, u => by
    refine EvQ.ask (h.lt (by omega)) (h.lt (by omega)) (h.ne (by omega) (by omega) (by omega)) ?_
    have ne := rk_ne hr h (i := m) (j := m - 1) (by omega) (by omega) (by omega)
    by_cases c : rk r p m < rk r p (m - 1)
    · have e : cN r (p.getD m 0) (p.getD (m - 1) 0) = true := decide_eq_true c
      rw [e, if_pos rfl]
      exact EvQ.ret ⟨Nat.le_refl _, by omega, u, fun _ => c⟩
    · have e : cN r (p.getD m 0) (p.getD (m - 1) 0) = false := decide_eq_false c
      rw [e, if_neg (by simp)]
      refine (asc_ok hr h f (m + 1) (by omega) (by omega) (up_more u h1 (by omega))).mono fun m' x => ⟨by omega, by omega, x.2.2.1, fun y => x.2.2.2 (by omega)⟩
theorem desc_ok {p : Array Nat} (hr : InjN n r) (h : Shuf n p) : ∀ (f m : Nat), 1 ≤ m → m + f ≤ n → DownTo r p m →
    EvQ n (cN r) (kas_desc f p m 0) fun t => t.1 = p ∧ t.2.2 = 0 ∧ m ≤ t.2.1 ∧ t.2.1 ≤ m + f ∧ DownTo r p t.2.1
  | 0, m, h1, hm, u => EvQ.ret ⟨rfl, rfl, Nat.le_refl _, Nat.le_refl _, u⟩
  | f + 1, m, h1, hm, u => by
    refine EvQ.ask (h.lt (by omega)) (h.lt (by omega)) (h.ne (by omega) (by omega) (by omega)) ?_
    have ne := rk_ne hr h (i := m) (j := m - 1) (by omega) (by omega) (by omega)
    by_cases c : rk r p m < rk r p (m - 1)
    · have e : cN r (p.getD m 0) (p.getD (m - 1) 0) = true := decide_eq_true c
      rw [e, if_pos rfl, if_neg (by omega)]
      refine (desc_ok hr h f (m + 1) (by omega) (by omega) (down_more u h1 c)).mono fun t x => ⟨x.1, x.2.1, by omega, by omega, x.2.2.2.2⟩
    · have e : cN r (p.getD m 0) (p.getD (m - 1) 0) = false := decide_eq_false c
      rw [e, if_neg (by simp)]
      refine EvQ.ask (h.lt (by omega)) (h.lt (by omega)) (h.ne (by omega) (by omega) (by omega)) ?_
      have e2 : cN r (p.getD (m - 1) 0) (p.getD m 0) = true := decide_eq_true (show rk r p (m - 1) < rk r p m by omega)
      rw [e2, if_pos rfl]
      exact EvQ.ret ⟨rfl, rfl, Nat.le_refl _, Nat.le_add_right _ _, u⟩
theorem rk_rev {p : Array Nat} {m : Nat} (hm : m ≤ p.size) (k : Nat) : rk r (kas_rev p 0 m) k = if k < m then rk r p (m - 1 - k) else rk r p k := by
  unfold rk kas_rev
  rw [Array.getD_eq_getD_getElem?, getElem?_mirror_all hm]
  by_cases c : k < m
  · rw [if_pos ⟨Nat.zero_le _, c⟩, if_pos c, Array.getD_eq_getD_getElem?, Nat.zero_add]
  · rw [if_neg (fun x => c x.2), if_neg c, Array.getD_eq_getD_getElem?]
theorem tail3_ok {p : Array Nat} (hr : InjN n r) (h : Shuf n p) {m : Nat} (h1 : 1 ≤ m) (hm : m ≤ n) (u : DownTo r p m) : EvQ n (cN r) (kas_tail3 m n p) fun t => Shuf n t.2 ∧ 1 ≤ t.1 ∧ t.1 ≤ n ∧ UpTo r t.2 t.1 := by
  have h' : Shuf n (kas_rev p 0 m) := h.of (mirror_perm _ _ _ _)
  refine EvQ.bind ((asc_ok hr h' (n - m) m h1 (by omega) fun i j hij hj => ?_).mono fun m' x => EvQ.ret ⟨h', by omega, by omega, x.2.2.1⟩)
  rw [rk_rev (by rw [h.size]; exact hm), rk_rev (by rw [h.size]; exact hm), if_pos (by omega), if_pos hj]
  exact u _ _ (by omega) (by omega)
theorem count_ok {p : Array Nat} (hr : InjN n r) (h : Shuf n p) (h1 : 1 ≤ n) : EvQ n (cN r) (kas_count n p) fun t => Shuf n t.2 ∧ 1 ≤ t.1 ∧ t.1 ≤ n ∧ UpTo r t.2 t.1 := by
  refine EvQ.bind ((asc_ok hr h (n - 1) 1 (Nat.le_refl _) (by omega) fun i j hij hj => by omega).mono fun m x => ?_)
  obtain ⟨x1, x2, x3, x4⟩ := x
  by_cases c : m = n
  · rw [if_pos (by simpa using c)]
    exact EvQ.ret ⟨h, x1, by omega, x3⟩
  · rw [if_neg (by simpa using c)]
    by_cases c2 : m > 1
    · rw [if_pos c2]
      refine EvQ.ask (h.lt (by omega)) (h.lt (by omega)) (h.ne (by omega) (by omega) (by omega)) ?_
      have e2 : cN r (p.getD 0 0) (p.getD (m - 1) 0) = true := decide_eq_true (x3 0 (m - 1) (by omega) (by omega))
      rw [e2, if_pos rfl]
      exact EvQ.ret ⟨h, x1, by omega, x3⟩
    · rw [if_neg c2]
      have : m = 1 := by omega
      subst this
      refine EvQ.bind ((desc_ok hr h (n - (1 + 1)) (1 + 1) (by omega) (by omega) (down_more (fun i j hij hj => by omega) (Nat.le_refl _) (x4 (by omega)))).mono fun t y => ?_)
      obtain ⟨y1, y2, y3, y4, y5⟩ := y
      rw [if_neg (by omega), y1]
      exact tail3_ok hr h (by omega) (by omega) y5
theorem place_ok {p : Array Nat} (hr : InjN n r) (h : Shuf n p) {k : Nat} (hk : k < n) (u : UpTo r p k) : ∀ (f l m : Nat), l ≤ m → m ≤ k → m - l ≤ f → (∀ i, i < l → rk r p i < rk r p k) → (∀ i, m ≤ i → i < k → rk r p k < rk r p i) →
    EvQ n (cN r) (kas_place p k f l m) fun t => t ≤ k ∧ (∀ i, i < t → rk r p i < rk r p k) ∧ (∀ i, t ≤ i → i < k → rk r p k < rk r p i)
  | 0, l, m, h1, h2, h3, a, b => EvQ.ret ⟨by omega, a, fun i hi hik => b i (by omega) hik⟩
  | f + 1, l, m, h1, h2, h3, a, b => by
    unfold kas_place
    by_cases c : l ≥ m
    · rw [if_pos c]; exact EvQ.ret ⟨by omega, a, fun i hi hik => b i (by omega) hik⟩
    · rw [if_neg c]
      refine EvQ.ask (h.lt (by omega)) (h.lt (by omega)) (h.ne (by omega) (by omega) (by omega)) ?_
      have ne := rk_ne hr h (i := k) (j := (l + m) / 2) (by omega) (by omega) (by omega)
      by_cases d : rk r p k < rk r p ((l + m) / 2)
      · have e : cN r (p.getD k 0) (p.getD ((l + m) / 2) 0) = true := decide_eq_true d
        rw [e, if_pos rfl]
        refine place_ok hr h hk u f l ((l + m) / 2) (by omega) (by omega) (by omega) a fun i hi hik => ?_
        rcases Nat.lt_or_ge ((l + m) / 2) i with z | z
        · exact Nat.lt_trans d (u _ _ z hik)
        · have : i = (l + m) / 2 := by omega
          rw [this]; exact d
      · have e : cN r (p.getD k 0) (p.getD ((l + m) / 2) 0) = false := decide_eq_false d
        rw [e, if_neg (by simp)]
        refine place_ok hr h hk u f ((l + m) / 2 + 1) m (by omega) (by omega) (by omega) (fun i hi => ?_) b
        have d' : rk r p ((l + m) / 2) < rk r p k := by omega
        rcases Nat.lt_or_ge i ((l + m) / 2) with z | z
        · exact Nat.lt_trans (u _ _ z (by omega)) d'
        · have : i = (l + m) / 2 := by omega
          rw [this]; exact d'
theorem rk_bubble {p : Array Nat} {k d : Nat} (hk : k < p.size) (hd : d ≤ k) (i : Nat) : rk r (bubble p k d) i = if i = k - d then rk r p k else if k - d < i ∧ i ≤ k then rk r p (i - 1) else rk r p i := by
  have g : ∀ (q : Array Nat) (j : Nat), rk r q j = r (q[j]?.getD 0) := fun q j => by unfold rk; rw [Array.getD_eq_getD_getElem?]
  rw [g, g, g, g, getElem?_bubble hk d hd]
  repeat' split
  all_goals rfl
theorem bin_ok (hr : InjN n r) : ∀ (f : Nat) (p : Array Nat) (k : Nat), Shuf n p → k + f = n → UpTo r p k → EvQ n (cN r) (kas_bin f p k) fun q => Shuf n q ∧ UpTo r q n
  | 0, p, k, h, e, u => EvQ.ret ⟨h, (show k = n from e) ▸ u⟩
  | f + 1, p, k, h, e, u => by
    refine EvQ.bind ((place_ok hr h (by omega) u k 0 k (by omega) (by omega) (by omega) (fun i hi => by omega) (fun i h1 h2 => by omega)).mono fun l x => ?_)
    obtain ⟨x1, x2, x3⟩ := x
    refine bin_ok hr f _ (k + 1) (h.of (bubble_perm _ _ _)) (by omega) fun i j hij hj => ?_
    have hs : k < p.size := by rw [h.size]; omega
    rw [rk_bubble hs (by omega), rk_bubble hs (by omega)]
    repeat' split
    all_goals first | (exfalso; omega) | exact u _ _ (by omega) (by omega) | exact x2 _ (by omega) | exact x3 _ (by omega) (by omega)
theorem sort_ok (hr : InjN n r) (h1 : 1 ≤ n) : EvQ n (cN r) (kas_sort n) fun q => Shuf n q ∧ UpTo r q n := by
  refine EvQ.bind ((count_ok hr (shuf_range n) h1).mono fun t x => ?_)
  obtain ⟨x1, x2, x3, x4⟩ := x
  by_cases c : t.1 < n
  · rw [if_pos c]
    have : max t.1 1 = t.1 := by omega
    rw [this]
    exact bin_ok hr _ _ _ x1 (by omega) x4
  · rw [if_neg c]
    have : t.1 = n := by omega
    exact EvQ.ret ⟨x1, this ▸ x4⟩
end
theorem ev_alike {α : Type} {n : Nat} {c c' : Nat → Nat → Bool} (h : ∀ i j, i < n → j < n → c i j = c' i j) : ∀ t : KasT α, evK n c' t = true → evK n c t = true ∧ evT c t = evT c' t
  | .ret a, _ => ⟨rfl, rfl⟩
  | .ask i j k, e => by
    simp only [evK, Bool.and_eq_true, decide_eq_true_eq, Bool.not_eq_true', decide_eq_false_iff_not] at e
    have hc := h i j e.1.1.1 e.1.1.2
    have := ev_alike h (k (c' i j)) e.2
    simp only [evK, evT, Bool.and_eq_true, decide_eq_true_eq, Bool.not_eq_true', decide_eq_false_iff_not]
    rw [hc]
    exact ⟨⟨e.1, this.1⟩, this.2⟩
noncomputable def ltS (a b : Str) : Prop := a.cps.toList < b.cps.toList
instance (a b : Str) : Decidable (ltS a b) := inferInstanceAs (Decidable (a.cps.toList < b.cps.toList))
theorem ltS_irrefl (a : Str) : ¬ ltS a a := List.lt_irrefl _
theorem ltS_trans {a b c : Str} (h1 : ltS a b) (h2 : ltS b c) : ltS a c := List.lt_trans h1 h2
theorem ltS_asymm {a b : Str} (h : ltS a b) : ¬ ltS b a := fun z => ltS_irrefl a (ltS_trans h z)
theorem str_ext {a b : Str} (h : a.cps.toList = b.cps.toList) : a = b := by
  cases a; cases b; simp only at h; rw [Array.toList_inj.mp h]
theorem ltS_or {a b : Str} (h : a ≠ b) : ltS a b ∨ ltS b a := by
  by_cases h1 : ltS a b
  · exact .inl h1
  · by_cases h2 : ltS b a
    · exact .inr h2
    · exact absurd (str_ext (List.le_antisymm (List.not_lt.mp h2) (List.not_lt.mp h1))) h
noncomputable def rankS (xs : List Str) (x : Str) : Nat := (xs.filter fun y => decide (ltS y x)).length
theorem rank_mono {xs : List Str} {x y : Str} (hx : x ∈ xs) (h : ltS x y) : rankS xs x < rankS xs y := by
  unfold rankS
  have sub : ∀ l : List Str, (l.filter fun z => decide (ltS z x)).length ≤ (l.filter fun z => decide (ltS z y)).length := fun l => by
    induction l with
    | nil => exact Nat.le_refl _
    | cons z r ih =>
      by_cases h1 : ltS z x
      · rw [List.filter_cons_of_pos (by simpa using h1), List.filter_cons_of_pos (by simpa using ltS_trans h1 h)]; simpa using ih
      · rw [List.filter_cons_of_neg (by simpa using h1)]
        by_cases h2 : ltS z y
        · rw [List.filter_cons_of_pos (by simpa using h2)]; exact Nat.le_succ_of_le ih
        · rw [List.filter_cons_of_neg (by simpa using h2)]; exact ih
  induction xs with
  | nil => cases hx
  | cons z r ih =>
    rcases List.mem_cons.mp hx with rfl | hr
    · rw [List.filter_cons_of_neg (by simpa using ltS_irrefl x), List.filter_cons_of_pos (by simpa using h)]
      exact Nat.lt_succ_of_le (sub r)
    · by_cases h1 : ltS z x
      · rw [List.filter_cons_of_pos (by simpa using h1), List.filter_cons_of_pos (by simpa using ltS_trans h1 h)]; simpa using ih hr
      · rw [List.filter_cons_of_neg (by simpa using h1)]
        by_cases h2 : ltS z y
        · rw [List.filter_cons_of_pos (by simpa using h2)]; exact Nat.lt_succ_of_lt (ih hr)
        · rw [List.filter_cons_of_neg (by simpa using h2)]; exact ih hr
theorem rank_iff {xs : List Str} {x y : Str} (hx : x ∈ xs) (hy : y ∈ xs) : rankS xs x < rankS xs y ↔ ltS x y := by
  refine ⟨fun h => ?_, rank_mono hx⟩
  by_cases e : x = y
  · subst e; exact absurd h (Nat.lt_irrefl _)
  · rcases ltS_or e with z | z
    · exact z
    · exact absurd (rank_mono hy z) (Nat.lt_asymm h)
noncomputable def cS (xs : List Str) (i j : Nat) : Bool := decide (ltS (xs.getD i "") (xs.getD j ""))
theorem getD_mem {xs : List Str} {i : Nat} (h : i < xs.length) : xs.getD i "" ∈ xs := by
  rw [List.getD_eq_getElem?_getD, List.getElem?_eq_getElem h]; exact List.getElem_mem h
theorem many_sorted {xs : List Str} (h1 : 1 ≤ xs.length) (nd : xs.Nodup) :
    evK xs.length (cS xs) (kas_sort xs.length) = true ∧ (evT (cS xs) (kas_sort xs.length)).toList.Perm (List.range xs.length) ∧ ((evT (cS xs) (kas_sort xs.length)).toList.map fun i => xs.getD i "").Pairwise ltS := by
  have rkI : ∀ i j, i < xs.length → j < xs.length → (rankS xs (xs.getD i "") < rankS xs (xs.getD j "") ↔ ltS (xs.getD i "") (xs.getD j "")) := fun i j hi hj => rank_iff (getD_mem hi) (getD_mem hj)
  have hr : InjN xs.length fun i => rankS xs (xs.getD i "") := fun i j hi hj e => by
    have a := rkI i j hi hj
    have b := rkI j i hj hi
    have e' : xs.getD i "" = xs.getD j "" := Decidable.byContradiction fun ne => by
      rcases ltS_or ne with z | z
      · have := a.mpr z; simp only at e; omega
      · have := b.mpr z; simp only at e; omega
    rw [List.getD_eq_getElem?_getD, List.getD_eq_getElem?_getD, List.getElem?_eq_getElem hi, List.getElem?_eq_getElem hj] at e'
    exact (List.getElem?_inj hi nd).mp (by rw [List.getElem?_eq_getElem hi, List.getElem?_eq_getElem hj]; exact congrArg some e')
  have ok := sort_ok hr h1
  have al : ∀ i j, i < xs.length → j < xs.length → cS xs i j = cN (fun i => rankS xs (xs.getD i "")) i j := fun i j hi hj => by
    unfold cS cN
    rw [decide_eq_decide]
    exact (rkI i j hi hj).symm
  have ea := ev_alike al (kas_sort xs.length) ok.1
  rw [ea.2]
  have sh := ok.2.1
  refine ⟨ea.1, sh.perm, ?_⟩
  rw [List.pairwise_map, List.pairwise_iff_getElem]
  intro i j hi hj hij
  have hj' : j < xs.length := by rw [← sh.size]; simpa using hj
  have := ok.2.2 i j hij hj'
  unfold rk at this
  have := (rkI _ _ (sh.lt (by omega)) (sh.lt hj')).mp this
  rw [Array.getD_eq_getD_getElem?, Array.getD_eq_getD_getElem?, Array.getElem?_eq_getElem (by simpa using hi), Array.getElem?_eq_getElem (by simpa using hj)] at this
  simpa using this
end L2
namespace L2
open PySem PySem.Spec PyProof.Rows
section
variable {prog : Program} {w : World} {A : Around} {E : Value → Shared → Prop} {s : Shared}
noncomputable def midHeap (h : Heap) (a : Addr) (vs : List Value) : Heap := ((h.update a (Obj.mapSeq fun _ => (#[] : Array Value))).push (seqObj "tuple" vs.toArray 0)).push (seqObj "list" #[] 0)
theorem midHeap_at {h : Heap} {a b : Addr} {vs : List Value} (hb : b < h.objs.size) : (midHeap h a vs).get? b = (h.update a (Obj.mapSeq fun _ => (#[] : Array Value))).get? b :=
  (Heap.get?_push_ne _ _ _ (Nat.ne_of_lt (Nat.lt_of_lt_of_eq (Nat.lt_succ_of_lt hb) ((size_push' _ _).trans (congrArg (· + 1) (Heap.size_update _ _ _))).symm))).trans
    (Heap.get?_push_ne _ _ _ (Nat.ne_of_lt (Nat.lt_of_lt_of_eq hb (Heap.size_update _ _ _).symm)))
theorem midHeap_old {h : Heap} {a b : Addr} {vs : List Value} {o : Obj} (hb : b ≠ a) (e : h.get? b = some o) : (midHeap h a vs).get? b = some o :=
  (midHeap_at (Heap.lt_size e)).trans ((Heap.get?_update_ne _ _ _ _ hb).trans e)
theorem few {vs : List Value} (h : vs.length < 64) : vs.length ≤ sizeLine := Nat.le_trans (Nat.le_of_lt h) (by decide)
theorem list_sort_ask {a : Addr} {vs : List Value} {n : Nat} {P : PySem.Fin → Shared → Prop} {κ : SortKind} {G : Array Nat → Prop} (ho : s.heap.get? a = some (seqObj "list" vs.toArray n)) (h64 : vs.length < 64)
    (hk : 2 ≤ vs.length → ∀ Q' : SortKind → Shared → Prop, Q' κ { s with heap := midHeap s.heap a vs } → wpAny (model prog w) A (keyKind' vs.toArray) Q' E { s with heap := midHeap s.heap a vs })
    (ha : 2 ≤ vs.length → ∀ Q' : Array Nat → Shared → Prop, (∀ p, G p → Q' p { s with heap := midHeap s.heap a vs }) → (kas_sort vs.length).kasWp (kas_ask prog w A κ vs) Q' { s with heap := midHeap s.heap a vs })
    (h0 : vs.length < 2 → P (.done (.ret .none)) { s with heap := sortedHeap s.heap a vs vs.toArray })
    (h : ∀ p : Array Nat, p.size = vs.length → G p → P (.done (.ret .none)) { s with heap := sortedHeap s.heap a vs (p.toList.map fun i => vs.getD i Value.none).toArray }) : wpAny (model prog w) A (Builtin.«list.sort» ⟨[.ref a], []⟩) P E s := by
  obtain ⟨ep, g1⟩ : ∃ k, (s.heap.update a (Obj.mapSeq fun _ => (#[] : Array Value))).get? a = some (seqObj "list" #[] k) := ⟨_, get?_update_seq ho fun _ => #[]⟩
  have g2 : (midHeap s.heap a vs).get? a = some (seqObj "list" #[] ep) := (midHeap_at (Heap.lt_size ho)).trans g1
  have z := List.size_toArray (as := vs)
  rw [list_sort_plain]
  refine wpAny_bind (listItems_at ho rfl (wpAny_bind (listUpdate_at ho rfl (wpAny_bind (seqEpoch_at g1 rfl (wpAny_bind (wpAny_newTuple (wpAny_bind (wpAny_newList (wpAny_holding ?_) (Nat.zero_le _))) (few h64))))) (z ▸ few h64) (Nat.zero_le _))))
  show wpAny (model prog w) A _ P E { s with heap := midHeap s.heap a vs }
  dsimp only
  have last : ∀ out : Array Value, out.size ≤ sizeLine → P (.done (.ret .none)) { s with heap := sortedHeap s.heap a vs out } → P (.done (.ret .none)) { s with heap := (midHeap s.heap a vs).update a (Obj.mapSeq fun _ => out) } := fun _ _ q => q
  rcases Nat.lt_or_ge vs.toArray.size 2 with c | c
  · rw [if_pos c, if_pos c]
    have e : (arrOf (SortSt.mk' general' (vs.toArray.zip vs.toArray) #[] 7 none)).map (·.2) = vs.toArray := by
      apply Array.toList_inj.mp
      show ((vs.toArray.zip vs.toArray).map (·.2)).toList = _
      rw [Array.toList_map, Array.toList_zip]
      exact List.map_snd_zip (Nat.le_refl _)
    refine wpAny_bind (m := pure general') (wpAny_pure ?_)
    rw [StateT.run_pure]
    refine wpAny_bind (wpAny_pure (wpAny_bind (seqEpoch_at g2 rfl (wpAny_bind (listUpdate_at g2 rfl ?_ (Nat.zero_le _) (hsz2 := by rw [e, z]; exact Nat.le_succ_of_le (few h64)))))))
    rw [if_neg (by simp)]
    refine wpAny_pure ?_
    rw [e]
    exact last _ (by rw [z]; exact few h64) (h0 (z ▸ c))
  · rw [if_neg (Nat.not_lt.mpr c), if_neg (Nat.not_lt.mpr c)]
    have c' : 2 ≤ vs.length := z ▸ c
    have run := kat_run (E := E) (ks := vs) (vs := vs) (Q := fun st u => u = { s with heap := midHeap s.heap a vs } ∧ ∃ p : Array Nat, p.size = vs.length ∧ arrOf st = p.map (kas_item (vs.toArray.zip vs.toArray)) ∧ failedOf st = none ∧ G p)
      (G := fun p u => u = { s with heap := midHeap s.heap a vs } ∧ G p) rfl c' h64 (fun p st u b1 b2 b3 b4 => ⟨b4.1, p, b1, b2, b3, b4.2⟩) (ha c' _ fun p g => ⟨rfl, g⟩)
    refine wpAny_bind (hk c' _ (wpAny_bind (wpAny_mono run (fun r u x => ?_) fun _ _ x => x)))
    obtain ⟨⟨⟩, st⟩ := r
    obtain ⟨rfl, p, hp, har, hf, g⟩ := x
    have el : (List.toArray (p.toList.map fun i => vs.getD i Value.none)).size ≤ sizeLine := by rw [List.size_toArray, List.length_map, Array.length_toList, hp]; exact few h64
    dsimp only
    rw [kat_snds rfl har, hf]
    refine wpAny_bind (seqEpoch_at g2 rfl (wpAny_bind (listUpdate_at g2 rfl ?_ (Nat.zero_le _) (Nat.le_succ_of_le el))))
    rw [if_neg (by simp)]
    exact wpAny_pure (last _ el (h p hp g))
abbrev twoHeap (h : Heap) (vs : List Value) : Heap := ((h.push (seqObj "list" #[] 0)).update h.objs.size (Obj.mapSeq (· ++ vs.toArray))).push (seqObj "list" vs.toArray 0)
theorem twoHeap_size (h : Heap) (vs : List Value) : ((h.push (seqObj "list" #[] 0)).update h.objs.size (Obj.mapSeq (· ++ vs.toArray))).objs.size = h.objs.size + 1 := (Heap.size_update _ _ _).trans (size_push' _ _)
theorem twoHeap_new (h : Heap) (vs : List Value) : (twoHeap h vs).get? (h.objs.size + 1) = some (seqObj "list" vs.toArray 0) := (twoHeap_size h vs) ▸ Heap.get?_push_size _ rfl
theorem twoHeap_old {h : Heap} {vs : List Value} {b : Addr} {o : Obj} (e : h.get? b = some o) : (twoHeap h vs).get? b = some o := by
  have l := Heap.lt_size e
  have z := twoHeap_size h vs
  exact (Heap.get?_push_ne _ _ _ (Nat.ne_of_lt (Nat.lt_of_lt_of_eq (Nat.lt_succ_of_lt l) z.symm))).trans ((Heap.get?_update_ne _ _ _ _ (Nat.ne_of_lt l)).trans ((Heap.get?_push_ne _ _ _ (Nat.ne_of_lt l)).trans e))
theorem sorted_ask {l : Addr} {vs : List Value} {Q : Value → Shared → Prop} {κ : SortKind} {G : Array Nat → Prop} (hl : s.heap.IsList l vs.toArray) (h64 : vs.length < 64)
    (hk : ∀ h' : Heap, (∀ b o, s.heap.get? b = some o → h'.get? b = some o) → 2 ≤ vs.length → ∀ Q' : SortKind → Shared → Prop, Q' κ { s with heap := h' } → wpAny (model prog w) A.in1.in1 (keyKind' vs.toArray) Q' E { s with heap := h' })
    (ha : ∀ h' : Heap, (∀ b o, s.heap.get? b = some o → h'.get? b = some o) → 2 ≤ vs.length → ∀ Q' : Array Nat → Shared → Prop, (∀ p, G p → Q' p { s with heap := h' }) → (kas_sort vs.length).kasWp (kas_ask prog w A.in1.in1 κ vs) Q' { s with heap := h' })
    (h0 : vs.length < 2 → Q (.ref (s.heap.objs.size + 1)) { s with heap := sortedAll s.heap vs vs.toArray })
    (h : ∀ p : Array Nat, p.size = vs.length → G p → Q (.ref (s.heap.objs.size + 1)) { s with heap := sortedAll s.heap vs (p.toList.map fun i => vs.getD i Value.none).toArray }) : wpAny (model prog w) A (call (.builtin "sorted") [.ref l]) Q E s := by
  have kp : ∀ b o, s.heap.get? b = some o → (midHeap (twoHeap s.heap vs) (s.heap.objs.size + 1) vs).get? b = some o := fun b o e => midHeap_old (Nat.ne_of_lt (Nat.lt_succ_of_lt (Heap.lt_size e))) (twoHeap_old e)
  refine Calls.call_function_entry kind_sorted plain_sorted entry_sorted (args_sorted1 (.ref l)) ?_
  unfold Builtin.«sorted»
  refine wpAny_bind (m := checkCount "sorted" 1 1 [Value.ref l].length) (wpAny_pure (wpAny_bind (collect_list hl (wpAny_bind (wpAny_newList ?_ (few h64))) (few h64))))
  show wpAny _ _ _ _ _ { s with heap := twoHeap s.heap vs }
  rw [twoHeap_size]
  refine wpAny_bind (wpAny_holding (wpAny_call_entry slot_list_sort ⟨_, twoHeap_new s.heap vs, rfl⟩ entry_list_sort (list_sort_ask (G := G) (κ := κ) (twoHeap_new s.heap vs) h64 (hk _ kp) (ha _ kp) (fun c => ⟨_, rfl, ?_⟩) fun p hp g => ⟨_, rfl, ?_⟩) (args_list_sort (.ref (s.heap.objs.size + 1)))))
  · exact wpAny_pure ⟨_, rfl, h0 c⟩
  · exact wpAny_pure ⟨_, rfl, h p hp g⟩
end
end L2
namespace L2
open PySem PySem.Spec PyProof.Rows
noncomputable def PairP (H : Hp) (y : V) (q : Str × Int) : Prop := ∃ b, y = .ref b ∧ H b = some (.tup [.str q.1, .int q.2])
theorem PairP.v {H : Hp} {y : V} {q : Str × Int} (h : PairP H y q) : PairV H y (.inr q.1, .int q.2) := h
theorem PairP.same {H H' : Hp} {y : V} {q : Str × Int} (h : PairP H y q) (s : Same H H') : PairP H' y q := let ⟨b, e, h⟩ := h; ⟨b, e, s _ _ h⟩
noncomputable def AtP (h : Heap) (v : Value) (q : Str × Int) : Prop := ∃ b o k t u, v = .ref b ∧ h.get? b = some o ∧ o.cls = .type "tuple" ∧ o.data = .seq #[.str q.1 t, .int q.2 u] k
theorem AtP.kept {h h' : Heap} {v : Value} {q : Str × Int} (k : ∀ b o, h.get? b = some o → h'.get? b = some o) (x : AtP h v q) : AtP h' v q := let ⟨b, o, n, t, u, e1, e2, e3, e4⟩ := x; ⟨b, o, n, t, u, e1, k _ _ e2, e3, e4⟩
theorem pairP_at {P : Program} {w : World} {H : Hp} {h : Heap} (ok : HOk P w H h) : ∀ {ys : List V} {ps : List (Str × Int)} {its : List Value}, Paired (PairP H) ys ps → Vals ys its → Paired (AtP h) its ps
  | _, _, _, .nil, .nil => .nil
  | _, _, _, .cons hp hr, .cons hv hrv => by
    obtain ⟨b, rfl, hb⟩ := hp
    obtain ⟨_, its0, r0, o, e1, e2, n, e3, _⟩ := (show ObjOk P w H h b (.tup [.str _, .int _]) from ok b _ hb)
    obtain ⟨u1, u2, rfl, ⟨t1, rfl⟩, ⟨t2, rfl⟩⟩ := vals2 r0
    cases (show _ = Value.ref b from hv)
    exact .cons ⟨b, o, n, t1, t2, rfl, e1, e2, e3⟩ (pairP_at ok hr hrv)
theorem atP_get {h : Heap} : ∀ {vs : List Value} {ps : List (Str × Int)}, Paired (AtP h) vs ps → ∀ {i : Nat}, i < vs.length → ∃ q, ps[i]? = some q ∧ AtP h (vs.getD i Value.none) q
  | _, _, .nil, i, hi => absurd hi (Nat.not_lt_zero _)
  | _, _, .cons hp hr, 0, _ => ⟨_, rfl, hp⟩
  | _, _, .cons hp hr, i + 1, hi => by
    obtain ⟨q, e, a⟩ := atP_get hr (i := i) (by simpa using hi)
    exact ⟨q, by simpa using e, by simpa using a⟩
theorem atP_tups {h : Heap} : ∀ {vs : List Value} {ps : List (Str × Int)}, Paired (AtP h) vs ps → ∃ fs, KatTups h vs fs ∧ fs.length = vs.length ∧ ∀ v ∈ fs, ∃ x t, v = Value.str x t
  | _, _, .nil => ⟨[], .nil, rfl, fun v m => nomatch m⟩
  | _, _, .cons hp hr => by
    obtain ⟨fs, k, l, st⟩ := atP_tups hr
    obtain ⟨b, o, n, t, u, rfl, e1, e2, e3⟩ := hp
    exact ⟨_, .cons e1 e2 e3 rfl k, by simp [l], fun v m => by rcases List.mem_cons.mp m with rfl | m; · exact ⟨_, _, rfl⟩
                                                               · exact st v m⟩
section
variable {prog : Program} {w : World} {A : Around} {E : Value → Shared → Prop} {s : Shared}
theorem ask_pairs {vs : List Value} {ps : List (Str × Int)} (hp : Paired (AtP s.heap) vs ps) (nd : (ps.map (·.1)).Nodup) {i j : Nat} {C : Bool → Shared → Prop} (hi : i < vs.length) (hj : j < vs.length) (hij : i ≠ j) (h : C (cS (ps.map (·.1)) i j) s) : kas_ask prog w A (tuples' true) vs i j C s := by
  obtain ⟨q1, f1, b1, o1, n1, t1, u1, e1, g1, c1, d1⟩ := atP_get hp hi
  obtain ⟨q2, f2, b2, o2, n2, t2, u2, e2, g2, c2, d2⟩ := atP_get hp hj
  have hne : q1.1 ≠ q2.1 := fun z => hij ((List.getElem?_inj (by rw [List.length_map]; exact (List.getElem?_eq_some_iff.mp f1).1) nd).mp (by rw [List.getElem?_map, List.getElem?_map, f1, f2]; simp [z]))
  unfold kas_ask
  rw [e1, e2]
  refine kat_lt g1 d1 g2 d2 (SeqAt.EqAt.str_str q1.1 t1 q2.1 t2 _ _ _ _ ?_)
  refine ifF (by simpa using hne) ?_
  refine oneLt_str ?_
  have e : cS (ps.map (·.1)) i j = decide (q1.1.cps.toList < q2.1.cps.toList) := by
    unfold cS
    rw [List.getD_eq_getElem?_getD, List.getD_eq_getElem?_getD, List.getElem?_map, List.getElem?_map, f1, f2]
    rfl
  rw [e] at h
  exact h
theorem kind_pairs {vs : List Value} {ps : List (Str × Int)} (hp : Paired (AtP s.heap) vs ps) (h2 : 2 ≤ vs.length) {Q' : SortKind → Shared → Prop} (q : Q' (tuples' true) s) : wpAny (model prog w) A (keyKind' vs.toArray) Q' E s := by
  obtain ⟨fs, k, l, st⟩ := atP_tups hp
  refine kat_kind (T := .type "str") k (by omega) (fun v m => ?_) (by decide) q
  obtain ⟨x, t, rfl⟩ := st v m
  exact Looks.now
end
theorem paired_get {α β : Type} {R : α → β → Prop} : ∀ {xs : List α} {zs : List β}, Paired R xs zs → ∀ {i : Nat} (d : α) (e : β), i < xs.length → R (xs.getD i d) (zs.getD i e)
  | _, _, .nil, i, _, _, hi => absurd hi (Nat.not_lt_zero _)
  | _, _, .cons hp hr, 0, _, _, _ => hp
  | _, _, .cons hp hr, i + 1, d, e, hi => by simpa using paired_get hr (i := i) d e (by simpa using hi)
theorem paired_pick {α β : Type} {R : α → β → Prop} {xs : List α} {zs : List β} (hp : Paired R xs zs) (d : α) (e : β) : ∀ {is : List Nat}, (∀ i ∈ is, i < xs.length) → Paired R (is.map fun i => xs.getD i d) (is.map fun i => zs.getD i e)
  | [], _ => .nil
  | i :: r, hi => .cons (paired_get hp d e (hi i List.mem_cons_self)) (paired_pick hp d e fun j m => hi j (List.mem_cons_of_mem _ m))
theorem vals_get : ∀ {xs : List V} {us : List Value}, Vals xs us → ∀ {i : Nat}, i < xs.length → RelV (xs.getD i .non) (us.getD i .none)
  | _, _, .nil, i, hi => absurd hi (Nat.not_lt_zero _)
  | _, _, .cons hp hr, 0, _ => hp
  | _, _, .cons hp hr, i + 1, hi => by simpa using vals_get hr (i := i) (by simpa using hi)
theorem vals_pick {xs : List V} {us : List Value} (h : Vals xs us) : ∀ {is : List Nat}, (∀ i ∈ is, i < xs.length) → Vals (is.map fun i => xs.getD i .non) (is.map fun i => us.getD i .none)
  | [], _ => .nil
  | i :: r, hi => .cons (vals_get h (hi i List.mem_cons_self)) (vals_pick h fun j m => hi j (List.mem_cons_of_mem _ m))
theorem picks_all {α : Type} (l : List α) (d : α) : (List.range l.length).map (fun i => l.getD i d) = l := by
  refine List.ext_getElem? fun i => ?_
  rw [List.getElem?_map]
  by_cases h : i < l.length
  · rw [List.getElem?_range h, List.getElem?_eq_getElem h]; simp [h]
  · rw [List.getElem?_eq_none (by rw [List.length_range]; omega), List.getElem?_eq_none (by omega)]; rfl
noncomputable def rSortP (K : PySem.W.Frag) : List V → Hp → VK → Prop := fun xs H Q => ∃ (p : Addr) (ys : List V) (ps : List (Str × Int)), xs = [.ref p] ∧ SqL K H p ys ∧ Paired (PairP H) ys ps ∧ ps.length < 64 ∧ (ps.map (·.1)).Nodup ∧
  ∀ l ys' ps', H l = none → ps'.Perm ps → (ps'.map (·.1)).Pairwise ltS → Paired (PairP H) ys' ps' → Q (.ref l) (upd H l (.lst ys'))
instance {K} : MonoC (rSortP K) := ⟨fun x H Q Q' f ⟨a, b, c, d, e, g, h, i, q⟩ => ⟨a, b, c, d, e, g, h, i, fun l ys ps h1 h2 h3 h4 => f _ _ (q l ys ps h1 h2 h3 h4)⟩⟩
section
variable {X : Cx}
theorem call_sortedP : CallR X (.builtin "sorted") (rSortP X.K) := by
  intro pins s σ H xs us Q I r h
  obtain ⟨p, ys, ps, rfl, hS, hP, h5, nd, q⟩ := h
  obtain ⟨u, rfl, ru⟩ := vals1 r
  cases (show u = Value.ref p from ru)
  obtain ⟨its, hv, hl, hz⟩ := I.list hS
  have hat := pairP_at I.hok hP hv
  have hlen := hv.length
  have hpl := Paired.length hP
  have fs0 := many_sorted (xs := ps.map (·.1))
  rw [List.length_map] at fs0
  have el : its.length = ps.length := by omega
  have fin : ∀ (out : List Value) (ys' : List V) (ps' : List (Str × Int)), ys'.length = ps.length → Vals ys' out → ps'.Perm ps → (ps'.map (·.1)).Pairwise ltS → Paired (PairP H) ys' ps' → EP X pins σ Q (.ref (s.heap.objs.size + 1)) { s with heap := sortedAll s.heap its out.toArray } := fun out ys' ps' hl' hv' pm pw pp => by
    obtain ⟨e, he⟩ := sortedAll_at s.heap its out.toArray
    obtain ⟨hn, I'⟩ := I.laidAt (a := s.heap.objs.size + 1) (o := .lst ys') (t' := s.toks) (fun b o e => sortedAll_old e) (Heap.get?_none_of_le (Nat.le_succ _)) ⟨by rw [hl']; exact Nat.le_trans (Nat.le_of_lt h5) (by decide), out, e, hv', by simpa [seqObj] using he⟩
    exact ⟨.ref _, _, I', rfl, q _ ys' ps' hn pm pw pp⟩
  refine sorted_ask (κ := tuples' true) (G := fun p => 2 ≤ its.length ∧ p = evT (cS (ps.map (·.1))) (kas_sort ps.length)) hl.isList (by omega)
    (fun h' k h2 Q' hq => kind_pairs (s := { s with heap := h' }) (Paired.mapP hat fun v q x => x.kept k) h2 hq)
    (fun h' k h2 Q' hq => kasWp_ev (n := its.length) (c := cS (ps.map (·.1))) (fun i j C hi hj hij hc => ask_pairs (s := { s with heap := h' }) (Paired.mapP hat fun v q x => x.kept k) nd hi hj hij hc) _ (by rw [el]; exact (fs0 (by omega) nd).1) (hq _ ⟨h2, by rw [el]⟩))
    (fun h2 => ?_) fun pp hpp g => ?_
  · refine fin its ys ps (by omega) hv (List.Perm.refl _) ?_ hP
    cases ps with
    | nil => exact .nil
    | cons x r => cases r with
      | nil => exact List.pairwise_singleton _ _
      | cons y r' => simp at el; omega
  · obtain ⟨g2, g⟩ := g
    have fs := fs0 (by omega) nd
    subst g
    have lt : ∀ i ∈ (evT (cS (ps.map (·.1))) (kas_sort ps.length)).toList, i < ps.length := fun i hi => List.mem_range.mp (fs.2.1.mem_iff.mp hi)
    refine fin _ ((evT (cS (ps.map (·.1))) (kas_sort ps.length)).toList.map fun i => ys.getD i .non) ((evT (cS (ps.map (·.1))) (kas_sort ps.length)).toList.map fun i => ps.getD i ("", 0)) ?_ (vals_pick hv fun i hi => by have := lt i hi; omega) ?_ ?_ (paired_pick hP _ _ fun i hi => by have := lt i hi; omega)
    · rw [List.length_map, Array.length_toList, hpp, el]
    · have := fs.2.1.map (fun i => ps.getD i ("", 0))
      rw [picks_all] at this
      exact this
    · have e : (((evT (cS (ps.map (·.1))) (kas_sort ps.length)).toList.map fun i => ps.getD i ("", 0)).map (·.1)) = (evT (cS (ps.map (·.1))) (kas_sort ps.length)).toList.map fun i => (ps.map (·.1)).getD i ("" : Str) := by
        rw [List.map_map]
        refine List.map_congr_left fun i hi => ?_
        show (ps.getD i ("", 0)).1 = _
        rw [List.getD_eq_getElem?_getD, List.getD_eq_getElem?_getD, List.getElem?_map, List.getElem?_eq_getElem (lt i hi)]; rfl
      rw [e]
      exact fs.2.2
theorem callSortedW (hc : X.calm = true) : CallR X (.builtin "sorted") (fun xs H Q => rSortS X.K xs H Q ∨ (rSortD xs H Q ∨ rSortP X.K xs H Q)) := call_sorted_strs.or ((call_sorted_dict hc).or call_sortedP)
end
end L2
namespace L2
open PySem PySem.Spec PyProof.Rows
section
variable {X : Cx} {K : PySem.W.Frag} (h : X.K = K)
include h
end
end L2
end
section
open PySem PySem.W PyProof.Rows
namespace L2
open PySem PySem.Spec PyProof.Rows
noncomputable def rIsiT (K : PySem.W.Frag) : List V → Hp → VK → Prop := fun xs H Q => ∃ x p Ts T b, xs = [x, .ref p] ∧ H p = some (.tup (List.map V.ty Ts)) ∧ TyOf K H x (.type T) ∧ PySem.W.kitAny K (.type T) (List.map Value.type Ts) = some b ∧ Q (.bl b) H
instance {K} : MonoC (rIsiT K) := ⟨fun x H Q Q' f ⟨a, b, c, d, e, g, h, i, j, q⟩ => ⟨a, b, c, d, e, g, h, i, j, f _ _ q⟩⟩
theorem vals_ty : ∀ {Ts : List String} {us : List Value}, Vals (Ts.map V.ty) us → us = Ts.map Value.type
  | [], _, .nil => rfl
  | T :: r, u :: us, .cons h t => by rw [vals_ty t, show u = Value.type T from h]; rfl
section
variable {X : Cx}
theorem call_isinstT : CallR X (.builtin "isinstance") (rIsiT X.K) := by
  intro pins s σ H xs us Q I r h
  obtain ⟨x, p, Ts, T, b, rfl, hp, ty, e, q⟩ := h
  obtain ⟨u, c, rfl, ru, rc⟩ := vals2 r
  cases (show c = Value.ref p from rc)
  obtain ⟨_, its, hv, ⟨oc, dd, dat, sl⟩, e1, e2, n, e3, _⟩ := (show ObjOk X.prog X.w H s.heap p (.tup (Ts.map V.ty)) from I.hok p _ hp)
  simp only at e2 e3
  subst e2 e3
  obtain rfl := vals_ty hv
  have fin : ∀ tk, EP X pins σ Q (.bool b) { s with toks := tk } := fun tk => ⟨.bl b, H, I.tok tk, rfl, q⟩
  generalize hT : Value.type T = t at ty e
  cases ty with
  | non => cases (show u = Value.none from ru); exact kia_tup kitx_none I.kIn trivial e1 e nofun fin
  | bl y => cases (show u = Value.bool y from ru); exact kia_tup kitx_bool I.kIn trivial e1 e nofun fin
  | int i => obtain ⟨_, rfl⟩ := (show ∃ t, u = Value.int i t from ru); exact kia_tup kitx_int I.kIn trivial e1 e nofun fin
  | str y => obtain ⟨_, rfl⟩ := (show ∃ t, u = Value.str y t from ru); exact kia_tup kitx_str I.kIn trivial e1 e nofun fin
  | flt y => obtain ⟨_, rfl⟩ := (show ∃ t, u = Value.float y t from ru); exact kia_tup kitx_float I.kIn trivial e1 e nofun fin
  | @lst a xs ea =>
    cases (show u = Value.ref a from ru)
    obtain ⟨_, _, _, _, g⟩ := (show ObjOk X.prog X.w H s.heap a (.lst xs) from I.hok a _ ea)
    exact kia_tup kitx_list I.kIn ⟨_, g, rfl⟩ e1 e nofun fin
  | @frz a ob xs ea =>
    cases (show u = Value.ref a from ru)
    obtain ⟨_, _, _, _, _, g⟩ := (show ObjOk X.prog X.w H s.heap a (.frz ob (.lst xs)) from I.hok a _ ea)
    exact kia_tup kitx_list I.kIn ⟨_, g, rfl⟩ e1 e nofun fin
  | @tup a xs ea =>
    cases (show u = Value.ref a from ru)
    obtain ⟨_, _, _, o, g1, g2, _⟩ := (show ObjOk X.prog X.w H s.heap a (.tup xs) from I.hok a _ ea)
    exact kia_tup kitx_tuple I.kIn ⟨o, g1, g2⟩ e1 e nofun fin
  | @dK a kvs ea =>
    cases (show u = Value.ref a from ru)
    obtain ⟨_, _, _, _, o, _, _, g1, g2, _⟩ := (show ObjOk X.prog X.w H s.heap a (.dK kvs) from I.hok a _ ea)
    exact kia_tup kitx_dict I.kIn ⟨o, g1, g2.1⟩ e1 e nofun fin
  | @dT a kvs ea =>
    cases (show u = Value.ref a from ru)
    obtain ⟨_, _, _, _, o, _, _, g1, g2, _⟩ := (show ObjOk X.prog X.w H s.heap a (.dT kvs) from I.hok a _ ea)
    exact kia_tup kitx_dict I.kIn ⟨o, g1, g2.1⟩ e1 e nofun fin
  | ins => cases hT
theorem callIsiW : CallR X (.builtin "isinstance") (fun xs H Q => rIsi X.K xs H Q ∨ rIsiT X.K xs H Q) := callIsi.or call_isinstT
end
section
variable {X : Cx} {K : PySem.W.Frag} (h : X.K = K)
include h
end
end L2
end
section
open PySem PySem.W PyProof.Rows
namespace L2
open PySem PySem.Spec PyProof.Rows
section
variable {prog : Program} {w : World} {A : Around} {E : Value → Shared → Prop} {s : Shared}
theorem ifC {α : Type} {c : Prop} [Decidable c] {m m' : Sem α} {M : Model} {Q : α → Shared → Prop} (hc : ¬ c) (h : wpAny M A m' Q E s) : wpAny M A (if c then m else m') Q E s := by rw [if_neg hc]; exact h
structure ZipT (h : Heap) (z TI TO i1 i2 l1 l2 : Addr) (k : Nat) : Prop where
  rec_ : IsZip h z TI TO .none
  its : IsPair h TI (.ref i1) (.ref i2)
  old : ∃ a b, IsPair h TO a b
  one : h.IsTupleIter i1 l1 k
  two : h.IsTupleIter i2 l2 k
end
end L2
end
section
open PySem PySem.W PyProof.Rows
namespace P3
open PySem PySem.Spec PyProof.Rows L2
inductive PV where
  | non | bl (b : Bool) | int (i : Int) | str (x : Str) | tup (xs : List PV) | ktup (xs : List PV) | ref (n : Nat) | ty (n : String)
mutual
noncomputable def PV.beq : PV → PV → Bool
  | .non, .non => true
  | .bl a, .bl b => decide (a = b)
  | .int a, .int b => decide (a = b)
  | .str a, .str b => decide (a = b)
  | .tup a, .tup b => PV.beqL a b
  | .ktup a, .ktup b => PV.beqL a b
  | .ref a, .ref b => decide (a = b)
  | .ty a, .ty b => decide (a = b)
  | _, _ => false
noncomputable def PV.beqL : List PV → List PV → Bool
  | [], [] => true
  | a :: x, b :: y => PV.beq a b && PV.beqL x y
  | _, _ => false
end
mutual
theorem PV.beq_iff : ∀ (a b : PV), PV.beq a b = true ↔ a = b
  | .non, b => by cases b <;> simp [PV.beq]
  | .bl _, b => by cases b <;> simp [PV.beq]
  | .int _, b => by cases b <;> simp [PV.beq]
  | .str _, b => by cases b <;> simp [PV.beq]
  | .ref _, b => by cases b <;> simp [PV.beq]
  | .ty _, b => by cases b <;> simp [PV.beq]
  | .tup a, b => by
    cases b with
    | tup b => rw [PV.beq, PV.beqL_iff a b]; simp
    | _ => simp [PV.beq]
  | .ktup a, b => by
    cases b with
    | ktup b => rw [PV.beq, PV.beqL_iff a b]; simp
    | _ => simp [PV.beq]
theorem PV.beqL_iff : ∀ (a b : List PV), PV.beqL a b = true ↔ a = b
  | [], b => by cases b <;> simp [PV.beqL]
  | a :: x, b => by
    cases b with
    | nil => simp [PV.beqL]
    | cons b y => rw [PV.beqL, Bool.and_eq_true, PV.beq_iff a b, PV.beqL_iff x y]; simp
end
instance : DecidableEq PV := fun a b => decidable_of_iff _ (PV.beq_iff a b)
mutual
noncomputable def PV.flat : PV → Bool
  | .ref _ => false
  | .tup xs => PV.flatL xs
  | .ktup xs => PV.flatL xs
  | _ => true
noncomputable def PV.flatL : List PV → Bool
  | [] => true
  | x :: r => x.flat && PV.flatL r
end
mutual
noncomputable def PV.und (n : Nat) : PV → Bool
  | .ref m => decide (m < n)
  | .tup xs => PV.undL n xs
  | .ktup xs => PV.undL n xs
  | _ => true
noncomputable def PV.undL (n : Nat) : List PV → Bool
  | [] => true
  | x :: r => x.und n && PV.undL n r
end
inductive PO where
  | lst (xs : List PV) | fro (xs : List PV) | dct (kvs : List (Key × PV))
  deriving DecidableEq
noncomputable def PO.isMut : PO → Bool
  | .fro _ => false
  | _ => true
noncomputable def PO.und (n : Nat) : PO → Bool
  | .lst xs => PV.undL n xs
  | .fro xs => PV.undL n xs
  | .dct kvs => PV.undL n (kvs.map (·.2))
abbrev PH := List PO
abbrev PEnv := List (Option PV)
noncomputable def KT (K : PySem.W.Frag) (a : Addr) (xs : List V) : Prop := ∃ (o : Obj) (its : Array Value) (n : Nat), K.lookup a = some o ∧ o.cls = .type "tuple" ∧ o.data = .seq its n ∧ its.size ≤ sizeLine ∧ Vals xs its.toList
mutual
noncomputable def rel (K : PySem.W.Frag) (ρ : List Addr) (H : Hp) : PV → V → Prop
  | .non, v => v = .non
  | .bl b, v => v = .bl b
  | .int i, v => v = .int i
  | .str x, v => v = .str x
  | .ty n, v => v = .ty n
  | .ref n, v => ∃ a, ρ[n]? = some a ∧ v = .ref a
  | .tup xs, v => ∃ a vs, v = .ref a ∧ H a = some (.tup vs) ∧ rels K ρ H xs vs
  | .ktup xs, v => ∃ a vs, v = .ref a ∧ KT K a vs ∧ rels K ρ H xs vs
noncomputable def rels (K : PySem.W.Frag) (ρ : List Addr) (H : Hp) : List PV → List V → Prop
  | [], vs => vs = []
  | x :: r, vs => ∃ v t, vs = v :: t ∧ rel K ρ H x v ∧ rels K ρ H r t
end
structure Gr (ρ : List Addr) (H : Hp) (ρ' : List Addr) (H' : Hp) : Prop where
  pre : ∀ (n : Nat) (a : Addr), ρ[n]? = some a → ρ'[n]? = some a
  tup : ∀ a xs, H a = some (.tup xs) → H' a = some (.tup xs)
  frz : ∀ a o u, H a = some (.frz o u) → H' a = some (.frz o u)
theorem Gr.refl (ρ : List Addr) (H : Hp) : Gr ρ H ρ H := ⟨fun _ _ h => h, fun _ _ h => h, fun _ _ _ h => h⟩
theorem Gr.trans {ρ ρ1 ρ2 : List Addr} {H H1 H2 : Hp} (a : Gr ρ H ρ1 H1) (b : Gr ρ1 H1 ρ2 H2) : Gr ρ H ρ2 H2 :=
  ⟨fun n x h => b.pre n x (a.pre n x h), fun x xs h => b.tup x xs (a.tup x xs h), fun x o u h => b.frz x o u (a.frz x o u h)⟩
section
variable {K : PySem.W.Frag} {ρ ρ' : List Addr} {H H' : Hp}
theorem Gr.sqT (g : Gr ρ H ρ' H') {a : Addr} {xs : List V} (h : SqT K H a xs) : SqT K H' a xs := by
  rcases h with (h | ⟨o, h⟩) | h
  · exact .inl (.inl (g.tup _ _ h))
  · exact .inl (.inr ⟨o, g.frz _ _ _ h⟩)
  · exact .inr h
theorem Gr.sqF (g : Gr ρ H ρ' H') {a : Addr} {xs : List V} (h : SqF K H a xs) : SqF K H' a xs := by
  rcases h with ⟨o, h⟩ | h
  · exact .inl ⟨o, g.frz _ _ _ h⟩
  · exact .inr h
mutual
theorem rel.gr (g : Gr ρ H ρ' H') : ∀ (x : PV) (v : V), rel K ρ H x v → rel K ρ' H' x v
  | .non, v, h => by simpa only [rel] using h
  | .bl _, v, h => by simpa only [rel] using h
  | .int _, v, h => by simpa only [rel] using h
  | .str _, v, h => by simpa only [rel] using h
  | .ty _, v, h => by simpa only [rel] using h
  | .ref n, v, h => by
    rw [rel] at h ⊢
    obtain ⟨a, e, h⟩ := h
    exact ⟨a, g.pre _ _ e, h⟩
  | .tup xs, v, h => by
    rw [rel] at h ⊢
    obtain ⟨a, vs, e, s, r⟩ := h
    exact ⟨a, vs, e, g.tup _ _ s, rels.gr g xs vs r⟩
  | .ktup xs, v, h => by
    rw [rel] at h ⊢
    obtain ⟨a, vs, e, s, r⟩ := h
    exact ⟨a, vs, e, s, rels.gr g xs vs r⟩
theorem rels.gr (g : Gr ρ H ρ' H') : ∀ (xs : List PV) (vs : List V), rels K ρ H xs vs → rels K ρ' H' xs vs
  | [], vs, h => by simpa only [rels] using h
  | x :: r, vs, h => by
    rw [rels] at h ⊢
    obtain ⟨v, t, e, h1, h2⟩ := h
    exact ⟨v, t, e, rel.gr g x v h1, rels.gr g r t h2⟩
end
noncomputable def PV.seq? : PV → Option (List PV)
  | .tup xs => some xs
  | .ktup xs => some xs
  | _ => none
theorem rel.seq {x : PV} {xs : List PV} {v : V} (e : x.seq? = some xs) (h : rel K ρ H x v) : ∃ a vs, v = .ref a ∧ SqT K H a vs ∧ rels K ρ H xs vs := by
  cases x <;> simp only [PV.seq?, reduceCtorEq, Option.some.injEq] at e
  · subst e; rw [rel] at h; obtain ⟨a, vs, e, z, r⟩ := h; exact ⟨a, vs, e, .of z, r⟩
  · subst e; rw [rel] at h; obtain ⟨a, vs, e, z, r⟩ := h; exact ⟨a, vs, e, .inr z, r⟩
theorem rels_nil {vs : List V} : rels K ρ H [] vs ↔ vs = [] := by rw [rels]
theorem rels_cons {x : PV} {r : List PV} {vs : List V} : rels K ρ H (x :: r) vs ↔ ∃ v t, vs = v :: t ∧ rel K ρ H x v ∧ rels K ρ H r t := by rw [rels]
theorem rels.len : ∀ {xs : List PV} {vs : List V}, rels K ρ H xs vs → xs.length = vs.length
  | [], vs, h => by rw [rels_nil] at h; rw [h]; rfl
  | x :: r, vs, h => by
    obtain ⟨v, t, rfl, _, h2⟩ := rels_cons.mp h
    simp [rels.len h2]
theorem rels.get : ∀ {xs : List PV} {vs : List V} {i : Nat} {x : PV}, rels K ρ H xs vs → xs[i]? = some x → ∃ v, vs[i]? = some v ∧ rel K ρ H x v
  | [], vs, i, x, h, e => by simp at e
  | y :: r, vs, i, x, h, e => by
    obtain ⟨v, t, rfl, h1, h2⟩ := rels_cons.mp h
    cases i with
    | zero => simp at e; subst e; exact ⟨v, rfl, h1⟩
    | succ i => simpa using rels.get h2 (by simpa using e)
theorem rels.app : ∀ {xs ys : List PV} {vs ws : List V}, rels K ρ H xs vs → rels K ρ H ys ws → rels K ρ H (xs ++ ys) (vs ++ ws)
  | [], ys, vs, ws, h, h' => by rw [rels_nil] at h; subst h; exact h'
  | x :: r, ys, vs, ws, h, h' => by
    obtain ⟨v, t, rfl, h1, h2⟩ := rels_cons.mp h
    exact rels_cons.mpr ⟨v, t ++ ws, rfl, h1, rels.app h2 h'⟩
theorem rels.one {x : PV} {v : V} (h : rel K ρ H x v) : rels K ρ H [x] [v] := rels_cons.mpr ⟨v, [], rfl, h, rels_nil.mpr rfl⟩
theorem rels.take : ∀ {xs : List PV} {vs : List V} (n : Nat), rels K ρ H xs vs → rels K ρ H (xs.take n) (vs.take n)
  | xs, vs, 0, h => by simp [rels_nil]
  | [], vs, n + 1, h => by rw [rels_nil] at h; subst h; simp [rels_nil]
  | x :: r, vs, n + 1, h => by
    obtain ⟨v, t, rfl, h1, h2⟩ := rels_cons.mp h
    exact rels_cons.mpr ⟨v, t.take n, rfl, h1, rels.take n h2⟩
theorem rels.drop : ∀ {xs : List PV} {vs : List V} (n : Nat), rels K ρ H xs vs → rels K ρ H (xs.drop n) (vs.drop n)
  | xs, vs, 0, h => h
  | [], vs, n + 1, h => by rw [rels_nil] at h; subst h; simp [rels_nil]
  | x :: r, vs, n + 1, h => by
    obtain ⟨v, t, rfl, h1, h2⟩ := rels_cons.mp h
    exact rels.drop n h2
theorem rels.set : ∀ {xs : List PV} {vs : List V} {x : PV} {v : V} (i : Nat), rels K ρ H xs vs → rel K ρ H x v → rels K ρ H (xs.set i x) (vs.set i v)
  | [], vs, x, v, i, h, hv => by rw [rels_nil] at h; subst h; simp [rels_nil]
  | y :: r, vs, x, v, i, h, hv => by
    obtain ⟨w, t, rfl, h1, h2⟩ := rels_cons.mp h
    cases i with
    | zero => exact rels_cons.mpr ⟨v, t, rfl, hv, h2⟩
    | succ i => exact rels_cons.mpr ⟨w, t.set i v, rfl, h1, rels.set i h2 hv⟩
theorem rels.ints : ∀ (ns : List Int), rels K ρ H (ns.map PV.int) (ns.map V.int)
  | [] => rels_nil.mpr rfl
  | n :: r => rels_cons.mpr ⟨.int n, r.map V.int, rfl, by rw [rel], rels.ints r⟩
end
noncomputable def relO (K : PySem.W.Frag) (ρ : List Addr) (H : Hp) (a : Addr) : PO → Prop
  | .lst xs => ∃ vs, H a = some (.lst vs) ∧ rels K ρ H xs vs
  | .fro xs => ∃ vs, SqF K H a vs ∧ rels K ρ H xs vs
  | .dct kvs => ∃ kws, H a = some (.dK kws) ∧ Paired (fun (p : Key × PV) (q : Key × V) => p.1 = q.1 ∧ rel K ρ H p.2 q.2) kvs kws
structure Sim (K : PySem.W.Frag) (ρ : List Addr) (h : PH) (H : Hp) : Prop where
  len : ρ.length = h.length
  nd : ∀ (i j : Nat) (a : Addr) (oi oj : PO), h[i]? = some oi → h[j]? = some oj → oi.isMut = true → oj.isMut = true → ρ[i]? = some a → ρ[j]? = some a → i = j
  ob : ∀ (i : Nat) (o : PO) (a : Addr), h[i]? = some o → ρ[i]? = some a → relO K ρ H a o
section
variable {K : PySem.W.Frag} {ρ ρ' : List Addr} {H H' : Hp} {h : PH}
theorem Sim.at (s : Sim K ρ h H) {i : Nat} {o : PO} (e : h[i]? = some o) : ∃ a, ρ[i]? = some a ∧ relO K ρ H a o := by
  have hi : i < ρ.length := by rw [s.len]; exact (List.getElem?_eq_some_iff.mp e).1
  exact ⟨ρ[i], List.getElem?_eq_getElem hi, s.ob i o _ e (List.getElem?_eq_getElem hi)⟩
theorem Paired.rels_keys {kvs : List (Key × PV)} {kws : List (Key × V)} (g : Gr ρ H ρ' H') (h : Paired (fun (p : Key × PV) (q : Key × V) => p.1 = q.1 ∧ rel K ρ H p.2 q.2) kvs kws) :
    Paired (fun (p : Key × PV) (q : Key × V) => p.1 = q.1 ∧ rel K ρ' H' p.2 q.2) kvs kws := Paired.mapP h fun _ _ z => ⟨z.1, rel.gr g _ _ z.2⟩
theorem relO_mut {a : Addr} {o : PO} (m : o.isMut = true) (r : relO K ρ H a o) : (∃ vs, H a = some (.lst vs)) ∨ ∃ kws, H a = some (.dK kws) := by
  cases o with
  | lst xs => obtain ⟨vs, e, _⟩ := r; exact .inl ⟨vs, e⟩
  | fro xs => exact nomatch m
  | dct kvs => obtain ⟨kws, e, _⟩ := r; exact .inr ⟨kws, e⟩
theorem relO_keep {a : Addr} {o : PO} (g : Gr ρ H ρ' H') (k : o.isMut = true → H' a = H a) (r : relO K ρ H a o) : relO K ρ' H' a o := by
  cases o with
  | lst xs => obtain ⟨vs, e, r⟩ := r; exact ⟨vs, (k rfl).trans e, rels.gr g _ _ r⟩
  | fro xs => obtain ⟨vs, e, r⟩ := r; exact ⟨vs, g.sqF e, rels.gr g _ _ r⟩
  | dct kvs => obtain ⟨kws, e, r⟩ := r; exact ⟨kws, (k rfl).trans e, Paired.rels_keys g r⟩
theorem Gr.new {p : Addr} {o : HO} (hp : H p = none) (l : List Addr) : Gr ρ H (ρ ++ l) (upd H p o) :=
  ⟨fun n a e => by rw [List.getElem?_append_left (List.getElem?_eq_some_iff.mp e).1]; exact e,
   fun a xs e => by rw [upd_ne (ne_of_none e hp)]; exact e, fun a o u e => by rw [upd_ne (ne_of_none e hp)]; exact e⟩
theorem Gr.new0 {p : Addr} {o : HO} (hp : H p = none) : Gr ρ H ρ (upd H p o) := by simpa using Gr.new (ρ := ρ) (o := o) hp []
theorem Sim.tup (s : Sim K ρ h H) {p : Addr} {o : HO} (hp : H p = none) : Sim K ρ h (upd H p o) :=
  ⟨s.len, s.nd, fun i x a e1 e2 => relO_keep (Gr.new0 hp) (fun m => by
    have := relO_mut m (s.ob i x a e1 e2)
    refine upd_ne ?_
    rcases this with ⟨_, z⟩ | ⟨_, z⟩ <;> exact ne_of_none z hp) (s.ob i x a e1 e2)⟩
theorem Sim.new (s : Sim K ρ h H) {p : Addr} {ho : HO} {o : PO} (hp : H p = none) (r : relO K (ρ ++ [p]) (upd H p ho) p o) : Sim K (ρ ++ [p]) (h ++ [o]) (upd H p ho) := by
  have g : Gr ρ H (ρ ++ [p]) (upd H p ho) := Gr.new hp [p]
  have old : ∀ {i : Nat} {x : PO}, (h ++ [o])[i]? = some x → (i < h.length ∧ h[i]? = some x) ∨ (i = h.length ∧ x = o) := fun {i x} e => by
    rcases Nat.lt_or_ge i h.length with z | z
    · rw [List.getElem?_append_left z] at e; exact .inl ⟨z, e⟩
    · rw [List.getElem?_append_right z] at e
      have : i - h.length = 0 := by
        rcases Nat.eq_zero_or_pos (i - h.length) with y | y
        · exact y
        · rw [List.getElem?_eq_none (by simp; omega)] at e; exact nomatch e
      rw [this] at e
      exact .inr ⟨by omega, by simpa using e.symm⟩
  have oldρ : ∀ {i : Nat} {a : Addr}, i < h.length → (ρ ++ [p])[i]? = some a → ρ[i]? = some a := fun {i a} z e => by
    rw [List.getElem?_append_left (by rw [s.len]; exact z)] at e; exact e
  have newρ : ∀ {a : Addr}, (ρ ++ [p])[h.length]? = some a → a = p := fun {a} e => by
    rw [← s.len, List.getElem?_append_right (Nat.le_refl _)] at e
    simpa using e.symm
  refine ⟨by simp [s.len], fun i j a oi oj ei ej mi mj ri rj => ?_, fun i x a e1 e2 => ?_⟩
  · rcases old ei with ⟨zi, ei⟩ | ⟨zi, ei⟩ <;> rcases old ej with ⟨zj, ej⟩ | ⟨zj, ej⟩
    · exact s.nd i j a oi oj ei ej mi mj (oldρ zi ri) (oldρ zj rj)
    · subst zj
      have := relO_mut mi (s.ob i oi a ei (oldρ zi ri))
      rw [newρ rj] at this
      rcases this with ⟨_, z⟩ | ⟨_, z⟩ <;> (rw [hp] at z; exact nomatch z)
    · subst zi
      have := relO_mut mj (s.ob j oj a ej (oldρ zj rj))
      rw [newρ ri] at this
      rcases this with ⟨_, z⟩ | ⟨_, z⟩ <;> (rw [hp] at z; exact nomatch z)
    · rw [zi, zj]
  · rcases old e1 with ⟨z, e⟩ | ⟨z, e⟩
    · refine relO_keep g (fun m => ?_) (s.ob i x a e (oldρ z e2))
      have := relO_mut m (s.ob i x a e (oldρ z e2))
      refine upd_ne ?_
      rcases this with ⟨_, y⟩ | ⟨_, y⟩ <;> exact ne_of_none y hp
    · subst z; subst e; rw [newρ e2]; exact r
theorem Gr.write {a : Addr} {ho : HO} (m : (∃ vs, H a = some (.lst vs)) ∨ ∃ kws, H a = some (.dK kws)) : Gr ρ H ρ (upd H a ho) :=
  ⟨fun _ _ h => h, fun b xs e => by rw [upd_ne]; · exact e
                                    · rintro rfl; rcases m with ⟨_, z⟩ | ⟨_, z⟩ <;> (rw [e] at z; exact nomatch z),
   fun b o u e => by rw [upd_ne]; · exact e
                     · rintro rfl; rcases m with ⟨_, z⟩ | ⟨_, z⟩ <;> (rw [e] at z; exact nomatch z)⟩
theorem Sim.write (s : Sim K ρ h H) {i : Nat} {a : Addr} {ho : HO} {o o' : PO} (e : h[i]? = some o) (ea : ρ[i]? = some a) (m : o.isMut = true) (m' : o'.isMut = true) (r : relO K ρ (upd H a ho) a o') :
    Sim K ρ (h.set i o') (upd H a ho) := by
  have ma := relO_mut m (s.ob i o a e ea)
  have g : Gr ρ H ρ (upd H a ho) := Gr.write ma
  have hi : i < h.length := (List.getElem?_eq_some_iff.mp e).1
  have at_ : ∀ {j : Nat} {x : PO}, (h.set i o')[j]? = some x → (j = i ∧ x = o') ∨ (j ≠ i ∧ h[j]? = some x) := fun {j x} q => by
    by_cases z : j = i
    · subst z; rw [List.getElem?_set_self hi] at q; exact .inl ⟨rfl, by simpa using q.symm⟩
    · rw [List.getElem?_set_ne (Ne.symm z)] at q; exact .inr ⟨z, q⟩
  refine ⟨by simp [s.len], fun j k b oj ok ej ek mj mk rj rk => ?_, fun j x b e1 e2 => ?_⟩
  · rcases at_ ej with ⟨zj, _⟩ | ⟨_, ej2⟩ <;> rcases at_ ek with ⟨zk, _⟩ | ⟨_, ek2⟩
    · rw [zj, zk]
    · rw [zj] at rj ⊢; exact s.nd _ _ b o ok e ek2 m mk rj rk
    · rw [zk] at rk ⊢; exact s.nd _ _ b oj o ej2 e mj m rj rk
    · exact s.nd j k b oj ok ej2 ek2 mj mk rj rk
  · rcases at_ e1 with ⟨rfl, rfl⟩ | ⟨z, e1⟩
    · rw [ea] at e2; cases e2; exact r
    · refine relO_keep g (fun mx => upd_ne fun q => z ?_) (s.ob j x b e1 e2)
      subst q
      exact s.nd j i b x o e1 e mx m e2 ea
end
end P3
end
section
open PySem PySem.W PyProof.Rows
namespace P3
open PySem PySem.Spec PyProof.Rows L2
inductive RV (α : Type) where
  | ok (a : α) (h : PH) | ex (c : String) (vs : List PV) (h : PH) | no
variable {α β : Type}
noncomputable def RV.bind : RV α → (α → PH → RV β) → RV β
  | .ok a h, f => f a h
  | .ex c vs h, _ => .ex c vs h
  | .no, _ => .no
theorem bind_ok {a : α} {h : PH} {f : α → PH → RV β} : (RV.ok a h).bind f = f a h := rfl
theorem bind_eq {r : RV α} {f : α → PH → RV β} {b : β} {h' : PH} : r.bind f = .ok b h' ↔ ∃ a h, r = .ok a h ∧ f a h = .ok b h' := by
  cases r with
  | ok a h => exact ⟨fun e => ⟨a, h, rfl, e⟩, fun ⟨a', h2, e, q⟩ => by cases e; exact q⟩
  | ex c vs h => exact ⟨fun e => (nomatch e), fun ⟨_, _, e, _⟩ => (nomatch e)⟩
  | no => exact ⟨fun e => (nomatch e), fun ⟨_, _, e, _⟩ => (nomatch e)⟩
theorem bind_ite {c : Prop} [Decidable c] {a b : RV α} {f : α → PH → RV β} : (if c then a else b).bind f = if c then a.bind f else b.bind f := by split <;> rfl
noncomputable def Ok (r : RV α) (Q : α → PH → Prop) : Prop := ∃ a h, r = .ok a h ∧ Q a h
theorem Ok.mono {r : RV α} {Q Q' : α → PH → Prop} (h : Ok r Q) (f : ∀ a h, Q a h → Q' a h) : Ok r Q' := let ⟨a, h, e, q⟩ := h; ⟨a, h, e, f _ _ q⟩
abbrev CF := String → List PV → PH → RV PV
abbrev ME := CF → PEnv → PH → RV PV
abbrev MT := CF → PEnv → PH → RV Bool
abbrev MA := CF → PEnv → PH → RV (List PV)
inductive Fl where
  | nx (e : PEnv) | rt (v : PV) | bk (e : PEnv) | ct (e : PEnv)
abbrev MS := CF → PEnv → PH → RV Fl
abbrev MG := PV → PEnv → PH → RV PEnv
structure PIt where
  gd : Option Nat
  items : List PV
abbrev MI := CF → PEnv → PH → RV PIt
structure Df where
  ps : List Str
  nl : Nat
  body : MS
structure Tb where
  fns : String → Option Df
  con : Str → Option PV
  dcs : Str → Option (List (Key × PV))
noncomputable def okDrop (n : Nat) : PH → PH → Bool
  | [], _ => true
  | _ :: _, [] => false
  | o :: h, o' :: h' => (decide (o = o') || (o'.und n && o.isMut == o'.isMut)) && okDrop n h h'
noncomputable def settle (h : PH) (v : PV) (h' : PH) : RV PV := if (v.flat && okDrop h.length h h') = true then .ok v (h'.take h.length) else .ok v h'
theorem okDrop_app (n : Nat) : ∀ (h g : PH), okDrop n h (h ++ g) = true
  | [], g => rfl
  | o :: h, g => by rw [List.cons_append, okDrop, okDrop_app n h g]; simp
theorem okDrop_set {n : Nat} {o' : PO} (hu : o'.und n = true) : ∀ (h h' : PH) (i : Nat) (o : PO), okDrop n h h' = true → h[i]? = some o → o.isMut = o'.isMut → okDrop n h (h'.set i o') = true
  | [], h', i, o, _, e, _ => by simp at e
  | a :: h, [], i, o, q, _, _ => by simp [okDrop] at q
  | a :: h, b :: h', 0, o, q, e, m => by
    rw [okDrop, Bool.and_eq_true] at q
    simp at e; subst e
    rw [List.set_cons_zero, okDrop, q.2, hu, m]; simp
  | a :: h, b :: h', i + 1, o, q, e, m => by
    rw [okDrop, Bool.and_eq_true] at q
    rw [List.set_cons_succ, okDrop, okDrop_set hu h h' i o q.2 (by simpa using e) m, q.1]; rfl
theorem okDrop_len {n : Nat} : ∀ {h h' : PH}, okDrop n h h' = true → h.length ≤ h'.length
  | [], h', _ => Nat.zero_le _
  | o :: h, [], e => by simp [okDrop] at e
  | o :: h, o' :: h', e => by
    rw [okDrop, Bool.and_eq_true] at e
    simp only [List.length_cons]
    exact Nat.succ_le_succ (okDrop_len e.2)
theorem okDrop_at {n : Nat} : ∀ {h h' : PH} {i : Nat} {o' : PO}, okDrop n h h' = true → (h'.take h.length)[i]? = some o' → ∃ o, h[i]? = some o ∧ o.isMut = o'.isMut ∧ (o = o' ∨ o'.und n = true)
  | [], h', i, o', _, e => by simp at e
  | a :: h, [], i, o', q, _ => by simp [okDrop] at q
  | a :: h, b :: h', 0, o', q, e => by
    rw [okDrop, Bool.and_eq_true, Bool.or_eq_true, Bool.and_eq_true] at q
    simp at e; subst e
    refine ⟨a, rfl, ?_, ?_⟩
    · rcases q.1 with z | z
      · rw [of_decide_eq_true z]
      · simpa using z.2
    · rcases q.1 with z | z
      · exact .inl (of_decide_eq_true z)
      · exact .inr z.1
  | a :: h, b :: h', i + 1, o', q, e => by
    rw [okDrop, Bool.and_eq_true] at q
    simpa using okDrop_at q.2 (by simpa using e)
noncomputable def run (pg : Tb) : Nat → CF
  | 0, _, _, _ => .no
  | k + 1, f, vs, h => match pg.fns f with
    | none => .no
    | some d => if vs.length = d.ps.length then
        (match d.body (run pg k) (vs.map some ++ List.replicate d.nl none) h with
        | .ok (.rt v) h' => settle h v h'
        | .ok (.nx _) h' => settle h .non h'
        | .ok _ _ => .no
        | .ex c us h' => .ex c us h'
        | .no => .no)
      else .no
noncomputable def PostV (K : PySem.W.Frag) (ρ : List Addr) (H : Hp) (v : PV) (h' : PH) (Q : VK) : Prop := ∀ v' ρ' H', Gr ρ H ρ' H' → Sim K ρ' h' H' → rel K ρ' H' v v' → Q v' H'
noncomputable def PostB (K : PySem.W.Frag) (ρ : List Addr) (H : Hp) (h' : PH) (Q : Hp → Prop) : Prop := ∀ ρ' H', Gr ρ H ρ' H' → Sim K ρ' h' H' → Q H'
noncomputable def PostA (K : PySem.W.Frag) (ρ : List Addr) (H : Hp) (vs : List PV) (h' : PH) (Q : List V → Hp → Prop) : Prop := ∀ us ρ' H', Gr ρ H ρ' H' → Sim K ρ' h' H' → rels K ρ' H' vs us → Q us H'
structure REnv (K : PySem.W.Frag) (ρ : List Addr) (H : Hp) (e : PEnv) (σ : L2.St) : Prop where
  len : e.length = σ.length
  get : ∀ (i : Nat) (v : PV), e[i]? = some (some v) → ∃ v', σ[i]? = some (some v') ∧ rel K ρ H v v'
noncomputable def PostE (K : PySem.W.Frag) (ρ : List Addr) (H : Hp) (e' : PEnv) (h' : PH) (Q : L2.St → Hp → Prop) : Prop := ∀ σ' ρ' H', Gr ρ H ρ' H' → Sim K ρ' h' H' → REnv K ρ' H' e' σ' → Q σ' H'
noncomputable def PostF (K : PySem.W.Frag) (ρ : List Addr) (H : Hp) (D : Ends) (h' : PH) : Fl → Prop
  | .nx e => PostE K ρ H e h' D.nx
  | .bk e => PostE K ρ H e h' D.bk
  | .ct e => PostE K ρ H e h' D.ct
  | .rt v => PostV K ρ H v h' D.rt
section
variable {K : PySem.W.Frag} {ρ ρ1 : List Addr} {H H1 : Hp} {h' : PH}
theorem REnv.gr {e : PEnv} {σ : L2.St} (r : REnv K ρ H e σ) (g : Gr ρ H ρ1 H1) : REnv K ρ1 H1 e σ := ⟨r.len, fun i v q => let ⟨v', a, b⟩ := r.get i v q; ⟨v', a, rel.gr g _ _ b⟩⟩
theorem REnv.set {e : PEnv} {σ : L2.St} {v : PV} {v' : V} (r : REnv K ρ H e σ) (i : Nat) (h : rel K ρ H v v') : REnv K ρ H (e.set i (some v)) (σ.set i (some v')) := by
  refine ⟨by simp [r.len], fun j x q => ?_⟩
  by_cases z : j = i
  · subst z
    have hj : j < e.length := by
      have := (List.getElem?_eq_some_iff.mp q).1
      simpa using this
    rw [List.getElem?_set_self hj] at q
    cases q
    exact ⟨v', List.getElem?_set_self (by rw [← r.len]; exact hj), h⟩
  · rw [List.getElem?_set_ne (Ne.symm z)] at q ⊢
    exact r.get j x q
theorem REnv.more {e : PEnv} {σ : L2.St} (r : REnv K ρ H e σ) (k : Nat) : REnv K ρ H (e ++ List.replicate k none) (σ ++ List.replicate k none) := by
  refine ⟨by simp [r.len], fun j x q => ?_⟩
  rcases Nat.lt_or_ge j e.length with z | z
  · rw [List.getElem?_append_left z] at q
    rw [List.getElem?_append_left (by rw [← r.len]; exact z)]
    exact r.get j x q
  · rw [List.getElem?_append_right z, List.getElem?_replicate] at q
    split at q <;> exact nomatch q
theorem PostV.gr {v : PV} {Q : VK} (p : PostV K ρ H v h' Q) (g : Gr ρ H ρ1 H1) : PostV K ρ1 H1 v h' Q := fun v' ρ' H' g' => p v' ρ' H' (g.trans g')
theorem PostB.gr {Q : Hp → Prop} (p : PostB K ρ H h' Q) (g : Gr ρ H ρ1 H1) : PostB K ρ1 H1 h' Q := fun ρ' H' g' => p ρ' H' (g.trans g')
theorem PostA.gr {vs : List PV} {Q : List V → Hp → Prop} (p : PostA K ρ H vs h' Q) (g : Gr ρ H ρ1 H1) : PostA K ρ1 H1 vs h' Q := fun v' ρ' H' g' => p v' ρ' H' (g.trans g')
theorem PostE.gr {e : PEnv} {Q : L2.St → Hp → Prop} (p : PostE K ρ H e h' Q) (g : Gr ρ H ρ1 H1) : PostE K ρ1 H1 e h' Q := fun v' ρ' H' g' => p v' ρ' H' (g.trans g')
theorem PostF.gr {D : Ends} {f : Fl} (p : PostF K ρ H D h' f) (g : Gr ρ H ρ1 H1) : PostF K ρ1 H1 D h' f := by
  cases f with
  | nx e => exact PostE.gr p g
  | bk e => exact PostE.gr p g
  | ct e => exact PostE.gr p g
  | rt e => exact PostV.gr p g
end
noncomputable def SE (c : CF) (K : PySem.W.Frag) (t : TE) (m : ME) : Prop := ∀ ρ h H e σ Q v h', Sim K ρ h H → REnv K ρ H e σ → m c e h = .ok v h' → PostV K ρ H v h' Q → t σ H Q
noncomputable def ST (c : CF) (K : PySem.W.Frag) (t : TT) (m : MT) : Prop := ∀ ρ h H e σ Q b h', Sim K ρ h H → REnv K ρ H e σ → m c e h = .ok b h' → PostB K ρ H h' (Q b) → t σ H Q
noncomputable def SA (c : CF) (K : PySem.W.Frag) (t : TA) (m : MA) : Prop := ∀ ρ h H e σ Q vs h', Sim K ρ h H → REnv K ρ H e σ → m c e h = .ok vs h' → PostA K ρ H vs h' Q → t σ H Q
noncomputable def SS (c : CF) (K : PySem.W.Frag) (t : TS) (m : MS) : Prop := ∀ ρ h H e σ D f h', Sim K ρ h H → REnv K ρ H e σ → m c e h = .ok f h' → PostF K ρ H D h' f → t D σ H
noncomputable def SG (K : PySem.W.Frag) (t : TG) (m : MG) : Prop := ∀ ρ h H e σ Q v v' e' h', Sim K ρ h H → REnv K ρ H e σ → rel K ρ H v v' → m v e h = .ok e' h' → PostE K ρ H e' h' Q → t v' σ H Q
noncomputable def PIt.fine (it : PIt) (h : PH) : Bool := match it.gd with
  | none => true
  | some n => decide (h[n]? = some (.lst it.items) ∨ h[n]? = some (.fro it.items))
noncomputable def SIt (K : PySem.W.Frag) (ρ0 : List Addr) (H0 : Hp) (J : It) (it : PIt) : Prop := ∀ i ρ h H, Gr ρ0 H0 ρ H → Sim K ρ h H → it.fine h = true →
  (∀ x, it.items[i]? = some x → J.go i H ∧ ∀ v H', J.yld i H v H' → ∃ ρ', Gr ρ H ρ' H' ∧ Sim K ρ' h H' ∧ rel K ρ' H' x v) ∧ (i = it.items.length → J.stop i H)
noncomputable def SI (c : CF) (K : PySem.W.Frag) (t : TI) (m : MI) : Prop := ∀ ρ h H e σ R it h', Sim K ρ h H → REnv K ρ H e σ → m c e h = .ok it h' → (∀ ρ' H' J, Gr ρ H ρ' H' → Sim K ρ' h' H' → SIt K ρ' H' J it → R J H') → t σ H R
noncomputable def spOf (K : PySem.W.Frag) (pg : Tb) (k : Nat) (f : String) : Sp := fun vs H Q _ => ∃ ρ h args v h', Sim K ρ h H ∧ rels K ρ H args vs ∧ run pg k f args h = .ok v h' ∧ PostV K ρ H v h' Q
noncomputable def bltNames : List Str := ["len", "range", "isinstance", "int", "bool", "tuple", "dict", "sorted", "min", "max", "abs", "all", "any", "sum", "str", "list", "zip", "set", "repr", "enumerate"]
structure Amb (X : Cx) (pg : Tb) (k : Nat) : Prop where
  room : Room k X.A
  calm : X.calm = true
  nox : ∀ v s, ¬ X.xe v s
  defs : ∀ f d, pg.fns f = some d → DefOk X.prog X.w X.K X.mg X.base (Str.ofString f) k d.ps (spOf X.K pg k f)
  blt : ∀ x ∈ bltNames, X.mg x = none
  con : ∀ x v, pg.con x = some v → ∃ u v', X.mg x = some u ∧ RelV v' u ∧ ∀ ρ H, rel X.K ρ H v v'
  dcs : ∀ x kvs, pg.dcs x = some kvs → ∃ a kws, X.mg x = some (.ref a) ∧ KD X.prog X.w X.K a kws ∧ ∀ ρ H, Paired (fun (p : Key × PV) (q : Key × V) => p.1 = q.1 ∧ rel X.K ρ H p.2 q.2) kvs kws
theorem Amb.blk {X : Cx} {pg : Tb} {k : Nat} (a : Amb X pg k) (vars : List Str) (scope : Scope) (cl : List (Str × Addr)) (C : Addr) (s₀ : Shared) (H₀ : Hp) (ex : List Addr) (pn : List (Addr × Obj)) : Amb (blk X vars scope cl C s₀ H₀ ex pn) pg k :=
  ⟨a.room, a.calm, a.nox, a.defs, a.blt, a.con, a.dcs⟩
structure JE (X : Cx) (pg : Tb) (k : Nat) (e : Expr) (m : ME) : Prop where h : Amb X pg k → ∃ t, QE X e t ∧ SE (run pg k) X.K t m
structure JT (X : Cx) (pg : Tb) (k : Nat) (e : Expr) (m : MT) : Prop where h : Amb X pg k → ∃ t, QT X e t ∧ ST (run pg k) X.K t m
structure JW (X : Cx) (pg : Tb) (k : Nat) (e : Expr) (m : MT) : Prop where h : Amb X pg k → ∃ t, QW X e t ∧ ST (run pg k) X.K t m
structure JA (X : Cx) (pg : Tb) (k : Nat) (e : List Expr) (m : MA) : Prop where h : Amb X pg k → ∃ t, QA X e t ∧ SA (run pg k) X.K t m
structure JS (X : Cx) (pg : Tb) (k : Nat) (s : Stmt) (m : MS) : Prop where h : Amb X pg k → ∃ t, QS X s t ∧ SS (run pg k) X.K t m
structure JSs (X : Cx) (pg : Tb) (k : Nat) (s : List Stmt) (m : MS) : Prop where h : Amb X pg k → ∃ t, QSs X s t ∧ SS (run pg k) X.K t m
structure JG (X : Cx) (pg : Tb) (k : Nat) (e : Expr) (m : MG) : Prop where h : Amb X pg k → ∃ t, QG X e t ∧ SG X.K t m
structure JI (X : Cx) (pg : Tb) (k : Nat) (tg e : Expr) (m : MI) : Prop where h : Amb X pg k → ∃ t, QI X tg e t ∧ SI (run pg k) X.K t m
structure JF (X : Cx) (pg : Tb) (k : Nat) (es : List Expr) (m : MT) : Prop where h : Amb X pg k → ∃ t, QF X es t ∧ ST (run pg k) X.K t m
noncomputable def SOp (K : PySem.W.Frag) (r : R2) (f : PV → PV → PH → RV PV) : Prop := ∀ ρ h H x y x' y' Q v h', Sim K ρ h H → rel K ρ H x x' → rel K ρ H y y' → f x y h = .ok v h' → PostV K ρ H v h' Q → r x' y' H Q
noncomputable def SCl (K : PySem.W.Frag) (r : List V → Hp → VK → Prop) (f : List PV → PH → RV PV) : Prop := ∀ ρ h H xs us Q v h', Sim K ρ h H → rels K ρ H xs us → f xs h = .ok v h' → PostV K ρ H v h' Q → r us H Q
noncomputable def SMt (K : PySem.W.Frag) (T : String) (r : V → List V → Hp → VK → Prop) (f : PV → List PV → PH → RV PV) (ty : PV → PH → Bool) : Prop :=
  (∀ ρ h H x x', Sim K ρ h H → rel K ρ H x x' → ty x h = true → tyV K T x' H) ∧
  ∀ ρ h H x x' xs us Q v h', Sim K ρ h H → rel K ρ H x x' → rels K ρ H xs us → f x xs h = .ok v h' → PostV K ρ H v h' Q → r x' us H Q
end P3
end
section
open PySem PySem.W PyProof.Rows
namespace P3
open PySem PySem.Spec PyProof.Rows L2
noncomputable def eVar (i : Nat) : ME := fun _ e h => match e[i]? with
  | some (some v) => .ok v h
  | _ => .no
noncomputable def eC (v : PV) : ME := fun _ _ h => .ok v h
noncomputable def eOp (f : PV → PV → PH → RV PV) (a b : ME) : ME := fun c e h => (a c e h).bind fun x h1 => (b c e h1).bind fun y h2 => f x y h2
noncomputable def eUn (f : PV → PH → RV PV) (a : ME) : ME := fun c e h => (a c e h).bind f
noncomputable def asB (v : PV) (h : PH) : RV Bool := match v with
  | .bl b => .ok b h
  | _ => .no
noncomputable def eAnd (a b : ME) : ME := fun c e h => ((a c e h).bind asB).bind fun x h1 => if x = true then b c e h1 else .ok (.bl false) h1
noncomputable def eOr (a b : ME) : ME := fun c e h => ((a c e h).bind asB).bind fun x h1 => if x = true then .ok (.bl true) h1 else b c e h1
noncomputable def eNot (a : ME) : ME := fun c e h => ((a c e h).bind asB).bind fun x h1 => .ok (.bl (!x)) h1
noncomputable def eIf (t : MT) (a b : ME) : ME := fun c e h => (t c e h).bind fun x h1 => if x = true then a c e h1 else b c e h1
noncomputable def mVal (a : ME) : MT := fun c e h => (a c e h).bind asB
noncomputable def mAnd (a b : MT) : MT := fun c e h => (a c e h).bind fun x h1 => if x = true then b c e h1 else .ok false h1
noncomputable def mOr (a b : MT) : MT := fun c e h => (a c e h).bind fun x h1 => if x = true then .ok true h1 else b c e h1
noncomputable def mNot (a : MT) : MT := fun c e h => (a c e h).bind fun x h1 => .ok (!x) h1
noncomputable def mTrue : MT := fun _ _ h => .ok true h
noncomputable def aNil : MA := fun _ _ h => .ok [] h
noncomputable def aCons (a : ME) (r : MA) : MA := fun c e h => (a c e h).bind fun x h1 => (r c e h1).bind fun xs h2 => .ok (x :: xs) h2
noncomputable def few (n : Nat) (r : RV α) : RV α := if n ≤ sizeLine then r else .no
noncomputable def eTup (r : MA) : ME := fun c e h => (r c e h).bind fun xs h1 => few xs.length (.ok (.tup xs) h1)
noncomputable def eLst (r : MA) : ME := fun c e h => (r c e h).bind fun xs h1 => few xs.length (.ok (.ref h1.length) (h1 ++ [.lst xs]))
noncomputable def eCall (f : String) (r : MA) : ME := fun c e h => (r c e h).bind fun xs h1 => c f xs h1
noncomputable def eB (f : List PV → PH → RV PV) (r : MA) : ME := fun c e h => (r c e h).bind f
noncomputable def eM (f : PV → List PV → PH → RV PV) (ty : PV → PH → Bool) (a : ME) (r : MA) : ME := fun c e h => (a c e h).bind fun x h1 => if ty x h1 = true then (r c e h1).bind fun xs h2 => f x xs h2 else .no
theorem few_ok {n : Nat} {r : RV α} {a : α} {h : PH} : few n r = .ok a h ↔ n ≤ sizeLine ∧ r = .ok a h := by
  unfold few; split
  · exact ⟨fun e => ⟨by assumption, e⟩, fun e => e.2⟩
  · exact ⟨fun e => (nomatch e), fun e => absurd e.1 (by assumption)⟩
theorem asB_ok {v : PV} {h h' : PH} {b : Bool} : asB v h = .ok b h' ↔ v = .bl b ∧ h' = h := by
  cases v <;> simp [asB, eq_comm]
section
variable {X : Cx} {pg : Tb} {k : Nat} {a b c d e : Expr} {es : List Expr} {ma mb mc md : ME} {mr : MA} {mt mt' : MT} {pos p pos' apos cpos : Pos} {x : Str}
theorem je_var (i : Nat) {x : Str} {pos : Pos} (hN : X.N[i]? = some x := by rfl) (hv : Vis X.env.scope x := by first | exact Or.inl rfl | exact Or.inr (Or.inl rfl) | exact Or.inr (Or.inr rfl)) (hd : (x == ("__debug__" : Str)) = false := by decide)
    (hcd : (x == ("__classdict__" : Str)) = false := by decide) : JE X pg k (.Name x pos) (eVar i) := ⟨fun A => ⟨_, qv i hN hv hd hcd, fun ρ h H e σ Q v h' s r q P => by
  unfold eVar at q
  split at q
  · cases q
    obtain ⟨v', e1, e2⟩ := r.get i v (by assumption)
    exact ⟨v', e1, P v' ρ H (.refl _ _) s e2⟩
  · exact nomatch q⟩⟩
theorem se_c {cf : CF} {K : PySem.W.Frag} {v : PV} {v' : V} (hr : ∀ ρ H, rel K ρ H v v') : SE cf K (tC v') (eC v) := fun ρ h H e σ Q w h' s r q P => by cases q; exact P v' ρ H (.refl _ _) s (hr ρ H)
theorem je_int {n : Int} {j : Nat} : JE X pg k (.Constant (.int n) j pos) (eC (.int n)) := ⟨fun A => ⟨_, qe_int, se_c fun ρ H => by rw [rel]⟩⟩
theorem je_bl {n : Bool} {j : Nat} : JE X pg k (.Constant (.bool n) j pos) (eC (.bl n)) := ⟨fun A => ⟨_, qe_bl, se_c fun ρ H => by rw [rel]⟩⟩
theorem je_non {j : Nat} : JE X pg k (.Constant .none j pos) (eC .non) := ⟨fun A => ⟨_, qe_non, se_c fun ρ H => by rw [rel]⟩⟩
theorem je_str {n : Str} {j : Nat} : JE X pg k (.Constant (.str n) j pos) (eC (.str n)) := ⟨fun A => ⟨_, qe_str, se_c fun ρ H => by rw [rel]⟩⟩
theorem je_con {v : PV} (hc : pg.con x = some v) (hg : Gl X x) (hd : (x == ("__debug__" : Str)) = false := by decide) : JE X pg k (.Name x pos) (eC v) := ⟨fun A => let ⟨u, v', e1, e2, e3⟩ := A.con x v hc; ⟨_, qe_glob hg e1 e2 hd, se_c e3⟩⟩
theorem je_ty {T : String} (hg : Gl X x) (hb : x ∈ bltNames) (hv : bootBuiltins x = some (.type T)) (hn : x ≠ "__name__" := by decide) (hd : (x == ("__debug__" : Str)) = false := by decide) : JE X pg k (.Name x pos) (eC (.ty T)) :=
  ⟨fun A => ⟨_, qe_bltn (v := .ty T) hg (A.blt x hb) hv rfl hn hd, se_c fun ρ H => by rw [rel]⟩⟩
theorem se_op {cf : CF} {K : PySem.W.Frag} {r : R2} {f : PV → PV → PH → RV PV} {ta tb : TE} (ho : SOp K r f) (ha : SE cf K ta ma) (hb : SE cf K tb mb) : SE cf K (tOp r ta tb) (eOp f ma mb) := fun ρ h H e σ Q v h' s r q P => by
  obtain ⟨x, h1, e1, q⟩ := bind_eq.mp q
  obtain ⟨y, h2, e2, q⟩ := bind_eq.mp q
  refine ha ρ h H e σ _ x h1 s r e1 fun x' ρ1 H1 g1 s1 r1 => ?_
  refine hb ρ1 h1 H1 e σ _ y h2 s1 (r.gr g1) e2 fun y' ρ2 H2 g2 s2 r2 => ?_
  exact ho ρ2 h2 H2 x y x' y' Q v h' s2 (rel.gr g2 _ _ r1) r2 q (P.gr (g1.trans g2))
theorem je_op {op : Operator} {f : PV → PV → PH → RV PV} (ho : Amb X pg k → ∃ r, OpR X (binaryOp op) r ∧ SOp X.K r f) (ha : JE X pg k a ma) (hb : JE X pg k b mb) : JE X pg k (.BinOp a op b pos) (eOp f ma mb) := ⟨fun A =>
  let ⟨_, q1, s1⟩ := ha.h A; let ⟨_, q2, s2⟩ := hb.h A; let ⟨_, q, s⟩ := ho A; ⟨_, qe_op q q1 q2, se_op s s1 s2⟩⟩
theorem je_cmp {op : CmpOp} {f : PV → PV → PH → RV PV} (ho : Amb X pg k → ∃ r, OpR X (compareOp op) r ∧ SOp X.K r f) (ha : JE X pg k a ma) (hb : JE X pg k b mb) (hm : behindInMarks op b = false) : JE X pg k (.Compare a [op] [b] pos) (eOp f ma mb) := ⟨fun A =>
  let ⟨_, q1, s1⟩ := ha.h A; let ⟨_, q2, s2⟩ := hb.h A; let ⟨_, q, s⟩ := ho A; ⟨_, qe_cmpR q q1 q2 hm, se_op s s1 s2⟩⟩
theorem st_val {cf : CF} {K : PySem.W.Frag} {ta : TE} (ha : SE cf K ta ma) : ST cf K (tTest ta) (mVal ma) := fun ρ h H e σ Q v h' s r q P => by
  obtain ⟨x, h1, e1, q⟩ := bind_eq.mp q
  obtain ⟨rfl, rfl⟩ := asB_ok.mp q
  refine ha ρ h H e σ _ _ _ s r e1 fun x' ρ1 H1 g1 s1 r1 => ?_
  rw [rel] at r1
  exact ⟨v, r1, P ρ1 H1 g1 s1⟩
theorem jt_cmp {op : CmpOp} {f : PV → PV → PH → RV PV} (ho : Amb X pg k → ∃ r, OpR X (compareOp op) r ∧ SOp X.K r f) (ha : JE X pg k a ma) (hb : JE X pg k b mb) (hm : behindInMarks op b = false) : JT X pg k (.Compare a [op] [b] pos) (mVal (eOp f ma mb)) := ⟨fun A =>
  let ⟨_, q1, s1⟩ := ha.h A; let ⟨_, q2, s2⟩ := hb.h A; let ⟨_, q, s⟩ := ho A; ⟨_, qt_cmpR q q1 q2 hm, st_val (se_op s s1 s2)⟩⟩
theorem jt_val (ha : JE X pg k e ma) (he : ∀ whole, isTrue e X.env whole = (do let v ← whole; standAt e.pos; holding [v] (truthy v)) := by intro _; rfl) : JT X pg k e (mVal ma) := ⟨fun A =>
  let ⟨_, q1, s1⟩ := ha.h A; ⟨_, qt_val q1 he, st_val s1⟩⟩
theorem je_not (ha : JE X pg k a ma) : JE X pg k (.UnaryOp .Not a pos) (eNot ma) := ⟨fun A =>
  let ⟨_, q1, s1⟩ := ha.h A; ⟨_, qe_not q1, fun ρ h H e σ Q v h' s r q P => by
    obtain ⟨x, h2, q2, q⟩ := bind_eq.mp q
    obtain ⟨y, h1, e1, q2⟩ := bind_eq.mp q2
    obtain ⟨rfl, rfl⟩ := asB_ok.mp q2
    cases q
    refine s1 ρ h H e σ _ _ _ s r e1 fun x' ρ1 H1 g1 z1 r1 => ?_
    rw [rel] at r1
    exact ⟨x, r1, P _ ρ1 H1 g1 z1 (by rw [rel])⟩⟩⟩
theorem je_one {op : BoolOp} (h : JE X pg k a ma) : JE X pg k (.BoolOp op [a] pos) ma := ⟨fun A => let ⟨_, q1, s1⟩ := h.h A; ⟨_, qe_one q1, s1⟩⟩
theorem je_and {rest : List Expr} (ha : JE X pg k a ma) (hb : JE X pg k (.BoolOp .And (b :: rest) pos) mb) : JE X pg k (.BoolOp .And (a :: b :: rest) pos) (eAnd ma mb) := ⟨fun A =>
  let ⟨_, q1, s1⟩ := ha.h A; let ⟨_, q2, s2⟩ := hb.h A; ⟨_, qe_and q1 q2, fun ρ h H e σ Q v h' s r q P => by
    obtain ⟨x, h2, q2, q⟩ := bind_eq.mp q
    obtain ⟨y, h1, e1, q2⟩ := bind_eq.mp q2
    obtain ⟨rfl, rfl⟩ := asB_ok.mp q2
    refine s1 ρ h H e σ _ _ _ s r e1 fun x' ρ1 H1 g1 z1 r1 => ?_
    rw [rel] at r1
    refine ⟨x, r1, ?_⟩
    cases x with
    | true => exact s2 ρ1 _ H1 e σ _ _ _ z1 (r.gr g1) q (P.gr g1)
    | false => cases q; exact P _ ρ1 H1 g1 z1 (by rw [rel])⟩⟩
theorem je_or {rest : List Expr} (ha : JE X pg k a ma) (hb : JE X pg k (.BoolOp .Or (b :: rest) pos) mb) : JE X pg k (.BoolOp .Or (a :: b :: rest) pos) (eOr ma mb) := ⟨fun A =>
  let ⟨_, q1, s1⟩ := ha.h A; let ⟨_, q2, s2⟩ := hb.h A; ⟨_, qe_or q1 q2, fun ρ h H e σ Q v h' s r q P => by
    obtain ⟨x, h2, q2, q⟩ := bind_eq.mp q
    obtain ⟨y, h1, e1, q2⟩ := bind_eq.mp q2
    obtain ⟨rfl, rfl⟩ := asB_ok.mp q2
    refine s1 ρ h H e σ _ _ _ s r e1 fun x' ρ1 H1 g1 z1 r1 => ?_
    rw [rel] at r1
    refine ⟨x, r1, ?_⟩
    cases x with
    | false => exact s2 ρ1 _ H1 e σ _ _ _ z1 (r.gr g1) q (P.gr g1)
    | true => cases q; exact P _ ρ1 H1 g1 z1 (by rw [rel])⟩⟩
theorem je_ifExp (hc : JT X pg k c mt) (ha : JE X pg k a ma) (hb : JE X pg k b mb) : JE X pg k (.IfExp c a b pos) (eIf mt ma mb) := ⟨fun A =>
  let ⟨_, q0, s0⟩ := hc.h A; let ⟨_, q1, s1⟩ := ha.h A; let ⟨_, q2, s2⟩ := hb.h A; ⟨_, qe_ifExp q0 q1 q2, fun ρ h H e σ Q v h' s r q P => by
    obtain ⟨x, h1, e1, q⟩ := bind_eq.mp q
    refine s0 ρ h H e σ _ _ _ s r e1 fun ρ1 H1 g1 z1 => ?_
    cases x with
    | true => exact s1 ρ1 _ H1 e σ _ _ _ z1 (r.gr g1) q (P.gr g1)
    | false => exact s2 ρ1 _ H1 e σ _ _ _ z1 (r.gr g1) q (P.gr g1)⟩⟩
theorem jw_and1 (ha : JT X pg k a mt) : JW X pg k (.BoolOp .And [a] pos) mt := ⟨fun A => let ⟨_, q1, s1⟩ := ha.h A; ⟨_, qw_and1 q1, s1⟩⟩
theorem jw_or1 (ha : JT X pg k a mt) : JW X pg k (.BoolOp .Or [a] pos) mt := ⟨fun A => let ⟨_, q1, s1⟩ := ha.h A; ⟨_, qw_or1 q1, s1⟩⟩
theorem jw_and {rest : List Expr} (ha : JT X pg k a mt) (hb : JW X pg k (.BoolOp .And (b :: rest) pos) mt') : JW X pg k (.BoolOp .And (a :: b :: rest) pos) (mAnd mt mt') := ⟨fun A =>
  let ⟨_, q1, s1⟩ := ha.h A; let ⟨_, q2, s2⟩ := hb.h A; ⟨_, qw_and q1 q2, fun ρ h H e σ Q v h' s r q P => by
    obtain ⟨x, h1, e1, q⟩ := bind_eq.mp q
    refine s1 ρ h H e σ _ _ _ s r e1 fun ρ1 H1 g1 z1 => ?_
    cases x with
    | true => exact s2 ρ1 _ H1 e σ _ _ _ z1 (r.gr g1) q (P.gr g1)
    | false => cases q; exact P ρ1 H1 g1 z1⟩⟩
theorem jw_or {rest : List Expr} (ha : JT X pg k a mt) (hb : JW X pg k (.BoolOp .Or (b :: rest) pos) mt') : JW X pg k (.BoolOp .Or (a :: b :: rest) pos) (mOr mt mt') := ⟨fun A =>
  let ⟨_, q1, s1⟩ := ha.h A; let ⟨_, q2, s2⟩ := hb.h A; ⟨_, qw_or q1 q2, fun ρ h H e σ Q v h' s r q P => by
    obtain ⟨x, h1, e1, q⟩ := bind_eq.mp q
    refine s1 ρ h H e σ _ _ _ s r e1 fun ρ1 H1 g1 z1 => ?_
    cases x with
    | false => exact s2 ρ1 _ H1 e σ _ _ _ z1 (r.gr g1) q (P.gr g1)
    | true => cases q; exact P ρ1 H1 g1 z1⟩⟩
theorem JW.pt (h : JW X pg k e mt) : JT X pg k e mt := ⟨fun A => let ⟨_, q1, s1⟩ := h.h A; ⟨_, q1.pt, s1⟩⟩
theorem jt_not (ha : JT X pg k a mt) : JT X pg k (.UnaryOp .Not a pos) (mNot mt) := ⟨fun A => let ⟨_, q1, s1⟩ := ha.h A; ⟨_, qt_not q1, fun ρ h H e σ Q v h' s r q P => by
    obtain ⟨x, h1, e1, q⟩ := bind_eq.mp q
    cases q
    exact s1 ρ h H e σ _ _ _ s r e1 fun ρ1 H1 g1 z1 => P ρ1 H1 g1 z1⟩⟩
theorem jf_nil : JF X pg k [] mTrue := ⟨fun A => ⟨_, qf_nil, fun ρ h H e σ Q v h' s r q P => by cases q; exact P ρ H (.refl _ _) s⟩⟩
theorem jf_one (h : JT X pg k c mt) : JF X pg k [c] mt := ⟨fun A => let ⟨_, q1, s1⟩ := h.h A; ⟨_, qf_one q1, s1⟩⟩
theorem ja_nil : JA X pg k [] aNil := ⟨fun A => ⟨_, qa_nil, fun ρ h H e σ Q v h' s r q P => by cases q; exact P [] ρ H (.refl _ _) s (rels_nil.mpr rfl)⟩⟩
theorem ja_cons (ha : JE X pg k e ma) (hr : JA X pg k es mr) (hs : noStar e = true := by rfl) : JA X pg k (e :: es) (aCons ma mr) := ⟨fun A =>
  let ⟨_, q1, s1⟩ := ha.h A; let ⟨_, q2, s2⟩ := hr.h A; ⟨_, qk q1 q2 hs, fun ρ h H e σ Q v h' s r q P => by
    obtain ⟨x, h1, e1, q⟩ := bind_eq.mp q
    obtain ⟨xs, h2, e2, q⟩ := bind_eq.mp q
    cases q
    refine s1 ρ h H e σ _ _ _ s r e1 fun x' ρ1 H1 g1 z1 r1 => ?_
    refine s2 ρ1 h1 H1 e σ _ _ _ z1 (r.gr g1) e2 fun us ρ2 H2 g2 z2 r2 => ?_
    exact P _ ρ2 H2 (g1.trans g2) z2 (rels_cons.mpr ⟨x', us, rfl, rel.gr g2 _ _ r1, r2⟩)⟩⟩
theorem je_tup {x1} (h : JA X pg k es mr) : JE X pg k (.Tuple es x1 pos) (eTup mr) := ⟨fun A =>
  let ⟨_, q1, s1⟩ := h.h A; ⟨_, qe_tup q1, fun ρ h H e σ Q v h' s r q P => by
    obtain ⟨xs, h1, e1, q⟩ := bind_eq.mp q
    obtain ⟨hl, q⟩ := few_ok.mp q
    cases q
    refine s1 ρ h H e σ _ _ _ s r e1 fun us ρ1 H1 g1 z1 r1 => ⟨by rw [← r1.len]; exact hl, fun p hp => ?_⟩
    refine P _ ρ1 _ (g1.trans (Gr.new0 hp)) (z1.tup hp) ?_
    rw [rel]
    exact ⟨p, us, rfl, upd_same, rels.gr (Gr.new0 hp) _ _ r1⟩⟩⟩
theorem new_lst {K : PySem.W.Frag} {ρ : List Addr} {h : PH} {H : Hp} {xs : List PV} {us : List V} {Q : VK} (s : Sim K ρ h H) (r : rels K ρ H xs us) (P : PostV K ρ H (.ref h.length) (h ++ [.lst xs]) Q) (p : Addr) (hp : H p = none) : Q (.ref p) (upd H p (.lst us)) := by
  refine P _ (ρ ++ [p]) _ (Gr.new hp [p]) (s.new hp ⟨us, upd_same, rels.gr (Gr.new hp [p]) _ _ r⟩) ?_
  rw [rel]
  exact ⟨p, by rw [← s.len, List.getElem?_append_right (Nat.le_refl _)]; simp, rfl⟩
theorem je_lst (h : JA X pg k es mr) : JE X pg k (.List es pos) (eLst mr) := ⟨fun A =>
  let ⟨_, q1, s1⟩ := h.h A; ⟨_, qe_lst q1, fun ρ h H e σ Q v h' s r q P => by
    obtain ⟨xs, h1, e1, q⟩ := bind_eq.mp q
    obtain ⟨hl, q⟩ := few_ok.mp q
    cases q
    exact s1 ρ h H e σ _ _ _ s r e1 fun us ρ1 H1 g1 z1 r1 => ⟨by rw [← r1.len]; exact hl, fun p hp => new_lst z1 r1 (P.gr g1) p hp⟩⟩⟩
theorem je_call {f : String} {d : Df} (hf : pg.fns f = some d) (hg : Gl X (Str.ofString f)) (ha : JA X pg k (e :: es) mr) (hdb : (Str.ofString f == ("__debug__" : Str)) = false := by decide) (he : noStar e = true := by rfl) (hpl : es.all noStar = true := by rfl) :
    JE X pg k (.Call (.Name (Str.ofString f) p) (e :: es) [] pos) (eCall f mr) := ⟨fun A =>
  let ⟨_, q1, s1⟩ := ha.h A; ⟨_, qd (A.defs f d hf) A.room hg (Nat.le_refl _) q1 hdb he hpl, fun ρ h H e σ Q v h' s r q P => by
    obtain ⟨xs, h1, e1, q⟩ := bind_eq.mp q
    refine s1 ρ h H e σ _ _ _ s r e1 fun us ρ1 H1 g1 z1 r1 => ?_
    rw [List.append_nil]
    exact ⟨ρ1, h1, xs, v, h', z1, r1, q, P.gr g1⟩⟩⟩
theorem se_b {cf : CF} {K : PySem.W.Frag} {r : List V → Hp → VK → Prop} {f : List PV → PH → RV PV} {ta : TA} (ho : SCl K r f) (ha : SA cf K ta mr) : SE cf K (tCB r ta) (eB f mr) := fun ρ h H e σ Q v h' s r q P => by
  obtain ⟨xs, h1, e1, q⟩ := bind_eq.mp q
  exact ha ρ h H e σ _ _ _ s r e1 fun us ρ1 H1 g1 z1 r1 => ho ρ1 h1 H1 xs us Q v h' z1 r1 q (P.gr g1)
theorem je_B {id : String} {f : List PV → PH → RV PV} (hc : Amb X pg k → ∃ r, CallR X (.builtin id) r ∧ SCl X.K r f) (hg : Gl X x) (hb : x ∈ bltNames) (hv : bootBuiltins x = some (.builtin id)) (ha : JA X pg k (e :: es) mr)
    (hn : x ≠ "__name__" := by decide) (hdb : (x == ("__debug__" : Str)) = false := by decide) (he : noStar e = true := by rfl) (hpl : es.all noStar = true := by rfl) : JE X pg k (.Call (.Name x p) (e :: es) [] pos) (eB f mr) := ⟨fun A =>
  let ⟨_, q1, s1⟩ := ha.h A; let ⟨_, q, s⟩ := hc A; ⟨_, qB q hg (A.blt x hb) hv q1 hn hdb he hpl, se_b s s1⟩⟩
theorem je_T {T : String} {f : List PV → PH → RV PV} (hc : Amb X pg k → ∃ r, CallR X (.type T) r ∧ SCl X.K r f) (hg : Gl X x) (hb : x ∈ bltNames) (hv : bootBuiltins x = some (.type T)) (ha : JA X pg k (e :: es) mr)
    (hn : x ≠ "__name__" := by decide) (hdb : (x == ("__debug__" : Str)) = false := by decide) (he : noStar e = true := by rfl) (hpl : es.all noStar = true := by rfl) : JE X pg k (.Call (.Name x p) (e :: es) [] pos) (eB f mr) := ⟨fun A =>
  let ⟨_, q1, s1⟩ := ha.h A; let ⟨_, q, s⟩ := hc A; ⟨_, qT q hg (A.blt x hb) hv q1 hn hdb he hpl, se_b s s1⟩⟩
theorem je_M {name : Str} {id T : String} {f : PV → List PV → PH → RV PV} {ty : PV → PH → Bool} (pa : PlainAttrs T) (slot : Slot T name id) (hty : typeOf (.builtin id) = pure (.type "method_descriptor")) (hm : Amb X pg k → ∃ r, MtR X id r ∧ SMt X.K T r f ty)
    (ho : JE X pg k d md) (ha : JA X pg k [e] mr) (hbase : attributeBase d name X.env (eval d X.env) = eval d X.env := by rfl) (hline : (apos.endLine == cpos.line) = true := by rfl) (hs : noStar e = true := by rfl) :
    JE X pg k (.Call (.Attribute d name apos) [e] [] cpos) (eM f ty md mr) := ⟨fun A =>
  let ⟨_, q0, s0⟩ := ho.h A; let ⟨_, q1, s1⟩ := ha.h A; let ⟨_, q, s⟩ := hm A; ⟨_, qe_bm pa slot hty q q0 q1 hbase hline hs, fun ρ h H e σ Q v h' z r q P => by
    obtain ⟨x, h1, e1, q⟩ := bind_eq.mp q
    refine s0 ρ h H e σ _ _ _ z r e1 fun x' ρ1 H1 g1 z1 r1 => ?_
    split at q
    · rename_i ht
      obtain ⟨xs, h2, e2, q⟩ := bind_eq.mp q
      refine ⟨s.1 ρ1 h1 H1 x x' z1 r1 ht, ?_⟩
      exact s1 ρ1 h1 H1 e σ _ _ _ z1 (r.gr g1) e2 fun us ρ2 H2 g2 z2 r2 => s.2 ρ2 h2 H2 x x' xs us Q v h' z2 (rel.gr g2 _ _ r1) r2 q (P.gr (g1.trans g2))
    · exact nomatch q⟩⟩
end
end P3
end
section
open PySem PySem.W PyProof.Rows
namespace P3
open PySem PySem.Spec PyProof.Rows L2
noncomputable def sNx : MS := fun _ e h => .ok (.nx e) h
noncomputable def sSeq (a b : MS) : MS := fun c e h => (a c e h).bind fun f h1 => match f with
  | .nx e1 => b c e1 h1
  | f => .ok f h1
noncomputable def sDrop (a : ME) : MS := fun c e h => (a c e h).bind fun _ h1 => .ok (.nx e) h1
noncomputable def sRet (a : ME) : MS := fun c e h => (a c e h).bind fun v h1 => .ok (.rt v) h1
noncomputable def sIf (t : MT) (a b : MS) : MS := fun c e h => (t c e h).bind fun x h1 => if x = true then a c e h1 else b c e h1
noncomputable def sAsg (a : ME) (g : MG) : MS := fun c e h => (a c e h).bind fun v h1 => (g v e h1).bind fun e1 h2 => .ok (.nx e1) h2
noncomputable def gN (i : Nat) : MG := fun v e h => .ok (e.set i (some v)) h
noncomputable def gT (n : Nat) (g : List PV → PEnv → PH → RV PEnv) : MG := fun v e h => match v.seq? with
  | some xs => if xs.length = n then g xs e h else .no
  | none => .no
noncomputable def gsNil : List PV → PEnv → PH → RV PEnv := fun vs e h => match vs with
  | [] => .ok e h
  | _ => .no
noncomputable def gsCons (g : MG) (r : List PV → PEnv → PH → RV PEnv) : List PV → PEnv → PH → RV PEnv := fun vs e h => match vs with
  | [] => .no
  | v :: t => (g v e h).bind fun e1 h1 => r t e1 h1
noncomputable def sPut (f : PV → PV → PV → PH → RV Unit) (o i a : ME) : MS := fun c e h => (a c e h).bind fun v h1 => (o c e h1).bind fun x h2 => (i c e h2).bind fun y h3 => (f x y v h3).bind fun _ h4 => .ok (.nx e) h4
noncomputable def loopS (it : PIt) (step : PV → PEnv → PH → RV Fl) : List PV → PEnv → PH → RV Fl
  | [], e, h => if it.fine h = true then .ok (.nx e) h else .no
  | x :: xs, e, h => if it.fine h = true then (step x e h).bind (fun f h1 => match f with
      | .nx e1 => loopS it step xs e1 h1
      | .ct e1 => loopS it step xs e1 h1
      | .bk e1 => .ok (.nx e1) h1
      | .rt v => .ok (.rt v) h1) else .no
noncomputable def sFor (i : MI) (g : MG) (b : MS) : MS := fun c e h => (i c e h).bind fun it h1 => loopS it (fun x e h => (g x e h).bind fun e1 h1 => b c e1 h1) it.items e h1
noncomputable def whileN (t : PEnv → PH → RV Bool) (b : PEnv → PH → RV Fl) : Nat → PEnv → PH → RV Fl
  | 0, _, _ => .no
  | n + 1, e, h => (t e h).bind fun x h1 => if x = true then (b e h1).bind (fun f h2 => match f with
      | .nx e1 => whileN t b n e1 h2
      | .ct e1 => whileN t b n e1 h2
      | .bk e1 => .ok (.nx e1) h2
      | .rt v => .ok (.rt v) h2) else .ok (.nx e) h1
noncomputable def sWhile (t : MT) (b : MS) : MS := fun c e h => whileN (t c) (b c) 100000 e h
noncomputable def lcS (it : PIt) (step : PV → PH → RV (Option PV)) : List PV → List PV → PH → RV (List PV)
  | [], ys, h => if it.fine h = true then .ok ys h else .no
  | x :: xs, ys, h => if it.fine h = true ∧ ys.length < sizeLine then (step x h).bind (fun o h1 => match o with
      | some y => lcS it step xs (ys ++ [y]) h1
      | none => lcS it step xs ys h1) else .no
noncomputable def lcStep (k : Nat) (g : MG) (t : MT) (a : ME) (c : CF) (e : PEnv) (x : PV) (h : PH) : RV (Option PV) := (g x (e ++ List.replicate k none) h).bind fun e2 h2 => (t c e2 h2).bind fun b h3 => if b = true then (a c e2 h3).bind (fun y h4 => .ok (some y) h4) else .ok none h3
noncomputable def eLC (k : Nat) (i : MI) (g : MG) (t : MT) (a : ME) : ME := fun c e h => (i c e h).bind fun it h1 => (lcS it (lcStep k g t a c e) it.items [] h1).bind fun ys h2 => .ok (.ref h2.length) (h2 ++ [.lst ys])
section
variable {X : Cx} {pg : Tb} {k : Nat} {a b c d e o i : Expr} {es : List Expr} {ma mb mc md mo mi : ME} {mr : MA} {mt mt' : MT} {ms ms' mu : MS} {pos p pos' apos cpos spos : Pos} {x y : Str} {st : Stmt} {body rest : List Stmt} {g : MG} {mI : MI} {tg iter : Expr} {gs : List PV → PEnv → PH → RV PEnv}
theorem ss_nx {c : CF} {K : PySem.W.Frag} : SS c K tNext sNx := fun ρ h H e σ D f h' s r q P => by cases q; exact P σ ρ H (.refl _ _) s r
theorem ss_seq {c : CF} {K : PySem.W.Frag} {t u : TS} (h1 : SS c K t ms) (h2 : SS c K u mu) : SS c K (tSeq t u) (sSeq ms mu) := fun ρ h H e σ D f h' s r q P => by
  obtain ⟨f1, h1', e1, q⟩ := bind_eq.mp q
  refine h1 ρ h H e σ _ f1 h1' s r e1 ?_
  cases f1 with
  | nx e' => exact fun σ1 ρ1 H1 g1 s1 r1 => h2 ρ1 h1' H1 e' σ1 D f h' s1 r1 q (P.gr g1)
  | rt v => cases q; exact P
  | bk e' => cases q; exact P
  | ct e' => cases q; exact P
theorem jss_nil : JSs X pg k [] sNx := ⟨fun A => ⟨_, qss_nil, ss_nx⟩⟩
theorem jss_one (h : JS X pg k st ms) : JSs X pg k [st] ms := ⟨fun A => let ⟨_, q, s⟩ := h.h A; ⟨_, qss_one q, s⟩⟩
theorem jss_cons (h1 : JS X pg k st ms) (h2 : JSs X pg k rest mu) : JSs X pg k (st :: rest) (sSeq ms mu) := ⟨fun A => let ⟨_, q1, s1⟩ := h1.h A; let ⟨_, q2, s2⟩ := h2.h A; ⟨_, qss_cons q1 q2, ss_seq s1 s2⟩⟩
theorem js_expr (ha : JE X pg k e ma) (hs : swapsWith e none pos.line X.env = pure false := by rfl) : JS X pg k (.Expr e pos) (sDrop ma) := ⟨fun A => let ⟨_, q1, s1⟩ := ha.h A; ⟨_, qs_expr q1 hs, fun ρ h H e σ D f h' s r q P => by
  obtain ⟨x, h1, e1, q⟩ := bind_eq.mp q
  cases q
  exact s1 ρ h H e σ _ x _ s r e1 fun x' ρ1 H1 g1 z1 r1 => P σ ρ1 H1 g1 z1 (r.gr g1)⟩⟩
theorem js_ret (ha : JE X pg k e ma) : JS X pg k (.Return (some e) pos) (sRet ma) := ⟨fun A => let ⟨_, q1, s1⟩ := ha.h A; ⟨_, qs_ret q1, fun ρ h H e σ D f h' s r q P => by
  obtain ⟨x, h1, e1, q⟩ := bind_eq.mp q
  cases q
  exact s1 ρ h H e σ _ x _ s r e1 P⟩⟩
theorem js_if {A B : List Stmt} (hc : JT X pg k c mt) (ha : JSs X pg k A ms) (hb : JSs X pg k B mu) : JS X pg k (.If c A B pos) (sIf mt ms mu) := ⟨fun Z =>
  let ⟨_, q0, s0⟩ := hc.h Z; let ⟨_, q1, s1⟩ := ha.h Z; let ⟨_, q2, s2⟩ := hb.h Z; ⟨_, qs_if q0 q1 q2, fun ρ h H e σ D f h' s r q P => by
    obtain ⟨x, h1, e1, q⟩ := bind_eq.mp q
    refine s0 ρ h H e σ _ _ _ s r e1 fun ρ1 H1 g1 z1 => ?_
    cases x with
    | true => exact s1 ρ1 _ H1 e σ _ _ _ z1 (r.gr g1) q (P.gr g1)
    | false => exact s2 ρ1 _ H1 e σ _ _ _ z1 (r.gr g1) q (P.gr g1)⟩⟩
theorem sg_name {K : PySem.W.Frag} {i : Nat} : SG K (gName i) (gN i) := fun ρ h H e σ Q v v' e' h' s r rv q P => by cases q; exact P _ ρ H (.refl _ _) s (r.set i rv)
theorem jg_name {i : Nat} (hN : X.N.Nodup) (hi : X.N[i]? = some x) (hx : Loc X.env.scope x) (hf : X.fn x = true ∨ X.env.scope.names.lookup x = some .local := by first | exact .inl rfl | exact .inr rfl | assumption) : JG X pg k (.Name x pos) (gN i) := ⟨fun A => ⟨_, qg_name hN hi hx hf, sg_name⟩⟩
structure JGs (X : Cx) (pg : Tb) (k : Nat) (e : List Expr) (m : List PV → PEnv → PH → RV PEnv) : Prop where
  h : Amb X pg k → ∃ t, QGs X e t ∧ ∀ ρ h H e σ Q vs us e' h', Sim X.K ρ h H → REnv X.K ρ H e σ → rels X.K ρ H vs us → m vs e h = .ok e' h' → PostE X.K ρ H e' h' Q → t us σ H Q
theorem jgs_nil : JGs X pg k [] gsNil := ⟨fun A => ⟨_, qgs_nil, fun ρ h H e σ Q vs us e' h' s r rv q P => by
  cases vs with
  | nil => cases q; rw [rels_nil] at rv; exact ⟨rv, P σ ρ H (.refl _ _) s r⟩
  | cons => exact nomatch q⟩⟩
theorem jgs_cons (h1 : JG X pg k e g) (h2 : JGs X pg k es gs) (hs : (assignEach (e :: es) X.env).map (·.2) = assign e X.env :: (assignEach es X.env).map (·.2) := by rfl) : JGs X pg k (e :: es) (gsCons g gs) := ⟨fun A =>
  let ⟨_, q1, s1⟩ := h1.h A; let ⟨_, q2, s2⟩ := h2.h A; ⟨_, qgs_cons q1 q2 hs, fun ρ h H e σ Q vs us e' h' s r rv q P => by
  cases vs with
  | nil => exact nomatch q
  | cons v t =>
    obtain ⟨w, u, rfl, r1, r2⟩ := rels_cons.mp rv
    obtain ⟨e1, h1, e2, q⟩ := bind_eq.mp q
    refine ⟨w, u, rfl, ?_⟩
    exact s1 ρ h H e σ _ v w e1 h1 s r r1 e2 fun σ1 ρ1 H1 g1 z1 y1 => s2 ρ1 h1 H1 e1 σ1 Q t u e' h' z1 y1 (rels.gr g1 _ _ r2) q (P.gr g1)⟩⟩
theorem jg_tup {j : Nat} {n : Nat} (h : JGs X pg k es gs) (hn : (assignEach es X.env).length = n := by rfl) (hst : (assignEach es X.env).findIdx? (·.1) = none := by rfl) : JG X pg k (.Tuple es j pos) (gT n gs) := ⟨fun A =>
  let ⟨_, q1, s1⟩ := h.h A; ⟨_, qg_tup A.calm q1 hn hst, fun ρ h H e σ Q v v' e' h' s r rv q P => by
  unfold gT at q
  split at q
  · rename_i xs ex
    obtain ⟨a, vs, rfl, z, rr⟩ := rel.seq ex rv
    split at q
    · rename_i hl
      exact ⟨a, vs, rfl, z, by rw [← rr.len]; exact hl, s1 ρ h H e σ Q xs vs e' h' s r rr q P⟩
    · exact nomatch q
  · exact nomatch q⟩⟩
theorem js_set {j : Nat} (hN : X.N.Nodup) (hi : X.N[j]? = some x) (hx : Loc X.env.scope x) (he : JE X pg k e ma) (hs : swapsWith e (some (.Name x pos')) pos.line X.env = pure false := by rfl) (hf : X.fn x = true ∨ X.env.scope.names.lookup x = some .local := by first | exact .inl rfl | exact .inr rfl | assumption) :
    JS X pg k (.Assign [.Name x pos'] e pos) (sAsg ma (gN j)) := ⟨fun A => let ⟨_, q1, s1⟩ := he.h A; ⟨_, qs_set hN hi hx q1 hs hf, fun ρ h H e σ D f h' s r q P => by
  obtain ⟨v, h1, e1, q⟩ := bind_eq.mp q
  obtain ⟨e2, h2, e3, q⟩ := bind_eq.mp q
  cases q
  cases e3
  exact s1 ρ h H e σ _ v _ s r e1 fun v' ρ1 H1 g1 z1 r1 => P _ ρ1 H1 g1 z1 ((r.gr g1).set j r1)⟩⟩
theorem js_asg (he : JE X pg k e ma) (hg : JG X pg k tg g) (hs : swapsWithSole [tg] e pos.line X.env = pure false := by rfl) (hw : swappedStores [tg] e X.env = pure none := by rfl) (h1 : (assignEach [tg] X.env).map (·.2) = [assign tg X.env] := by rfl) :
    JS X pg k (.Assign [tg] e pos) (sAsg ma g) := ⟨fun A => let ⟨_, q1, s1⟩ := he.h A; let ⟨_, q2, s2⟩ := hg.h A; ⟨_, qs_asg q1 q2 hs hw h1, fun ρ h H e σ D f h' s r q P => by
  obtain ⟨v, h1, e1, q⟩ := bind_eq.mp q
  obtain ⟨e2, h2, e3, q⟩ := bind_eq.mp q
  cases q
  exact s1 ρ h H e σ _ v h1 s r e1 fun v' ρ1 H1 g1 z1 r1 => s2 ρ1 h1 H1 e σ _ v v' e2 _ z1 (r.gr g1) r1 e3 (PostE.gr P g1)⟩⟩
theorem js_put {f : PV → PV → PV → PH → RV Unit} (hp : Amb X pg k → ∃ t, PSet X t ∧ ∀ ρ h H x y v x' y' v' u h' Q, Sim X.K ρ h H → rel X.K ρ H x x' → rel X.K ρ H y y' → rel X.K ρ H v v' → f x y v h = .ok u h' → PostB X.K ρ H h' Q → t x' y' v' H Q)
    (ho : JE X pg k o mo) (hi : JE X pg k i mi) (hv : JE X pg k e ma) (hs : swapsWithSole [.Subscript o i pos'] e pos.line X.env = pure false := by rfl) (hw : swappedStores [.Subscript o i pos'] e X.env = pure none := by rfl) (h1 : (assignEach [.Subscript o i pos'] X.env).map (·.2) = [assign (.Subscript o i pos') X.env] := by rfl)
    (ha : ∀ v, assign (.Subscript o i pos') X.env v = (do
      let ov ← holding [v] (eval o X.env)
      let iv ← holding [v, ov] (eval i X.env)
      standAt pos'
      holding [v, ov, iv] (setItem ov iv v)
      release [v, ov, iv] []) := by intro _; rfl) : JS X pg k (.Assign [.Subscript o i pos'] e pos) (sPut f mo mi ma) := ⟨fun A =>
  let ⟨_, q0, s0⟩ := hv.h A; let ⟨_, q1, s1⟩ := ho.h A; let ⟨_, q2, s2⟩ := hi.h A; let ⟨_, q3, s3⟩ := hp A; ⟨_, qs_asg q0 ⟨pg_sub q1.h q2.h q3 ha⟩ hs hw h1, fun ρ h H e σ D f' h' s r q P => by
  obtain ⟨v, h1, e1, q⟩ := bind_eq.mp q
  obtain ⟨x, h2, e2, q⟩ := bind_eq.mp q
  obtain ⟨y, h3, e3, q⟩ := bind_eq.mp q
  obtain ⟨u, h4, e4, q⟩ := bind_eq.mp q
  cases q
  refine s0 ρ h H e σ _ v h1 s r e1 fun v' ρ1 H1 g1 z1 r1 => ?_
  refine s1 ρ1 h1 H1 e σ _ x h2 z1 (r.gr g1) e2 fun x' ρ2 H2 g2 z2 r2 => ?_
  refine s2 ρ2 h2 H2 e σ _ y h3 z2 (r.gr (g1.trans g2)) e3 fun y' ρ3 H3 g3 z3 r3 => ?_
  have g := (g1.trans g2).trans g3
  exact s3 ρ3 h3 H3 x y v x' y' v' u _ _ z3 (rel.gr g3 _ _ r2) r3 (rel.gr (g2.trans g3) _ _ r1) e4 fun ρ4 H4 g4 z4 => P σ ρ4 H4 (g.trans g4) z4 (r.gr (g.trans g4))⟩⟩
theorem js_for (hi : JI X pg k tg iter mI) (hg : JG X pg k tg g) (hb : JSs X pg k body ms) (hp : PassesOwn (model X.prog X.w) X.A X.env X.xe) (hs : ∀ x, foldedSetIterable iter X.env x = pure x := by intro _; rfl) : JS X pg k (.For tg iter body [] pos) (sFor mI g ms) := ⟨fun A =>
  let ⟨_, q1, s1⟩ := hi.h A; let ⟨_, q2, s2⟩ := hg.h A; let ⟨_, q3, s3⟩ := hb.h A; ⟨_, qs_for hp A.calm q1 q2 q3 hs, fun ρ h H e σ D f h' s r q P => by
  obtain ⟨it, h1, e1, q⟩ := bind_eq.mp q
  refine s1 ρ h H e σ _ it h1 s r e1 fun ρ1 H1 J g1 z1 w1 => ?_
  let step : PV → PEnv → PH → RV Fl := fun x e h => (g x e h).bind fun e1 h1 => ms (run pg k) e1 h1
  refine ⟨fun i m σ' H' => ∃ ρ' h2 e', Gr ρ1 H1 ρ' H' ∧ Sim X.K ρ' h2 H' ∧ REnv X.K ρ' H' e' σ' ∧ i ≤ it.items.length ∧ m = it.items.length - i ∧ loopS it step (it.items.drop i) e' h2 = .ok f h', ⟨_, ρ1, h1, e, .refl _ _, z1, r.gr g1, Nat.zero_le _, rfl, q⟩, ?_⟩
  rintro i m σ2 H2 ⟨ρ2, h2, e2, g2, z2, r2, hi, rfl, q2⟩
  cases hx : it.items[i]? with
  | none =>
    have hl : it.items.length ≤ i := List.getElem?_eq_none_iff.mp hx
    rw [List.drop_eq_nil_of_le hl, loopS] at q2
    split at q2
    · rename_i hf
      cases q2
      exact .inl ⟨(w1 i ρ2 _ H2 g2 z2 hf).2 (by omega), P σ2 ρ2 H2 (g1.trans g2) z2 r2⟩
    · exact nomatch q2
  | some x =>
    have hlt : i < it.items.length := (List.getElem?_eq_some_iff.mp hx).1
    have hd : it.items.drop i = x :: it.items.drop (i + 1) := by
      rw [List.drop_eq_getElem_cons hlt, (List.getElem?_eq_some_iff.mp hx).2]
    rw [hd, loopS] at q2
    split at q2
    · rename_i hf
      obtain ⟨go, yl⟩ := (w1 i ρ2 _ H2 g2 z2 hf).1 x hx
      obtain ⟨f3, h3, e3, q3⟩ := bind_eq.mp q2
      obtain ⟨e4, h4, e5, q4⟩ := bind_eq.mp e3
      refine .inr ⟨go, fun σ' H' => ∃ ρ' h2 e', Gr ρ1 H1 ρ' H' ∧ Sim X.K ρ' h2 H' ∧ REnv X.K ρ' H' e' σ' ∧ loopS it step (it.items.drop (i + 1)) e' h2 = .ok f h', ?_, ?_⟩
      · rintro σ' H' ⟨ρ', h2, e', a1, a2, a3, a4⟩
        exact ⟨it.items.length - (i + 1), by omega, ρ', h2, e', a1, a2, a3, hlt, rfl, a4⟩
      · intro v H3 hy
        obtain ⟨ρ3, g3, z3, r3⟩ := yl v H3 hy
        refine s2 ρ3 h2 H3 e2 σ2 _ x v e4 h4 z3 (r2.gr g3) r3 e5 fun σ4 ρ4 H4 g4 z4 r4 => ?_
        have gg := (g2.trans g3).trans g4
        refine s3 ρ4 h4 H4 e4 σ4 _ f3 h3 z4 r4 q4 ?_
        cases f3 with
        | nx e6 => exact fun σ5 ρ5 H5 g5 z5 r5 => ⟨ρ5, h3, e6, gg.trans g5, z5, r5, q3⟩
        | ct e6 => exact fun σ5 ρ5 H5 g5 z5 r5 => ⟨ρ5, h3, e6, gg.trans g5, z5, r5, q3⟩
        | bk e6 => cases q3; exact PostE.gr P (g1.trans gg)
        | rt v => cases q3; exact PostV.gr P (g1.trans gg)
    · exact nomatch q2⟩⟩
theorem js_while (hc : JT X pg k c mt) (hb : JSs X pg k body ms) (hp : PassesOwn (model X.prog X.w) X.A X.env X.xe) : JS X pg k (.While c body [] pos) (sWhile mt ms) := ⟨fun A =>
  let ⟨_, q1, s1⟩ := hc.h A; let ⟨_, q2, s2⟩ := hb.h A; ⟨_, qs_while hp q1 q2, fun ρ h H e σ D f h' s r q P => by
  refine ⟨fun m σ' H' => ∃ ρ' h2 e', Gr ρ H ρ' H' ∧ Sim X.K ρ' h2 H' ∧ REnv X.K ρ' H' e' σ' ∧ whileN (mt (run pg k)) (ms (run pg k)) m e' h2 = .ok f h', ⟨100000, ρ, h, e, .refl _ _, s, r, q⟩, ?_⟩
  rintro m σ1 H1 ⟨ρ1, h1, e1, g1, z1, r1, q1⟩
  cases m with
  | zero => exact nomatch q1
  | succ m =>
    obtain ⟨x, h2, e2, q1⟩ := bind_eq.mp q1
    refine s1 ρ1 h1 H1 e1 σ1 _ x h2 z1 r1 e2 fun ρ2 H2 g2 z2 => ?_
    cases x with
    | false => cases q1; exact P σ1 ρ2 H2 (g1.trans g2) z2 (r1.gr g2)
    | true =>
      obtain ⟨f3, h3, e3, q3⟩ := bind_eq.mp q1
      refine ⟨fun σ' H' => ∃ ρ' h2 e', Gr ρ H ρ' H' ∧ Sim X.K ρ' h2 H' ∧ REnv X.K ρ' H' e' σ' ∧ whileN (mt (run pg k)) (ms (run pg k)) m e' h2 = .ok f h', fun σ' H' w => ⟨m, Nat.lt_succ_self _, w⟩, ?_⟩
      refine s2 ρ2 h2 H2 e1 σ1 _ f3 h3 z2 (r1.gr g2) e3 ?_
      have gg := g1.trans g2
      cases f3 with
      | nx e6 => exact fun σ5 ρ5 H5 g5 z5 r5 => ⟨ρ5, h3, e6, gg.trans g5, z5, r5, q3⟩
      | ct e6 => exact fun σ5 ρ5 H5 g5 z5 r5 => ⟨ρ5, h3, e6, gg.trans g5, z5, r5, q3⟩
      | bk e6 => cases q3; exact PostE.gr P gg
      | rt v => cases q3; exact PostV.gr P gg⟩⟩
theorem se_lc {cf : CF} {K : PySem.W.Frag} {wi : TI} {tg : TG} {tt : TT} {te : TE} {n : Nat} (s1 : SI cf K wi mI) (s2 : SG K tg g) (s3 : ST cf K tt mt) (s4 : SE cf K te ma) : SE cf K (tLC n wi tg tt te) (eLC n mI g mt ma) := fun ρ h H e σ Q v h' s r q P => by
  obtain ⟨it, h1, e1, q⟩ := bind_eq.mp q
  obtain ⟨ys, h2, e2, q⟩ := bind_eq.mp q
  cases q
  refine s1 ρ h H e σ _ it h1 s r e1 fun ρ1 H1 J g1 z1 w1 => ?_
  refine ⟨fun i m us H' => ∃ ρ' h3 zs, Gr ρ1 H1 ρ' H' ∧ Sim K ρ' h3 H' ∧ rels K ρ' H' zs us ∧ i ≤ it.items.length ∧ m = it.items.length - i ∧ lcS it (lcStep n g mt ma cf e) (it.items.drop i) zs h3 = .ok ys h2, ⟨_, ρ1, h1, [], .refl _ _, z1, rels_nil.mpr rfl, Nat.zero_le _, rfl, e2⟩, ?_⟩
  rintro i m us H2 ⟨ρ2, h3, zs, g2, z2, r2, hi, rfl, q2⟩
  cases hx : it.items[i]? with
  | none =>
    have hl : it.items.length ≤ i := List.getElem?_eq_none_iff.mp hx
    rw [List.drop_eq_nil_of_le hl, lcS] at q2
    split at q2
    · rename_i hf
      cases q2
      exact .inl ⟨(w1 i ρ2 _ H2 g2 z2 hf).2 (by omega), fun p hp => new_lst z2 r2 (P.gr (g1.trans g2)) p hp⟩
    · exact nomatch q2
  | some x =>
    have hlt : i < it.items.length := (List.getElem?_eq_some_iff.mp hx).1
    have hd : it.items.drop i = x :: it.items.drop (i + 1) := by
      rw [List.drop_eq_getElem_cons hlt, (List.getElem?_eq_some_iff.mp hx).2]
    rw [hd, lcS] at q2
    split at q2
    · rename_i hf
      obtain ⟨go, yl⟩ := (w1 i ρ2 _ H2 g2 z2 hf.1).1 x hx
      obtain ⟨o, h4, e3, q3⟩ := bind_eq.mp q2
      obtain ⟨e4, h5, e5, q4⟩ := bind_eq.mp e3
      obtain ⟨b, h6, e6, q5⟩ := bind_eq.mp q4
      refine .inr ⟨go, by rw [← r2.len]; exact hf.2, fun v H3 hy => ?_⟩
      obtain ⟨ρ3, g3, z3, r3⟩ := yl v H3 hy
      refine s2 ρ3 h3 H3 _ _ _ x v e4 h5 z3 (((r.gr (g1.trans (g2.trans g3)))).more n) r3 e5 fun σ4 ρ4 H4 g4 z4 r4 => ?_
      refine s3 ρ4 h5 H4 e4 σ4 _ b h6 z4 r4 e6 fun ρ5 H5 g5 z5 => ?_
      have gg := ((g2.trans g3).trans g4).trans g5
      cases b with
      | false => cases q5; exact ⟨it.items.length - (i + 1), by omega, ρ5, _, zs, gg, z5, rels.gr ((g3.trans g4).trans g5) _ _ r2, hlt, rfl, q3⟩
      | true =>
        obtain ⟨y, h7, e7, q6⟩ := bind_eq.mp q5
        cases q6
        refine s4 ρ5 h6 H5 e4 σ4 _ y _ z5 (r4.gr g5) e7 fun y' ρ6 H6 g6 z6 r6 => ?_
        exact ⟨it.items.length - (i + 1), by omega, ρ6, _, zs ++ [y], gg.trans g6, z6, (rels.gr (((g3.trans g4).trans g5).trans g6) _ _ r2).app (rels.one r6), hlt, rfl, q3⟩
    · exact nomatch q2
end
noncomputable def rdE (c : CF) (K : PySem.W.Frag) (m : ME) : TE := fun σ H Q => ∃ ρ h e v h', Sim K ρ h H ∧ REnv K ρ H e σ ∧ m c e h = .ok v h' ∧ PostV K ρ H v h' Q
noncomputable def rdT (c : CF) (K : PySem.W.Frag) (m : MT) : TT := fun σ H Q => ∃ ρ h e b h', Sim K ρ h H ∧ REnv K ρ H e σ ∧ m c e h = .ok b h' ∧ PostB K ρ H h' (Q b)
theorem se_rd {c : CF} {K : PySem.W.Frag} {m : ME} : SE c K (rdE c K m) m := fun ρ h H e σ Q v h' s r q P => ⟨ρ, h, e, v, h', s, r, q, P⟩
theorem st_rd {c : CF} {K : PySem.W.Frag} {m : MT} : ST c K (rdT c K m) m := fun ρ h H e σ Q v h' s r q P => ⟨ρ, h, e, v, h', s, r, q, P⟩
theorem JE.can {X : Cx} {pg : Tb} {k : Nat} {e : Expr} {m : ME} (j : JE X pg k e m) (A : Amb X pg k) : QE X e (rdE (run pg k) X.K m) :=
  let ⟨_, q, s⟩ := j.h A; ⟨fun pins st σ H Q I ⟨ρ, h, e, v, h', a, b, c, d⟩ => q.h pins st σ H Q I (s ρ h H e σ Q v h' a b c d)⟩
theorem JF.can {X : Cx} {pg : Tb} {k : Nat} {e : List Expr} {m : MT} (j : JF X pg k e m) (A : Amb X pg k) : QF X e (rdT (run pg k) X.K m) :=
  let ⟨_, q, s⟩ := j.h A; ⟨fun pins st σ H Q I ⟨ρ, h, e, v, h', a, b, c, d⟩ => q.h pins st σ H Q I (s ρ h H e σ Q v h' a b c d)⟩
structure GC (K : PySem.W.Frag) (n : Nat) (t : TG) (m : MG) : Prop where
  sg : SG K t m
  gk : GK n t
  mono : TGmono t
structure GCs (K : PySem.W.Frag) (n : Nat) (t : TGs) (m : List PV → PEnv → PH → RV PEnv) : Prop where
  sg : ∀ ρ h H e σ Q vs us e' h', Sim K ρ h H → REnv K ρ H e σ → rels K ρ H vs us → m vs e h = .ok e' h' → PostE K ρ H e' h' Q → t us σ H Q
  gk : GKs n t
  mono : ∀ xs σ H Q Q', (∀ σ2 H2, Q σ2 H2 → Q' σ2 H2) → t xs σ H Q → t xs σ H Q'
theorem gc_name {K : PySem.W.Frag} {n i : Nat} (h : n ≤ i) : GC K n (gName i) (gN i) := ⟨sg_name, gk_name h, gmono_name⟩
theorem gcs_nil {K : PySem.W.Frag} {n : Nat} : GCs K n gNil gsNil := ⟨fun ρ h H e σ Q vs us e' h' s r rv q P => by
  cases vs with
  | nil => cases q; rw [rels_nil] at rv; exact ⟨rv, P σ ρ H (.refl _ _) s r⟩
  | cons => exact (nomatch q), gk_nil, fun xs σ H Q Q' f q => ⟨q.1, f _ _ q.2⟩⟩
theorem gcs_cons {K : PySem.W.Frag} {n : Nat} {t : TG} {m : MG} {ts : TGs} {ms : List PV → PEnv → PH → RV PEnv} (a : GC K n t m) (b : GCs K n ts ms) : GCs K n (gCons t ts) (gsCons m ms) := ⟨fun ρ h H e σ Q vs us e' h' s r rv q P => by
  cases vs with
  | nil => exact nomatch q
  | cons v t =>
    obtain ⟨w, u, rfl, r1, r2⟩ := rels_cons.mp rv
    obtain ⟨e1, h1, e2, q⟩ := bind_eq.mp q
    refine ⟨w, u, rfl, ?_⟩
    exact a.sg ρ h H e σ _ v w e1 h1 s r r1 e2 fun σ1 ρ1 H1 g1 z1 y1 => b.sg ρ1 h1 H1 e1 σ1 Q t u e' h' z1 y1 (rels.gr g1 _ _ r2) q (P.gr g1), gk_cons a.gk a.mono b.gk,
  fun xs σ H Q Q' f ⟨v, r, e, q⟩ => ⟨v, r, e, a.mono _ _ _ _ _ (fun σ2 H2 z => b.mono _ _ _ _ _ f z) q⟩⟩
theorem gc_tup {K : PySem.W.Frag} {n j : Nat} {ts : TGs} {ms : List PV → PEnv → PH → RV PEnv} (b : GCs K n ts ms) : GC K n (gTup K j ts) (gT j ms) := ⟨fun ρ h H e σ Q v v' e' h' s r rv q P => by
  unfold gT at q
  split at q
  · rename_i xs ex
    obtain ⟨a, vs, rfl, z, rr⟩ := rel.seq ex rv
    split at q
    · rename_i hl
      exact ⟨a, vs, rfl, z, by rw [← rr.len]; exact hl, b.sg ρ h H e σ Q xs vs e' h' s r rr q P⟩
    · exact nomatch q
  · exact (nomatch q), gk_tup b.gk, fun x σ H Q Q' f ⟨a, xs, e1, e2, e3, q⟩ => ⟨a, xs, e1, e2, e3, b.mono _ _ _ _ _ f q⟩⟩
section
variable {X : Cx} {pg : Tb} {k : Nat} {e tg iter : Expr} {ma : ME} {mt : MT} {g : MG} {tG : TG} {mI : MI} {scope : Scope} {ifs : List Expr} {pos spos py : Pos} {y : Str}
theorem je_lcomp (vars : List Str) (hkind : scope.kind = .function) (hlc : lcOk scope.names X.env.scope.names X.N vars = true) (hi : JI X pg k tg iter mI)
    (hb : ∀ cl C s₀ H₀ ex pn, (Amb X pg k → QG (blk X vars scope cl C s₀ H₀ ex pn) tg tG) ∧ JF (blk X vars scope cl C s₀ H₀ ex pn) pg k ifs mt ∧ JE (blk X vars scope cl C s₀ H₀ ex pn) pg k e ma) (hG : GC X.K X.N.length tG g)
    (hs : ∀ x, foldedSetIterable iter X.env x = pure x := by intro _; rfl) : JE X pg k (.ListComp e [⟨tg, iter, ifs, 0⟩] scope pos) (eLC vars.length mI g mt ma) := ⟨fun A =>
  let ⟨_, q1, s1⟩ := hi.h A
  ⟨_, qe_lcomp vars A.calm A.nox hkind hlc q1 (fun cl C s₀ H₀ ex pn => let ⟨h1, h2, h3⟩ := hb cl C s₀ H₀ ex pn; ⟨h1 A, h2.can (A.blk ..), h3.can (A.blk ..)⟩) hG.gk hs, se_lc s1 hG.sg st_rd se_rd⟩⟩
theorem js_lcomp (vars : List Str) (i : Nat) (hkind : scope.kind = .function) (hlc : lcOk scope.names X.env.scope.names X.N vars = true) (hN : X.N.Nodup) (hiy : X.N[i]? = some y) (hy : Loc X.env.scope y) (hi : JI X pg k tg iter mI)
    (hb : ∀ cl C s₀ H₀ ex pn, (Amb X pg k → QG (blk X vars scope cl C s₀ H₀ ex pn) tg tG) ∧ JF (blk X vars scope cl C s₀ H₀ ex pn) pg k ifs mt ∧ JE (blk X vars scope cl C s₀ H₀ ex pn) pg k e ma) (hG : GC X.K X.N.length tG g)
    (hsw : swapsWith (.ListComp e [⟨tg, iter, ifs, 0⟩] scope pos) (some (.Name y py)) spos.line X.env = pure true := by rfl) (hs : ∀ x, foldedSetIterable iter X.env x = pure x := by intro _; rfl)
    (hf : X.fn y = true ∨ X.env.scope.names.lookup y = some .local := by first | exact .inl rfl | exact .inr rfl | assumption) :
    JS X pg k (.Assign [.Name y py] (.ListComp e [⟨tg, iter, ifs, 0⟩] scope pos) spos) (sAsg (eLC vars.length mI g mt ma) (gN i)) := ⟨fun A =>
  let ⟨_, q1, s1⟩ := hi.h A
  ⟨_, qs_lcomp vars i A.calm A.nox hkind hlc hN hiy hy q1 (fun cl C s₀ H₀ ex pn => let ⟨h1, h2, h3⟩ := hb cl C s₀ H₀ ex pn; ⟨h1 A, h2.can (A.blk ..), h3.can (A.blk ..)⟩) hG.gk hsw hs hf, fun ρ h H e σ D f h' s r q P => by
    obtain ⟨v, h1, e1, q⟩ := bind_eq.mp q
    obtain ⟨e2, h2, e3, q⟩ := bind_eq.mp q
    cases q
    cases e3
    exact se_lc s1 hG.sg st_rd se_rd ρ h H e σ _ v _ s r e1 fun v' ρ1 H1 g1 z1 r1 => P _ ρ1 H1 g1 z1 ((r.gr g1).set i r1)⟩⟩
end
end P3
end
section
open PySem PySem.W PyProof.Rows
namespace P3
open PySem PySem.Spec PyProof.Rows L2
section
variable {K : PySem.W.Frag} {ρ ρ' : List Addr} {H H' : Hp} {h h' : PH}
mutual
theorem rel.flat : ∀ (x : PV) (v : V), x.flat = true → rel K ρ' H' x v → rel K ρ H' x v
  | .non, v, _, h => by simpa only [rel] using h
  | .bl _, v, _, h => by simpa only [rel] using h
  | .int _, v, _, h => by simpa only [rel] using h
  | .str _, v, _, h => by simpa only [rel] using h
  | .ty _, v, _, h => by simpa only [rel] using h
  | .ref n, v, f, h => by simp [PV.flat] at f
  | .tup xs, v, f, h => by
    rw [rel] at h ⊢
    rw [PV.flat] at f
    obtain ⟨a, vs, e, s, r⟩ := h
    exact ⟨a, vs, e, s, rels.flat xs vs f r⟩
  | .ktup xs, v, f, h => by
    rw [rel] at h ⊢
    rw [PV.flat] at f
    obtain ⟨a, vs, e, s, r⟩ := h
    exact ⟨a, vs, e, s, rels.flat xs vs f r⟩
theorem rels.flat : ∀ (xs : List PV) (vs : List V), PV.flatL xs = true → rels K ρ' H' xs vs → rels K ρ H' xs vs
  | [], vs, _, h => by simpa only [rels] using h
  | x :: r, vs, f, h => by
    rw [rels] at h ⊢
    rw [PV.flatL, Bool.and_eq_true] at f
    obtain ⟨v, t, e, h1, h2⟩ := h
    exact ⟨v, t, e, rel.flat x v f.1 h1, rels.flat r t f.2 h2⟩
end
mutual
theorem rel.und (g : ∀ (n : Nat) (a : Addr), ρ[n]? = some a → ρ'[n]? = some a) : ∀ (x : PV) (v : V), x.und ρ.length = true → rel K ρ' H' x v → rel K ρ H' x v
  | .non, v, _, h => by simpa only [rel] using h
  | .bl _, v, _, h => by simpa only [rel] using h
  | .int _, v, _, h => by simpa only [rel] using h
  | .str _, v, _, h => by simpa only [rel] using h
  | .ty _, v, _, h => by simpa only [rel] using h
  | .ref n, v, f, h => by
    rw [rel] at h ⊢
    rw [PV.und, decide_eq_true_eq] at f
    obtain ⟨a, e, h⟩ := h
    have := g n _ (List.getElem?_eq_getElem f)
    rw [e] at this
    exact ⟨a, by rw [List.getElem?_eq_getElem f, ← Option.some.inj this], h⟩
  | .tup xs, v, f, h => by
    rw [rel] at h ⊢
    rw [PV.und] at f
    obtain ⟨a, vs, e, s, r⟩ := h
    exact ⟨a, vs, e, s, rels.und g xs vs f r⟩
  | .ktup xs, v, f, h => by
    rw [rel] at h ⊢
    rw [PV.und] at f
    obtain ⟨a, vs, e, s, r⟩ := h
    exact ⟨a, vs, e, s, rels.und g xs vs f r⟩
theorem rels.und (g : ∀ (n : Nat) (a : Addr), ρ[n]? = some a → ρ'[n]? = some a) : ∀ (xs : List PV) (vs : List V), PV.undL ρ.length xs = true → rels K ρ' H' xs vs → rels K ρ H' xs vs
  | [], vs, _, h => by simpa only [rels] using h
  | x :: r, vs, f, h => by
    rw [rels] at h ⊢
    rw [PV.undL, Bool.and_eq_true] at f
    obtain ⟨v, t, e, h1, h2⟩ := h
    exact ⟨v, t, e, rel.und g x v f.1 h1, rels.und g r t f.2 h2⟩
end
mutual
theorem rel.low : ∀ (x : PV) (v : V), rel K ρ H x v → x.und ρ.length = true
  | .non, v, _ => rfl
  | .bl _, v, _ => rfl
  | .int _, v, _ => rfl
  | .str _, v, _ => rfl
  | .ty _, v, _ => rfl
  | .ref n, v, h => by
    rw [rel] at h
    obtain ⟨a, e, h⟩ := h
    rw [PV.und, decide_eq_true_eq]
    exact (List.getElem?_eq_some_iff.mp e).1
  | .tup xs, v, h => by
    rw [rel] at h
    obtain ⟨a, vs, e, s, r⟩ := h
    rw [PV.und]; exact rels.low xs vs r
  | .ktup xs, v, h => by
    rw [rel] at h
    obtain ⟨a, vs, e, s, r⟩ := h
    rw [PV.und]; exact rels.low xs vs r
theorem rels.low : ∀ (xs : List PV) (vs : List V), rels K ρ H xs vs → PV.undL ρ.length xs = true
  | [], vs, _ => rfl
  | x :: r, vs, h => by
    rw [rels] at h
    obtain ⟨v, t, e, h1, h2⟩ := h
    rw [PV.undL, rel.low x v h1, rels.low r t h2]; rfl
end
theorem Paired.low : ∀ {kvs : List (Key × PV)} {kws : List (Key × V)}, Paired (fun (p : Key × PV) (q : Key × V) => p.1 = q.1 ∧ rel K ρ H p.2 q.2) kvs kws → PV.undL ρ.length (kvs.map (·.2)) = true
  | _, _, .nil => rfl
  | _, _, .cons r t => by rw [List.map_cons, PV.undL, rel.low _ _ r.2, Paired.low t]; rfl
theorem relO.low {a : Addr} : ∀ {o : PO}, relO K ρ H a o → o.und ρ.length = true
  | .lst xs, ⟨vs, _, r⟩ => rels.low _ _ r
  | .fro xs, ⟨vs, _, r⟩ => rels.low _ _ r
  | .dct kvs, ⟨kws, _, r⟩ => Paired.low r
theorem Paired.und (g : ∀ (n : Nat) (a : Addr), ρ[n]? = some a → ρ'[n]? = some a) : ∀ {kvs : List (Key × PV)} {kws : List (Key × V)}, PV.undL ρ.length (kvs.map (·.2)) = true →
    Paired (fun (p : Key × PV) (q : Key × V) => p.1 = q.1 ∧ rel K ρ' H' p.2 q.2) kvs kws → Paired (fun (p : Key × PV) (q : Key × V) => p.1 = q.1 ∧ rel K ρ H' p.2 q.2) kvs kws
  | _, _, _, .nil => .nil
  | _, _, f, .cons r t => by
    rw [List.map_cons, PV.undL, Bool.and_eq_true] at f
    exact .cons ⟨r.1, rel.und g _ _ f.1 r.2⟩ (Paired.und g f.2 t)
theorem relO.und (g : ∀ (n : Nat) (a : Addr), ρ[n]? = some a → ρ'[n]? = some a) {a : Addr} : ∀ {o : PO}, o.und ρ.length = true → relO K ρ' H' a o → relO K ρ H' a o
  | .lst xs, f, ⟨vs, e, r⟩ => ⟨vs, e, rels.und g _ _ f r⟩
  | .fro xs, f, ⟨vs, e, r⟩ => ⟨vs, e, rels.und g _ _ f r⟩
  | .dct kvs, f, ⟨kws, e, r⟩ => ⟨kws, e, Paired.und g f r⟩
theorem Sim.drop (s : Sim K ρ h H) (g : Gr ρ H ρ' H') (s' : Sim K ρ' h' H') (ok : okDrop h.length h h' = true) : Sim K ρ (h'.take h.length) H' := by
  have old : ∀ {i : Nat} {o : PO}, (h'.take h.length)[i]? = some o → i < h.length ∧ h'[i]? = some o := fun {i o} e => by
    have hi : i < h.length := by
      have := (List.getElem?_eq_some_iff.mp e).1
      rw [List.length_take] at this; omega
    rw [List.getElem?_take, if_pos hi] at e
    exact ⟨hi, e⟩
  refine ⟨by rw [List.length_take, s.len, Nat.min_eq_left (okDrop_len ok)], fun i j a oi oj ei ej mi mj ri rj => ?_, fun i o a e ea => ?_⟩
  · exact s'.nd i j a oi oj (old ei).2 (old ej).2 mi mj (g.pre _ _ ri) (g.pre _ _ rj)
  · have r := s'.ob i o a (old e).2 (g.pre _ _ ea)
    obtain ⟨o0, e0, _, z⟩ := okDrop_at ok e
    refine relO.und g.pre ?_ r
    rcases z with z | z
    · subst z; exact (s.ob i o0 a e0 ea).low
    · rw [s.len]; exact z
theorem settle_post {v w : PV} {h2 : PH} {Q : VK} (s : Sim K ρ h H) (e : settle h v h' = .ok w h2) (P : PostV K ρ H w h2 Q) : PostV K ρ H v h' Q := by
  unfold settle at e
  split at e
  · rename_i ok
    rw [Bool.and_eq_true] at ok
    cases e
    exact fun v' ρ' H' g s' r => P v' ρ H' ⟨fun _ _ z => z, g.tup, g.frz⟩ (s.drop g s' ok.2) (rel.flat _ _ ok.1 r)
  · cases e; exact P
end
theorem renv_start {K : PySem.W.Frag} {ρ : List Addr} {H : Hp} : ∀ {args : List PV} {vs : List V}, rels K ρ H args vs → ∀ (n : Nat), REnv K ρ H (args.map some ++ List.replicate n none) (vs.map some ++ List.replicate n none)
  | args, vs, r, n => by
    have : REnv K ρ H (args.map some) (vs.map some) := ⟨by simp [r.len], fun i v e => by
      rw [List.getElem?_map] at e
      cases q : args[i]? with
      | none => rw [q] at e; exact nomatch e
      | some w =>
        rw [q] at e
        cases e
        obtain ⟨v', e1, e2⟩ := r.get q
        exact ⟨v', by rw [List.getElem?_map, e1]; rfl, e2⟩⟩
    exact this.more n
structure DefGood (P : Program) (w : World) (K : PySem.W.Frag) (mg : Str → Option Value) (base : Heap) (pg : Tb) (f : String) (d : Df) : Prop where
  ex : ∃ (st : Stmt) (N : List Str), At K mg (Str.ofString f) st ∧ FnScope N d.ps (defScope st) ∧ N.length = d.ps.length + d.nl ∧
    (∀ (kV doc pm : Value) (an : Option Addr) (cdv ct : Value) (us : List Value), us.length = d.ps.length → bindArgs (PySem.W.fnOf (Str.ofString f) (Str.ofString f) (defArgs st) (defBody st) (defScope st) .none kV doc pm an cdv ct) ⟨us, []⟩ = pure (d.ps.zip us)) ∧
    ∀ (fa : Addr) (cdv : Value) (A : Around) (outer : List Env) (s : Shared) (H : Hp) (E : XK) (k : Nat), JSs (cxOf CX0 P w K mg base N (Str.ofString f) (defScope st) fa cdv A outer s H E).nox pg k (defBody st) d.body
structure Top (P : Program) (w : World) (K : PySem.W.Frag) (mg : Str → Option Value) (pg : Tb) : Prop where
  blt : ∀ x ∈ bltNames, mg x = none
  con : ∀ x v, pg.con x = some v → ∃ u v', mg x = some u ∧ RelV v' u ∧ ∀ ρ H, rel K ρ H v v'
  dcs : ∀ x kvs, pg.dcs x = some kvs → ∃ a kws, mg x = some (.ref a) ∧ KD P w K a kws ∧ ∀ ρ H, Paired (fun (p : Key × PV) (q : Key × V) => p.1 = q.1 ∧ rel K ρ H p.2 q.2) kvs kws
section
variable {P : Program} {w : World} {K : PySem.W.Frag} {mg : Str → Option Value} {base : Heap} {pg : Tb}
theorem table_ok (T : Top P w K mg pg) (G : ∀ f d, pg.fns f = some d → DefGood P w K mg base pg f d) : ∀ k f d, pg.fns f = some d → DefOk P w K mg base (Str.ofString f) k d.ps (spOf K pg k f) := by
  intro k
  induction k with
  | zero =>
    intro f d hf
    obtain ⟨st, N, a, S, hl, hb, body⟩ := (G f d hf).ex
    exact At.none_left a hb fun vs H Q E ⟨ρ, h, args, v, h', _, _, q, _⟩ => nomatch q
  | succ k ih =>
    intro f d hf
    obtain ⟨st, N, a, S, hl, hb, body⟩ := (G f d hf).ex
    have run_eq : ∀ {args : List PV} {h h' : PH} {v : PV}, run pg (k + 1) f args h = .ok v h' → args.length = d.ps.length ∧
        ((∃ w h2, d.body (run pg k) (args.map some ++ List.replicate d.nl none) h = .ok (.rt w) h2 ∧ settle h w h2 = .ok v h') ∨
         (∃ e h2, d.body (run pg k) (args.map some ++ List.replicate d.nl none) h = .ok (.nx e) h2 ∧ settle h .non h2 = .ok v h')) := fun {args h h' v} q => by
      rw [run, hf] at q
      simp only at q
      split at q
      · rename_i hn
        refine ⟨hn, ?_⟩
        split at q
        · rename_i w h2 e; exact .inl ⟨w, h2, e, q⟩
        · rename_i e' h2 e; exact .inr ⟨e', h2, e, q⟩
        · exact nomatch q
        · exact nomatch q
        · exact nomatch q
      · exact nomatch q
    refine At.okQ a S hb (fun vs H Q E ⟨ρ, h, args, v, h', _, r, q, _⟩ => by rw [← r.len]; exact (run_eq q).1) ?_
    rintro fa cdv A outer s H vs Q E hr ⟨ρ, h, args, v, h', sm, r, q, post⟩
    have amb : Amb (cxOf CX0 P w K mg base N (Str.ofString f) (defScope st) fa cdv A outer s H E).nox pg k := ⟨hr, rfl, fun _ _ z => z, ih, T.blt, T.con, T.dcs⟩
    obtain ⟨t, qt, st'⟩ := (body fa cdv A outer s H E k).h amb
    refine ⟨t, qt, ?_⟩
    obtain ⟨hn, q⟩ := run_eq q
    have he : L2.start N vs = vs.map some ++ List.replicate d.nl none := by
      unfold L2.start
      rw [hl, ← r.len, hn, Nat.add_sub_cancel_left]
    rw [he]
    rcases q with ⟨w, h2, e, q⟩ | ⟨e', h2, e, q⟩
    · exact st' ρ h H _ _ _ _ h2 sm (renv_start r _) e (settle_post sm q post)
    · exact st' ρ h H _ _ _ _ h2 sm (renv_start r _) e fun σ' ρ' H' g s' _ => settle_post sm q post .non ρ' H' g s' (by rw [rel])
end
end P3
end
section
open PySem PySem.W PyProof.Rows
namespace P3
open PySem PySem.Spec PyProof.Rows L2
noncomputable def p2 (f : Int → Int → RV PV) : PV → PV → PH → RV PV := fun x y h => match x, y with
  | .int i, .int j => (f i j).bind fun v _ => .ok v h
  | _, _ => .no
noncomputable def iOk (v : PV) : RV PV := .ok v []
section
variable {K : PySem.W.Frag} {X : Cx} {pg : Tb} {k : Nat}
theorem so_i {C : Int → Int → Prop} {g : Int → Int → V} {f : Int → Int → RV PV} (hf : ∀ i j v h, f i j = .ok v h → C i j ∧ ∀ ρ H, rel K ρ H v (g i j)) : SOp K (rI C g) (p2 f) := fun ρ h H x y x' y' Q v h' s rx ry q P => by
  unfold p2 at q
  split at q
  · rename_i i j
    rw [rel] at rx ry
    obtain ⟨w, h0, e, q⟩ := bind_eq.mp q
    cases q
    obtain ⟨hc, hr⟩ := hf i j v h0 e
    exact ⟨i, j, rx, ry, hc, P _ ρ H (.refl _ _) s (hr ρ H)⟩
  · exact nomatch q
theorem so_i0 {g : Int → Int → V} {f : Int → Int → RV PV} (hf : ∀ i j v h, f i j = .ok v h → ∀ ρ H, rel K ρ H v (g i j)) : SOp K (rI0 g) (p2 f) := fun ρ h H x y x' y' Q v h' s rx ry q P => by
  unfold p2 at q
  split at q
  · rename_i i j
    rw [rel] at rx ry
    obtain ⟨w, h0, e, q⟩ := bind_eq.mp q
    cases q
    exact ⟨i, j, rx, ry, P _ ρ H (.refl _ _) s (hf i j v h0 e ρ H)⟩
  · exact nomatch q
noncomputable def pSub : PV → PV → PH → RV PV := p2 fun i j => iOk (.int (i - j))
noncomputable def pMod : PV → PV → PH → RV PV := p2 fun i j => if 0 < j then iOk (.int (i % j)) else .no
noncomputable def pFdiv : PV → PV → PH → RV PV := p2 fun i j => if 0 < j ∧ j < 1073741824 then iOk (.int (i / j)) else .no
noncomputable def pPow : PV → PV → PH → RV PV := p2 fun i j => if 0 ≤ j ∧ j ≤ 1000000 ∧ i.natAbs < 2 ^ 64 then iOk (.int (i ^ j.toNat)) else .no
noncomputable def pLt : PV → PV → PH → RV PV := p2 fun i j => iOk (.bl (decide (i < j)))
noncomputable def pGt : PV → PV → PH → RV PV := p2 fun i j => iOk (.bl (decide (j < i)))
noncomputable def pGe : PV → PV → PH → RV PV := p2 fun i j => iOk (.bl (decide (j ≤ i)))
theorem o_sub : Amb X pg k → ∃ r, OpR X (binaryOp .Sub) r ∧ SOp X.K r pSub := fun _ => ⟨_, op_sub, so_i0 fun i j v h e ρ H => by cases e; rw [rel]⟩
theorem o_mod : Amb X pg k → ∃ r, OpR X (binaryOp .Mod) r ∧ SOp X.K r pMod := fun _ => ⟨_, op_mod, so_i fun i j v h e => by
  split at e
  · cases e; exact ⟨by assumption, fun ρ H => by rw [rel]⟩
  · exact nomatch e⟩
theorem o_fdiv : Amb X pg k → ∃ r, OpR X (binaryOp .FloorDiv) r ∧ SOp X.K r pFdiv := fun _ => ⟨_, op_fdiv, so_i fun i j v h e => by
  split at e
  · cases e; exact ⟨by assumption, fun ρ H => by rw [rel]⟩
  · exact nomatch e⟩
theorem o_pow : Amb X pg k → ∃ r, OpR X (binaryOp .Pow) r ∧ SOp X.K r pPow := fun _ => ⟨_, op_pow, so_i fun i j v h e => by
  split at e
  · cases e; exact ⟨by assumption, fun ρ H => by rw [rel]⟩
  · exact nomatch e⟩
theorem c_lt : Amb X pg k → ∃ r, OpR X (compareOp .Lt) r ∧ SOp X.K r pLt := fun _ => ⟨_, op_lt, so_i0 fun i j v h e ρ H => by cases e; rw [rel]⟩
theorem c_gt : Amb X pg k → ∃ r, OpR X (compareOp .Gt) r ∧ SOp X.K r pGt := fun _ => ⟨_, op_gt, so_i0 fun i j v h e ρ H => by cases e; rw [rel]⟩
theorem c_ge : Amb X pg k → ∃ r, OpR X (compareOp .GtE) r ∧ SOp X.K r pGe := fun _ => ⟨_, op_ge, so_i0 fun i j v h e ρ H => by cases e; rw [rel]⟩
noncomputable def newL (xs : List PV) (h : PH) : RV PV := few xs.length (.ok (.ref h.length) (h ++ [.lst xs]))
noncomputable def pAdd : PV → PV → PH → RV PV := fun x y h => match x, y with
  | .int i, .int j => .ok (.int (i + j)) h
  | .str a, .str b => few (a.length + b.length) (.ok (.str (a ++ b)) h)
  | .tup xs, .tup ys => few (xs.length + ys.length) (.ok (.tup (xs ++ ys)) h)
  | .ref n, .ref m => (match h[n]?, h[m]? with
    | some (.lst xs), some (.lst ys) => newL (xs ++ ys) h
    | _, _ => .no)
  | _, _ => .no
theorem Sim.lst {ρ : List Addr} {h : PH} {H : Hp} (s : Sim K ρ h H) {n : Nat} {xs : List PV} (e : h[n]? = some (.lst xs)) {v : V} (r : rel K ρ H (.ref n) v) : ∃ a vs, v = .ref a ∧ ρ[n]? = some a ∧ H a = some (.lst vs) ∧ rels K ρ H xs vs := by
  rw [rel] at r
  obtain ⟨a, ea, rfl⟩ := r
  obtain ⟨vs, e1, e2⟩ := s.ob n _ a e ea
  exact ⟨a, vs, rfl, ea, e1, e2⟩
theorem Sim.fro {ρ : List Addr} {h : PH} {H : Hp} (s : Sim K ρ h H) {n : Nat} {xs : List PV} (e : h[n]? = some (.fro xs)) {v : V} (r : rel K ρ H (.ref n) v) : ∃ a vs, v = .ref a ∧ ρ[n]? = some a ∧ SqL K H a vs ∧ rels K ρ H xs vs := by
  rw [rel] at r
  obtain ⟨a, ea, rfl⟩ := r
  obtain ⟨vs, e1, e2⟩ := s.ob n _ a e ea
  exact ⟨a, vs, rfl, ea, e1.sq, e2⟩
noncomputable def lstOf (h : PH) (n : Nat) : Option (List PV) := match h[n]? with
  | some (.lst xs) => some xs
  | some (.fro xs) => some xs
  | _ => none
theorem Sim.sq {ρ : List Addr} {h : PH} {H : Hp} (s : Sim K ρ h H) {n : Nat} {xs : List PV} (e : lstOf h n = some xs) {v : V} (r : rel K ρ H (.ref n) v) : ∃ a vs, v = .ref a ∧ ρ[n]? = some a ∧ SqL K H a vs ∧ rels K ρ H xs vs := by
  unfold lstOf at e
  split at e
  · cases e
    obtain ⟨a, vs, e1, e2, e3, e4⟩ := s.lst (by assumption) r
    exact ⟨a, vs, e1, e2, .of e3, e4⟩
  · cases e; exact s.fro (by assumption) r
  · exact nomatch e
theorem new_tup {ρ : List Addr} {h : PH} {H : Hp} {xs : List PV} {us : List V} {Q : VK} (s : Sim K ρ h H) (r : rels K ρ H xs us) (P : PostV K ρ H (.tup xs) h Q) (p : Addr) (hp : H p = none) : Q (.ref p) (upd H p (.tup us)) := by
  refine P _ ρ _ (Gr.new0 hp) (s.tup hp) ?_
  rw [rel]
  exact ⟨p, us, rfl, upd_same, rels.gr (Gr.new0 hp) _ _ r⟩
theorem o_add : Amb X pg k → ∃ r, OpR X (binaryOp .Add) r ∧ SOp X.K r pAdd := fun _ => ⟨_, opAddW, fun ρ h H x y x' y' Q v h' s rx ry q P => by
  unfold pAdd at q
  split at q
  · cases q
    rw [rel] at rx ry
    exact .inl ⟨_, _, rx, ry, P _ ρ H (.refl _ _) s (by rw [rel])⟩
  · obtain ⟨hl, q⟩ := few_ok.mp q
    cases q
    rw [rel] at rx ry
    exact .inr (.inr (.inr (.inr ⟨_, _, rx, ry, hl, P _ ρ H (.refl _ _) s (by rw [rel])⟩)))
  · rename_i xs ys
    obtain ⟨hl, q⟩ := few_ok.mp q
    cases q
    have ry' := ry
    rw [rel] at rx ry
    obtain ⟨a, us, e1, e2, e3⟩ := rx
    obtain ⟨b, ws, d1, d2, d3⟩ := ry
    cases xs with
    | nil =>
      rw [rels_nil] at e3; subst e3
      exact .inr (.inr (.inr (.inl ⟨a, b, ws, e1, d1, .of e2, .of d2, d1 ▸ P y' ρ H (.refl _ _) s ry'⟩)))
    | cons x r =>
      refine .inr (.inr (.inl ⟨a, b, us, ws, e1, d1, .of e2, .of d2, ?_, by rw [← e3.len, ← d3.len]; exact hl, ?_⟩))
      · rintro rfl; have := e3.len; simp at this
      · refine ⟨fun z => ?_, fun _ p hp => new_tup s (e3.app d3) P p hp⟩
        subst z
        have : ys = [] := List.eq_nil_of_length_eq_zero d3.len
        subst this
        rw [List.append_nil] at P
        exact P _ ρ H (.refl _ _) s (by rw [rel]; exact ⟨a, us, rfl, e2, e3⟩)
  · split at q
    · rename_i h1 h2
      unfold newL at q
      obtain ⟨hl, q⟩ := few_ok.mp q
      cases q
      obtain ⟨a, us, rfl, _, e1, e2⟩ := s.lst h1 rx
      obtain ⟨b, ws, rfl, _, d1, d2⟩ := s.lst h2 ry
      refine .inr (.inl ⟨a, b, us, ws, rfl, rfl, e1, d1, ?_, fun p hp => new_lst s (e2.app d2) P p hp⟩)
      rw [← e2.len, ← d2.len]; simpa using hl
    · exact nomatch q
  · exact nomatch q⟩
noncomputable def valP (kvs : List (Key × PV)) (k : Key) : Option PV := (kvs.find? fun kv => decide (kv.1 = k)).map (·.2)
noncomputable def putP (kvs : List (Key × PV)) (k : Key) (v : PV) : List (Key × PV) :=
  if (kvs.any fun kv => decide (kv.1 = k)) = true then kvs.map (fun kv => if kv.1 = k then (kv.1, v) else kv) else kvs ++ [(k, v)]
noncomputable def keyP : PV → Option Key
  | .int i => some (.inl i)
  | .str x => some (.inr x)
  | _ => none
theorem keyP_rel {ρ : List Addr} {H : Hp} {x : PV} {k : Key} {v : V} (e : keyP x = some k) (r : rel K ρ H x v) : v = kV k := by
  cases x <;> simp only [keyP, reduceCtorEq, Option.some.injEq] at e <;> (subst e; rw [rel] at r; exact r)
abbrev RK (K : PySem.W.Frag) (ρ : List Addr) (H : Hp) (kvs : List (Key × PV)) (kws : List (Key × V)) : Prop := Paired (fun (p : Key × PV) (q : Key × V) => p.1 = q.1 ∧ rel K ρ H p.2 q.2) kvs kws
theorem RK.val {ρ : List Addr} {H : Hp} : ∀ {kvs : List (Key × PV)} {kws : List (Key × V)} (k : Key), RK K ρ H kvs kws → match valP kvs k, valV kws k with
    | some x, some v => rel K ρ H x v
    | none, none => True
    | _, _ => False
  | _, _, k, .nil => trivial
  | _, _, k, .cons (a := p) (b := q) r t => by
    have ih := RK.val k t
    unfold valP valV at ih ⊢
    rw [List.find?_cons, List.find?_cons, ← r.1]
    by_cases e : p.1 = k
    · simp only [e, decide_true, Option.map_some]; exact r.2
    · simp only [e, decide_false]; exact ih
theorem RK.some {ρ : List Addr} {H : Hp} {kvs : List (Key × PV)} {kws : List (Key × V)} {k : Key} {x : PV} (r : RK K ρ H kvs kws) (e : valP kvs k = some x) : ∃ v, valV kws k = some v ∧ rel K ρ H x v := by
  have := RK.val k r
  rw [e] at this
  cases q : valV kws k with
  | none => rw [q] at this; exact False.elim this
  | some v => rw [q] at this; exact ⟨v, rfl, this⟩
theorem RK.is {ρ : List Addr} {H : Hp} {kvs : List (Key × PV)} {kws : List (Key × V)} (k : Key) (r : RK K ρ H kvs kws) : (valV kws k).isSome = (valP kvs k).isSome := by
  have := RK.val k r
  cases p : valP kvs k <;> cases q : valV kws k <;> rw [p, q] at this <;> first | rfl | exact False.elim this
theorem RK.len {ρ : List Addr} {H : Hp} {kvs : List (Key × PV)} {kws : List (Key × V)} (r : RK K ρ H kvs kws) : kvs.length = kws.length := Paired.length r
theorem RK.any {ρ : List Addr} {H : Hp} : ∀ {kvs : List (Key × PV)} {kws : List (Key × V)} (k : Key), RK K ρ H kvs kws → (kws.any fun kv => decide (kv.1 = k)) = kvs.any fun kv => decide (kv.1 = k)
  | _, _, k, .nil => rfl
  | _, _, k, .cons (a := p) (b := q) r t => by rw [List.any_cons, List.any_cons, RK.any k t, r.1]
theorem RK.mapPut {ρ : List Addr} {H : Hp} {k : Key} {x : PV} {v : V} (h : rel K ρ H x v) : ∀ {kvs : List (Key × PV)} {kws : List (Key × V)}, RK K ρ H kvs kws → RK K ρ H (kvs.map fun kv => if kv.1 = k then (kv.1, x) else kv) (kws.map fun kv => if kv.1 = k then (kv.1, v) else kv)
  | _, _, .nil => .nil
  | _, _, .cons (a := p) (b := q) a t => .cons (by
      show (if p.1 = k then (p.1, x) else p).1 = (if q.1 = k then (q.1, v) else q).1 ∧ rel K ρ H (if p.1 = k then (p.1, x) else p).2 (if q.1 = k then (q.1, v) else q).2
      rw [← a.1]; split
      · exact ⟨rfl, h⟩
      · exact a) (RK.mapPut h t)
theorem RK.snoc {ρ : List Addr} {H : Hp} {k : Key} {x : PV} {v : V} (h : rel K ρ H x v) : ∀ {kvs : List (Key × PV)} {kws : List (Key × V)}, RK K ρ H kvs kws → RK K ρ H (kvs ++ [(k, x)]) (kws ++ [(k, v)])
  | _, _, .nil => .cons ⟨rfl, h⟩ .nil
  | _, _, .cons a t => .cons a (RK.snoc h t)
theorem RK.put {ρ : List Addr} {H : Hp} {kvs : List (Key × PV)} {kws : List (Key × V)} {k : Key} {x : PV} {v : V} (r : RK K ρ H kvs kws) (h : rel K ρ H x v) : RK K ρ H (putP kvs k x) (putK kws k v) := by
  unfold putP putK
  rw [RK.any k r]
  split
  · exact RK.mapPut h r
  · exact RK.snoc h r
noncomputable def pIx : PV → PV → PH → RV PV := fun x y h => match x with
  | .tup xs => (match y with
    | .int i => (match atI xs i with | some v => .ok v h | none => .no)
    | _ => .no)
  | .ktup xs => (match y with
    | .int i => (match atI xs i with | some v => .ok v h | none => .no)
    | _ => .no)
  | .str z => (match y with
    | .int i => few z.length (match atI z.cps.toList i with | some c => .ok (.str ⟨#[c]⟩) h | none => .no)
    | _ => .no)
  | .ref n => (match h[n]? with
    | some (.dct kvs) => (match keyP y with
      | some k => (match valP kvs k with | some v => .ok v h | none => .no)
      | none => .no)
    | some (.lst xs) => (match y with
      | .int i => (match atI xs i with | some v => .ok v h | none => .no)
      | _ => .no)
    | some (.fro xs) => (match y with
      | .int i => (match atI xs i with | some v => .ok v h | none => .no)
      | _ => .no)
    | none => .no)
  | _ => .no
theorem rels.at {ρ : List Addr} {H : Hp} {xs : List PV} {vs : List V} {i : Int} {x : PV} (r : rels K ρ H xs vs) (e : atI xs i = some x) : ∃ v, atI vs i = some v ∧ rel K ρ H x v := by
  unfold atI at e ⊢
  rw [← r.len]
  cases q : ixN xs.length i with
  | none => rw [q] at e; exact nomatch e
  | some j =>
    rw [q] at e
    exact r.get e
noncomputable def rDG : R2 := fun x y H Q => ∃ a v, x = .ref a ∧ DGet H a y (some v) ∧ Q v H
theorem tail_dict (hu : X.A.units + 1 < cLine) : IxR X rDG := by
  intro value slice pins s σ H x y v u Q I rx ry h hs
  obtain ⟨a, w, rfl, g, q⟩ := h
  obtain rfl : v = Value.ref a := rx
  have hT : s.TypeIs (.ref a) "dict" := dict_typeIs I g
  unfold subscriptTail
  refine wpAny_bind ?_
  rw [getitemInPython_of_ne hT.not_modules]
  refine wpAny_bind (wpAny_specialOf hT PySem.F.slot_dict_getitem.lookup ?_)
  have fin : wpAny (model X.prog X.w) X.A (subscripted slice false (.ref a) u) (fun r s₃ => wpAny (model X.prog X.w) X.A (letTemporaryGo value (.ref a) r >>= fun _ => pure r) (EP X pins σ Q) X.xe s₃) X.xe s := by
    rw [hs]
    exact wpAny_operating (d_getItem hu I g ry fun w' s' I' r' => wpAny_bind (wpAny_letTemporaryGo (wpAny_pure ⟨w, H, I', r', q⟩)))
  first
    | exact wpAny_pure (wpAny_bind fin)
    | exact wpAny_bind (wpAny_pure (wpAny_bind fin))
    | exact wpAny_bind fin
theorem Amb.hu {X : Cx} {pg : Tb} {k : Nat} (A : Amb X pg k) : X.A.units + 1 < cLine := hu_of A.room
theorem i_ix : Amb X pg k → ∃ r, IxR X r ∧ SOp X.K r pIx := fun A => ⟨_, ix_seq.or (tail_dict A.hu), fun ρ h H x y x' y' Q v h' s rx ry q P => by
  cases x with
  | tup xs =>
    cases y with
    | int i =>
      simp only [pIx] at q
      split at q
      · rename_i w e
        cases q
        obtain ⟨a, vs, rfl, z, r⟩ := rel.seq (x := .tup xs) rfl rx
        obtain ⟨u, e1, e2⟩ := r.at e
        rw [rel] at ry
        exact .inl (.inr (.inl ⟨a, vs, i, u, rfl, ry, z, e1, P _ ρ H (.refl _ _) s e2⟩))
      · exact nomatch q
    | _ => exact nomatch q
  | ktup xs =>
    cases y with
    | int i =>
      simp only [pIx] at q
      split at q
      · rename_i w e
        cases q
        obtain ⟨a, vs, rfl, z, r⟩ := rel.seq (x := .ktup xs) rfl rx
        obtain ⟨u, e1, e2⟩ := r.at e
        rw [rel] at ry
        exact .inl (.inr (.inl ⟨a, vs, i, u, rfl, ry, z, e1, P _ ρ H (.refl _ _) s e2⟩))
      · exact nomatch q
    | _ => exact nomatch q
  | str z =>
    cases y with
    | int i =>
      simp only [pIx] at q
      obtain ⟨hl, q⟩ := few_ok.mp q
      split at q
      · rename_i c e
        cases q
        rw [rel] at ry; rw [rel] at rx
        exact .inl (.inr (.inr ⟨z, i, c, rx, ry, hl, e, P _ ρ H (.refl _ _) s (by rw [rel])⟩))
      · exact nomatch q
    | _ => exact nomatch q
  | ref n =>
    simp only [pIx] at q
    split at q
    · rename_i kvs e
      split at q
      · rename_i key ek
        split at q
        · rename_i w ew
          cases q
          rw [rel] at rx
          obtain ⟨a, ea, rfl⟩ := rx
          obtain ⟨kws, e1, e2⟩ := s.ob n _ a e ea
          obtain ⟨u, e3, e4⟩ := RK.some e2 ew
          have := keyP_rel ek ry
          subst this
          exact .inr ⟨a, u, rfl, e3 ▸ DGet.k (k := key) e1, P _ ρ H (.refl _ _) s e4⟩
        · exact nomatch q
      · exact nomatch q
    · rename_i xs e
      cases y with
      | int i =>
        simp only at q
        split at q
        · rename_i w ew
          cases q
          obtain ⟨a, vs, rfl, _, z, r⟩ := s.lst e rx
          obtain ⟨u, e1, e2⟩ := r.at ew
          rw [rel] at ry
          exact .inl (.inl ⟨a, vs, i, u, rfl, ry, .of z, e1, P _ ρ H (.refl _ _) s e2⟩)
        · exact nomatch q
      | _ => exact nomatch q
    · rename_i xs e
      cases y with
      | int i =>
        simp only at q
        split at q
        · rename_i w ew
          cases q
          obtain ⟨a, vs, rfl, _, z, r⟩ := s.fro e rx
          obtain ⟨u, e1, e2⟩ := r.at ew
          rw [rel] at ry
          exact .inl (.inl ⟨a, vs, i, u, rfl, ry, z, e1, P _ ρ H (.refl _ _) s e2⟩)
        · exact nomatch q
      | _ => exact nomatch q
    · exact nomatch q
  | _ => exact nomatch q⟩
theorem je_ix {f : PV → PV → PH → RV PV} {a b : Expr} {ma mb : ME} {pos : Pos} (hr : Amb X pg k → ∃ r, IxR X r ∧ SOp X.K r f) (ha : JE X pg k a ma) (hb : JE X pg k b mb) (hs : PlainIx b) : JE X pg k (.Subscript a b pos) (eOp f ma mb) := ⟨fun A =>
  let ⟨_, q1, s1⟩ := ha.h A; let ⟨_, q2, s2⟩ := hb.h A; let ⟨_, q, s⟩ := hr A; ⟨_, qe_ix q q1 q2 hs, se_op s s1 s2⟩⟩
noncomputable def pPut : PV → PV → PV → PH → RV Unit := fun x y v h => match x with
  | .ref n => (match h[n]? with
    | some (.dct kvs) => (match keyP y with
      | some k => if kvs.length < sizeLine then .ok () (h.set n (.dct (putP kvs k v))) else .no
      | none => .no)
    | some (.lst xs) => (match y with
      | .int i => (match ixN xs.length i with | some j => .ok () (h.set n (.lst (xs.set j v))) | none => .no)
      | _ => .no)
    | _ => .no)
  | _ => .no
noncomputable def rSetD : TSet := fun o i v H Q => ∃ a H', o = .ref a ∧ DPut H a i v H' ∧ Q H'
theorem set_dict (hu : X.A.units + 1 < cLine) : PSet X rSetD := by
  intro pins s σ H o i v ov iv u Q I ro ri rv h
  obtain ⟨a, H', rfl, g, q⟩ := h
  obtain rfl : ov = Value.ref a := ro
  exact d_setItem hu I g ri rv fun s' I' => ⟨H', I', q⟩
theorem PSet.or {t t' : TSet} (h : PSet X t) (h' : PSet X t') : PSet X (fun o i v H Q => t o i v H Q ∨ t' o i v H Q) := by
  intro pins s σ H o i v ov iv u Q I ro ri rv q
  rcases q with q | q
  · exact h pins s σ H o i v ov iv u Q I ro ri rv q
  · exact h' pins s σ H o i v ov iv u Q I ro ri rv q
theorem b_put : Amb X pg k → ∃ t, PSet X t ∧ ∀ ρ h H x y v x' y' v' u h' Q, Sim X.K ρ h H → rel X.K ρ H x x' → rel X.K ρ H y y' → rel X.K ρ H v v' → pPut x y v h = .ok u h' → PostB X.K ρ H h' Q → t x' y' v' H Q := fun A =>
  ⟨_, PSet.or set_list (set_dict A.hu), fun ρ h H x y v x' y' v' u h' Q s rx ry rv q P => by
  cases x with
  | ref n =>
    simp only [pPut] at q
    rw [rel] at rx
    obtain ⟨a, ea, rfl⟩ := rx
    split at q
    · rename_i kvs e
      split at q
      · rename_i key ek
        split at q
        · rename_i hl
          cases q
          obtain ⟨kws, e1, e2⟩ := s.ob n _ a e ea
          have := keyP_rel ek ry
          subst this
          refine .inr ⟨a, _, rfl, DPut.k e1 (by rw [← RK.len e2]; exact hl), ?_⟩
          have g : Gr ρ H ρ (upd H a (.dK (putK kws key v'))) := Gr.write (.inr ⟨_, e1⟩)
          exact P ρ _ g (s.write e ea rfl rfl ⟨_, upd_same, Paired.rels_keys g (RK.put e2 rv)⟩)
        · exact nomatch q
      · exact nomatch q
    · rename_i xs e
      cases y with
      | int i =>
        simp only at q
        split at q
        · rename_i j ej
          cases q
          obtain ⟨vs, e1, e2⟩ := s.ob n _ a e ea
          rw [rel] at ry
          have g : Gr ρ H ρ (upd H a (.lst (vs.set j v'))) := Gr.write (.inl ⟨_, e1⟩)
          exact .inl ⟨a, vs, i, j, rfl, ry, e1, by rw [← e2.len]; exact ej, P ρ _ g (s.write e ea rfl rfl ⟨_, upd_same, rels.gr g _ _ (e2.set j rv)⟩)⟩
        · exact nomatch q
      | _ => exact nomatch q
    · exact nomatch q
  | _ => exact nomatch q⟩
end
end P3
end
section
open PySem PySem.W PyProof.Rows
namespace P3
open PySem PySem.Spec PyProof.Rows L2
mutual
noncomputable def datV (K : PySem.W.Frag) (H : Hp) : PyData → V → Prop
  | .none, v => v = .non
  | .bool b, v => v = .bl b
  | .int i, v => v = .int i
  | .str x, v => v = .str x
  | .list xs, v => ∃ a vs, v = .ref a ∧ SqL K H a vs ∧ datVs K H xs vs
  | .tuple xs, v => ∃ a vs, v = .ref a ∧ SqT K H a vs ∧ datVs K H xs vs
  | .dict _, _ => False
noncomputable def datVs (K : PySem.W.Frag) (H : Hp) : List PyData → List V → Prop
  | [], vs => vs = []
  | x :: r, vs => ∃ v t, vs = v :: t ∧ datV K H x v ∧ datVs K H r t
end
mutual
theorem datV.reads {X : Cx} {pins : List (Addr × Obj)} {σ : L2.St} {H : Hp} {s : Shared} (I : Inv X pins σ H s) : ∀ (d : PyData) (v : V) (u : Value), datV X.K H d v → RelV v u → ∃ as, Reads s.heap u d as
  | .none, v, u, h, r => by rw [datV] at h; subst h; cases (show u = Value.none from r); exact ⟨_, .none⟩
  | .bool b, v, u, h, r => by rw [datV] at h; subst h; cases (show u = Value.bool b from r); exact ⟨_, .bool b⟩
  | .int i, v, u, h, r => by rw [datV] at h; subst h; obtain ⟨t, rfl⟩ := (show ∃ t, u = Value.int i t from r); exact ⟨_, .int i t⟩
  | .str x, v, u, h, r => by rw [datV] at h; subst h; obtain ⟨t, rfl⟩ := (show ∃ t, u = Value.str x t from r); exact ⟨_, .str x t⟩
  | .list xs, v, u, h, r => by
    rw [datV] at h
    obtain ⟨a, vs, rfl, z, q⟩ := h
    cases (show u = Value.ref a from r)
    obtain ⟨its, rv, ⟨o, n, e, c, _, dd⟩, _⟩ := I.list z
    obtain ⟨as, ra⟩ := datVs.reads I xs vs its q rv
    exact ⟨_, .list e c dd (by simpa using ra)⟩
  | .tuple xs, v, u, h, r => by
    rw [datV] at h
    obtain ⟨a, vs, rfl, z, q⟩ := h
    cases (show u = Value.ref a from r)
    obtain ⟨its, rv, ⟨o, e, c, n, dd⟩, _⟩ := I.tuple z
    obtain ⟨as, ra⟩ := datVs.reads I xs vs its q rv
    exact ⟨_, .tuple e c dd (by simpa using ra)⟩
  | .dict _, v, u, h, r => by rw [datV] at h; exact h.elim
theorem datVs.reads {X : Cx} {pins : List (Addr × Obj)} {σ : L2.St} {H : Hp} {s : Shared} (I : Inv X pins σ H s) : ∀ (xs : List PyData) (vs : List V) (us : List Value), datVs X.K H xs vs → Vals vs us → ∃ as, ReadsAll s.heap us xs as
  | [], vs, us, h, r => by rw [datVs] at h; subst h; cases r; exact ⟨_, .nil⟩
  | x :: t, vs, us, h, r => by
    rw [datVs] at h
    obtain ⟨v, w, rfl, h1, h2⟩ := h
    cases r with
    | cons r1 r2 =>
      obtain ⟨as, a⟩ := datV.reads I x v _ h1 r1
      obtain ⟨bs, b⟩ := datVs.reads I t w _ h2 r2
      exact ⟨_, .cons a b⟩
end
mutual
noncomputable def datW (sub : Nat → Option PyData) : PV → Option PyData
  | .non => some .none
  | .bl b => some (.bool b)
  | .int i => some (.int i)
  | .str x => some (.str x)
  | .tup xs => (datWs sub xs).map .tuple
  | .ktup xs => (datWs sub xs).map .tuple
  | .ref n => sub n
  | .ty _ => none
noncomputable def datWs (sub : Nat → Option PyData) : List PV → Option (List PyData)
  | [] => some []
  | x :: r => match datW sub x, datWs sub r with
    | some d1, some ds1 => some (d1 :: ds1)
    | _, _ => none
end
noncomputable def dat : Nat → PH → PV → Option PyData
  | 0, _ => datW fun _ => none
  | n + 1, h => datW fun m => match h[m]? with
    | some (.lst xs) => (datWs (fun j => dat n h (.ref j)) xs).map .list
    | some (.fro xs) => (datWs (fun j => dat n h (.ref j)) xs).map .list
    | _ => none
mutual
theorem datW.v {K : PySem.W.Frag} {ρ : List Addr} {H : Hp} {sub : Nat → Option PyData} (hs : ∀ n d v, sub n = some d → rel K ρ H (.ref n) v → datV K H d v) : ∀ (x : PV) (d : PyData) (v : V), datW sub x = some d → rel K ρ H x v → datV K H d v
  | .non, d, v, e, r => by cases e; rw [rel] at r; rw [datV]; exact r
  | .bl b, d, v, e, r => by cases e; rw [rel] at r; rw [datV]; exact r
  | .int b, d, v, e, r => by cases e; rw [rel] at r; rw [datV]; exact r
  | .str b, d, v, e, r => by cases e; rw [rel] at r; rw [datV]; exact r
  | .ty b, d, v, e, r => by exact nomatch e
  | .ref n, d, v, e, r => hs n d v e r
  | .tup xs, d, v, e, r => by
    rw [datW] at e
    cases q : datWs sub xs with
    | none => rw [q] at e; exact nomatch e
    | some ds =>
      rw [q] at e; cases e
      obtain ⟨a, vs, e1, e2, e3⟩ := rel.seq (x := .tup xs) rfl r
      rw [datV]; exact ⟨a, vs, e1, e2, datWs.v hs xs ds vs q e3⟩
  | .ktup xs, d, v, e, r => by
    rw [datW] at e
    cases q : datWs sub xs with
    | none => rw [q] at e; exact nomatch e
    | some ds =>
      rw [q] at e; cases e
      obtain ⟨a, vs, e1, e2, e3⟩ := rel.seq (x := .ktup xs) rfl r
      rw [datV]; exact ⟨a, vs, e1, e2, datWs.v hs xs ds vs q e3⟩
theorem datWs.v {K : PySem.W.Frag} {ρ : List Addr} {H : Hp} {sub : Nat → Option PyData} (hs : ∀ n d v, sub n = some d → rel K ρ H (.ref n) v → datV K H d v) : ∀ (xs : List PV) (ds : List PyData) (vs : List V), datWs sub xs = some ds → rels K ρ H xs vs → datVs K H ds vs
  | [], ds, vs, e, r => by cases e; rw [rels] at r; rw [datVs]; exact r
  | x :: t, ds, vs, e, r => by
    rw [datWs] at e
    split at e
    · rename_i d ds' e1 e2
      cases e
      obtain ⟨v, w, rfl, r1, r2⟩ := rels_cons.mp r
      rw [datVs]; exact ⟨v, w, rfl, datW.v hs x d v e1 r1, datWs.v hs t ds' w e2 r2⟩
    · exact nomatch e
end
theorem dat.v {K : PySem.W.Frag} {ρ : List Addr} {h : PH} {H : Hp} (s : Sim K ρ h H) : ∀ (n : Nat) (x : PV) (d : PyData) (v : V), dat n h x = some d → rel K ρ H x v → datV K H d v
  | 0, x, d, v, e, r => datW.v (fun _ _ _ z _ => by cases z) x d v e r
  | n + 1, x, d, v, e, r => by
    refine datW.v (fun m d' v' z rv => ?_) x d v e r
    split at z
    · rename_i xs em
      cases q : datWs (fun j => dat n h (.ref j)) xs with
      | none => rw [q] at z; exact nomatch z
      | some ds =>
        rw [q] at z; cases z
        obtain ⟨a, vs, e1, _, e2, e3⟩ := s.lst em rv
        rw [datV]; exact ⟨a, vs, e1, .of e2, datWs.v (fun j d v z rv => dat.v s n (.ref j) d v z rv) xs ds vs q e3⟩
    · rename_i xs em
      cases q : datWs (fun j => dat n h (.ref j)) xs with
      | none => rw [q] at z; exact nomatch z
      | some ds =>
        rw [q] at z; cases z
        obtain ⟨a, vs, e1, _, e2, e3⟩ := s.fro em rv
        rw [datV]; exact ⟨a, vs, e1, e2, datWs.v (fun j d v z rv => dat.v s n (.ref j) d v z rv) xs ds vs q e3⟩
    · exact nomatch z
section
variable {K : PySem.W.Frag} {X : Cx} {pg : Tb} {k : Nat}
noncomputable def rEqD (K : PySem.W.Frag) (f : Bool → Bool) : R2 := fun x y H Q => ∃ d d', datV K H d x ∧ datV K H d' y ∧ d.canLay0 = true ∧ d'.canLay0 = true ∧ min d.depth d'.depth ≤ 64 ∧ Q (.bl (f (PyData.eqv d d'))) H
theorem op_eqD (hr : X.A.units + 64 < cLine) : OpR X (compareOp .Eq) (rEqD X.K id) := by
  intro pins s σ H x y v u Q I rx ry ⟨d, d', h1, h2, c1, c2, hd, q⟩
  obtain ⟨as, ra⟩ := datV.reads I d x v h1 rx
  obtain ⟨bs, rb⟩ := datV.reads I d' y u h2 ry
  exact SeqAt.compareEq_reads ra rb c1 c2 (by omega) ⟨.bl _, H, I, rfl, q⟩
theorem op_neD (hr : X.A.units + 64 < cLine) : OpR X (compareOp .NotEq) (rEqD X.K not) := by
  intro pins s σ H x y v u Q I rx ry ⟨d, d', h1, h2, c1, c2, hd, q⟩
  obtain ⟨as, ra⟩ := datV.reads I d x v h1 rx
  obtain ⟨bs, rb⟩ := datV.reads I d' y u h2 ry
  exact SeqAt.compareNe_reads ra rb c1 c2 (by omega) ⟨.bl _, H, I, rfl, q⟩
noncomputable def pScal : PV → PV → Bool
  | .non, .non => true | .non, .int _ => true | .int _, .non => true | .non, .bl _ => true | .bl _, .non => true | .non, .str _ => true | .str _, .non => true
  | .int _, .int _ => true | .bl _, .bl _ => true | .str _, .str _ => true
  | .int _, .str _ => true | .str _, .int _ => true | .bl _, .str _ => true | .str _, .bl _ => true
  | _, _ => false
noncomputable def isDct (h : PH) : PV → Bool
  | .ref n => (match h[n]? with
    | some (.dct _) => true
    | _ => false)
  | _ => false
noncomputable def isStr : PV → Bool
  | .str _ => true
  | _ => false
noncomputable def alike (x y : PV) (h : PH) : Option Bool :=
  if pScal x y = true then some (decide (x = y)) else match dat 6 h x, dat 6 h y with
    | some a, some b => if a.canLay0 = true ∧ b.canLay0 = true ∧ min a.depth b.depth ≤ 64 then some (PyData.eqv a b) else none
    | _, _ => if isDct h x = true ∧ isStr y = true then some false else none
noncomputable def pEq (x y : PV) (h : PH) : RV PV := match alike x y h with
  | some b => .ok (.bl b) h
  | none => .no
noncomputable def pNe (x y : PV) (h : PH) : RV PV := match alike x y h with
  | some b => if isDct h x = true then .no else .ok (.bl (!b)) h
  | none => .no
theorem scal_rel {ρ : List Addr} {H : Hp} {x y : PV} {x' y' : V} (h : pScal x y = true) (rx : rel K ρ H x x') (ry : rel K ρ H y y') : scal x' y' = true ∧ decide (x' = y') = decide (x = y) := by
  cases x <;> cases y <;> first
    | (exfalso; revert h; simp [pScal]; done)
    | (rw [rel] at rx; rw [rel] at ry; subst rx; subst ry; simp [scal])
theorem alike_post {ρ : List Addr} {h : PH} {H : Hp} {x y : PV} {x' y' : V} {b : Bool} (s : Sim K ρ h H) (rx : rel K ρ H x x') (ry : rel K ρ H y y') (e : alike x y h = some b) :
    (scal x' y' = true ∧ b = decide (x' = y')) ∨ (∃ d d', datV K H d x' ∧ datV K H d' y' ∧ d.canLay0 = true ∧ d'.canLay0 = true ∧ min d.depth d'.depth ≤ 64 ∧ b = PyData.eqv d d') ∨
    (isDct h x = true ∧ b = false ∧ ∃ p z, x' = .ref p ∧ y' = .str z ∧ ∃ kvs, H p = some (.dK kvs)) := by
  unfold alike at e
  split at e
  · rename_i hs
    cases e
    obtain ⟨z, w⟩ := scal_rel hs rx ry
    exact .inl ⟨z, w.symm⟩
  · split at e
    · rename_i a c e1 e2
      split at e
      · rename_i hc
        cases e
        exact .inr (.inl ⟨a, c, dat.v s 6 x a x' e1 rx, dat.v s 6 y c y' e2 ry, hc.1, hc.2.1, hc.2.2, rfl⟩)
      · exact nomatch e
    · split at e
      · rename_i hc
        cases e
        refine .inr (.inr ⟨hc.1, rfl, ?_⟩)
        obtain ⟨c1, c2⟩ := hc
        cases x with
        | ref n =>
          cases y with
          | str z =>
            rw [rel] at ry
            rw [rel] at rx
            obtain ⟨a, ea, rfl⟩ := rx
            simp only [isDct] at c1
            split at c1
            · rename_i kvs en
              obtain ⟨kws, e1, _⟩ := s.ob n _ a en ea
              exact ⟨a, z, rfl, ry, kws, e1⟩
            · exact nomatch c1
          | _ => exact nomatch c2
        | _ => exact nomatch c1
      · exact nomatch e
theorem c_eq : Amb X pg k → ∃ r, OpR X (compareOp .Eq) r ∧ SOp X.K r pEq := fun A => ⟨_, op_eq.or ((op_eqD A.room.units).or (op_eqRS A.room.units0)), fun ρ h H x y x' y' Q v h' s rx ry q P => by
  unfold pEq at q
  split at q
  · rename_i b e
    cases q
    have fin : Q (.bl b) H := P _ ρ H (.refl _ _) s (by rw [rel])
    rcases alike_post s rx ry e with ⟨z, rfl⟩ | ⟨d, d', h1, h2, h3, h4, h5, rfl⟩ | ⟨_, rfl, p, z, e1, e2, kvs, e3⟩
    · exact .inl ⟨z, fin⟩
    · exact .inr (.inl ⟨d, d', h1, h2, h3, h4, h5, fin⟩)
    · exact .inr (.inr ⟨p, z, e1, e2, .inr (.inr ⟨kvs, e3⟩), fin⟩)
  · exact nomatch q⟩
theorem c_ne : Amb X pg k → ∃ r, OpR X (compareOp .NotEq) r ∧ SOp X.K r pNe := fun A => ⟨_, op_ne.or (op_neD A.room.units), fun ρ h H x y x' y' Q v h' s rx ry q P => by
  unfold pNe at q
  split at q
  · rename_i b e
    split at q
    · exact nomatch q
    · rename_i hd
      cases q
      have fin : Q (.bl (!b)) H := P _ ρ H (.refl _ _) s (by rw [rel])
      rcases alike_post s rx ry e with ⟨z, rfl⟩ | ⟨d, d', h1, h2, h3, h4, h5, rfl⟩ | ⟨z, _⟩
      · exact .inl ⟨z, fin⟩
      · exact .inr ⟨d, d', h1, h2, h3, h4, h5, fin⟩
      · exact absurd z hd
  · exact nomatch q⟩
noncomputable def rInD (K : PySem.W.Frag) (f : Bool → Bool) : R2 := fun x y H Q => ∃ p vs xs d, y = .ref p ∧ (SqL K H p vs ∨ SqT K H p vs) ∧ datVs K H xs vs ∧ datV K H d x ∧ PyData.canLayAll0 xs = true ∧ d.canLay0 = true ∧ min (PyData.depthAll xs) d.depth ≤ 60 ∧ Q (.bl (f (xs.any fun z => PyData.eqv z d))) H
theorem op_inD (hr : X.A.units + 64 < cLine) : OpR X (compareOp .In) (rInD X.K id) := by
  intro pins s σ H x y v u Q I rx ry ⟨p, vs, xs, d, e, hq, h1, h2, c1, c2, hd, q⟩
  subst e
  obtain ⟨bs, rb⟩ := datV.reads I d x v h2 rx
  rcases hq with hq | hq
  · obtain ⟨as, ra⟩ := datV.reads I (.list xs) (.ref p) u (by rw [datV]; exact ⟨p, vs, rfl, hq, h1⟩) ry
    exact SeqAt.in_list_reads ra rb c1 c2 (by omega) ⟨.bl _, H, I, rfl, q⟩
  · obtain ⟨as, ra⟩ := datV.reads I (.tuple xs) (.ref p) u (by rw [datV]; exact ⟨p, vs, rfl, hq, h1⟩) ry
    exact SeqAt.in_tuple_reads ra rb c1 c2 (by omega) ⟨.bl _, H, I, rfl, q⟩
theorem op_notInD (hr : X.A.units + 64 < cLine) : OpR X (compareOp .NotIn) (rInD X.K not) := by
  intro pins s σ H x y v u Q I rx ry ⟨p, vs, xs, d, e, hq, h1, h2, c1, c2, hd, q⟩
  subst e
  obtain ⟨bs, rb⟩ := datV.reads I d x v h2 rx
  rcases hq with hq | hq
  · obtain ⟨as, ra⟩ := datV.reads I (.list xs) (.ref p) u (by rw [datV]; exact ⟨p, vs, rfl, hq, h1⟩) ry
    exact SeqAt.notIn_list_reads ra rb c1 c2 (by omega) ⟨.bl _, H, I, rfl, q⟩
  · obtain ⟨as, ra⟩ := datV.reads I (.tuple xs) (.ref p) u (by rw [datV]; exact ⟨p, vs, rfl, hq, h1⟩) ry
    exact SeqAt.notIn_tuple_reads ra rb c1 c2 (by omega) ⟨.bl _, H, I, rfl, q⟩
noncomputable def rInK (f : Bool → Bool) : R2 := fun x y H Q => ∃ a o, y = .ref a ∧ DGet H a x o ∧ Q (.bl (f o.isSome)) H
theorem op_inK (hu : X.A.units + 1 < cLine) : OpR X (compareOp .In) (rInK id) := by
  intro pins s σ H x y v u Q I rx ry ⟨a, o, e, g, q⟩
  subst e
  obtain rfl : u = Value.ref a := ry
  exact d_in hu I g rx fun s' I' => ⟨.bl _, H, I', rfl, q⟩
theorem op_notInK (hu : X.A.units + 1 < cLine) : OpR X (compareOp .NotIn) (rInK not) := by
  intro pins s σ H x y v u Q I rx ry ⟨a, o, e, g, q⟩
  subst e
  obtain rfl : u = Value.ref a := ry
  exact d_notIn hu I g rx fun s' I' => ⟨.bl _, H, I', rfl, q⟩
noncomputable def itemsOf (h : PH) : PV → Option (List PV)
  | .tup xs => some xs
  | .ktup xs => some xs
  | .ref n => lstOf h n
  | _ => none
theorem Sim.items {ρ : List Addr} {h : PH} {H : Hp} (s : Sim K ρ h H) {x : PV} {xs : List PV} {v : V} (e : itemsOf h x = some xs) (r : rel K ρ H x v) : ∃ a vs, v = .ref a ∧ (SqL K H a vs ∨ SqT K H a vs) ∧ rels K ρ H xs vs := by
  cases x with
  | tup ys => cases e; obtain ⟨a, vs, e1, e2, e3⟩ := rel.seq (x := .tup xs) rfl r; exact ⟨a, vs, e1, .inr e2, e3⟩
  | ktup ys => cases e; obtain ⟨a, vs, e1, e2, e3⟩ := rel.seq (x := .ktup xs) rfl r; exact ⟨a, vs, e1, .inr e2, e3⟩
  | ref n => obtain ⟨a, vs, e1, _, e2, e3⟩ := s.sq e r; exact ⟨a, vs, e1, .inl e2, e3⟩
  | _ => exact nomatch e
noncomputable def flatP : PV → Bool
  | .non => true
  | .bl _ => true
  | .int _ => true
  | .str _ => true
  | _ => false
noncomputable def eqF : PV → PV → Bool
  | .non, .non => true
  | .bl a, .bl b => a == b
  | .bl a, .int b => (if a then 1 else 0) == b
  | .int a, .bl b => a == (if b then 1 else 0)
  | .int a, .int b => a == b
  | .str a, .str b => a == b
  | _, _ => false
theorem flat_rel {ρ : List Addr} {H : Hp} {x : PV} {v : V} (h : flatP x = true) (r : rel K ρ H x v) : flatV v = true := by
  cases x <;> first | (exfalso; revert h; simp [flatP]; done) | (rw [rel] at r; subst r; rfl)
theorem eqF_rel {ρ : List Addr} {H : Hp} {x y : PV} {v w : V} (hx : flatP x = true) (hy : flatP y = true) (rx : rel K ρ H x v) (ry : rel K ρ H y w) : eqV v w = eqF x y := by
  cases x <;> first
    | (exfalso; revert hx; simp [flatP]; done)
    | (cases y <;> first
        | (exfalso; revert hy; simp [flatP]; done)
        | (rw [rel] at rx; rw [rel] at ry; subst rx; subst ry; rfl))
theorem flats {ρ : List Addr} {H : Hp} {x : PV} {v : V} (hx : flatP x = true) (rx : rel K ρ H x v) : ∀ {xs : List PV} {vs : List V}, xs.all flatP = true → rels K ρ H xs vs → vs.all flatV = true ∧ inV v vs = xs.any fun z => eqF z x
  | [], vs, _, r => by rw [rels_nil] at r; subst r; exact ⟨rfl, rfl⟩
  | y :: t, vs, h, r => by
    obtain ⟨w, u, rfl, r1, r2⟩ := rels_cons.mp r
    simp only [Bool.and_eq_true, List.all_cons] at h
    obtain ⟨a, b⟩ := flats hx rx h.2 r2
    refine ⟨by rw [List.all_cons, flat_rel h.1 r1, a]; rfl, ?_⟩
    unfold inV at b ⊢
    rw [List.any_cons, List.any_cons, b, eqF_rel h.1 hx r1 rx]
noncomputable def isIn (x y : PV) (h : PH) : Option Bool := match itemsOf h y with
  | some xs => if (flatP x && xs.all flatP) = true then some (xs.any fun z => eqF z x) else (match dat 6 h x, datWs (fun j => dat 6 h (.ref j)) xs with
    | some d, some ds => if PyData.canLayAll0 ds = true ∧ d.canLay0 = true ∧ min (PyData.depthAll ds) d.depth ≤ 60 then some (ds.any fun z => PyData.eqv z d) else none
    | _, _ => none)
  | none => (match y with
    | .ref n => (match h[n]? with
      | some (.dct kvs) => (keyP x).map fun k => (valP kvs k).isSome
      | _ => none)
    | .str j => (match x with
      | .str i => some (!(Builtin.Str.occurrences j i 0 j.length 1).isEmpty)
      | _ => none)
    | _ => none)
noncomputable def pIn (x y : PV) (h : PH) : RV PV := match isIn x y h with
  | some b => .ok (.bl b) h
  | none => .no
noncomputable def pNotIn (x y : PV) (h : PH) : RV PV := match isIn x y h with
  | some b => .ok (.bl (!b)) h
  | none => .no
theorem isIn_post {ρ : List Addr} {h : PH} {H : Hp} {x y : PV} {x' y' : V} {b : Bool} (s : Sim K ρ h H) (rx : rel K ρ H x x') (ry : rel K ρ H y y') (e : isIn x y h = some b) :
    (∃ p xs, y' = .ref p ∧ (SqL K H p xs ∨ SqT K H p xs) ∧ flatV x' = true ∧ xs.all flatV = true ∧ b = inV x' xs) ∨
    (∃ p vs xs d, y' = .ref p ∧ (SqL K H p vs ∨ SqT K H p vs) ∧ datVs K H xs vs ∧ datV K H d x' ∧ PyData.canLayAll0 xs = true ∧ d.canLay0 = true ∧ min (PyData.depthAll xs) d.depth ≤ 60 ∧ b = xs.any fun z => PyData.eqv z d) ∨
    (∃ a o, y' = .ref a ∧ DGet H a x' o ∧ b = o.isSome) ∨
    (∃ i j, x' = .str i ∧ y' = .str j ∧ b = !(Builtin.Str.occurrences j i 0 j.length 1).isEmpty) := by
  unfold isIn at e
  split at e
  · rename_i xs ei
    obtain ⟨a, vs, rfl, z, r⟩ := s.items ei ry
    split at e
    · rename_i hf
      cases e
      rw [Bool.and_eq_true] at hf
      obtain ⟨f1, f2⟩ := flats hf.1 rx hf.2 r
      exact .inl ⟨a, vs, rfl, z, flat_rel hf.1 rx, f1, f2.symm⟩
    · split at e
      · rename_i d ds e1 e2
        split at e
        · rename_i hc
          cases e
          exact .inr (.inl ⟨a, vs, ds, d, rfl, z, datWs.v (fun j d v w rv => dat.v s 6 (.ref j) d v w rv) xs ds vs e2 r, dat.v s 6 x d x' e1 rx, hc.1, hc.2.1, hc.2.2, rfl⟩)
        · exact nomatch e
      · exact nomatch e
  · split at e
    · rename_i n ei
      split at e
      · rename_i kvs en
        cases q : keyP x with
        | none => rw [q] at e; exact nomatch e
        | some key =>
          rw [q] at e
          cases e
          rw [rel] at ry
          obtain ⟨a, ea, rfl⟩ := ry
          obtain ⟨kws, e1, e2⟩ := s.ob n _ a en ea
          have := keyP_rel q rx
          subst this
          exact .inr (.inr (.inl ⟨a, _, rfl, DGet.k (k := key) e1, (RK.is key e2).symm⟩))
      · exact nomatch e
    · split at e
      · cases e
        rw [rel] at rx
        rw [rel] at ry
        exact .inr (.inr (.inr ⟨_, _, rx, ry, rfl⟩))
      · exact nomatch e
    · exact nomatch e
theorem c_in : Amb X pg k → ∃ r, OpR X (compareOp .In) r ∧ SOp X.K r pIn := fun A => ⟨_, op_in_seq.or ((op_inD A.room.units).or ((op_inK A.hu).or op_in_str)), fun ρ h H x y x' y' Q v h' s rx ry q P => by
  unfold pIn at q
  split at q
  · rename_i b e
    cases q
    have fin : Q (.bl b) H := P _ ρ H (.refl _ _) s (by rw [rel])
    rcases isIn_post s rx ry e with ⟨p, xs, e1, e2, e3, e4, rfl⟩ | ⟨p, vs, xs, d, e1, e2, e3, e4, e5, e6, e7, rfl⟩ | ⟨a, o, e1, e2, rfl⟩ | ⟨i, j, e1, e2, rfl⟩
    · exact .inl ⟨p, xs, e1, e2, e3, e4, fin⟩
    · exact .inr (.inl ⟨p, vs, xs, d, e1, e2, e3, e4, e5, e6, e7, fin⟩)
    · exact .inr (.inr (.inl ⟨a, o, e1, e2, fin⟩))
    · exact .inr (.inr (.inr ⟨i, j, e1, e2, fin⟩))
  · exact nomatch q⟩
theorem c_notIn : Amb X pg k → ∃ r, OpR X (compareOp .NotIn) r ∧ SOp X.K r pNotIn := fun A => ⟨_, op_notIn_seq.or ((op_notInD A.room.units).or ((op_notInK A.hu).or op_notIn_str)), fun ρ h H x y x' y' Q v h' s rx ry q P => by
  unfold pNotIn at q
  split at q
  · rename_i b e
    cases q
    have fin : Q (.bl (!b)) H := P _ ρ H (.refl _ _) s (by rw [rel])
    rcases isIn_post s rx ry e with ⟨p, xs, e1, e2, e3, e4, rfl⟩ | ⟨p, vs, xs, d, e1, e2, e3, e4, e5, e6, e7, rfl⟩ | ⟨a, o, e1, e2, rfl⟩ | ⟨i, j, e1, e2, rfl⟩
    · exact .inl ⟨p, xs, e1, e2, e3, e4, fin⟩
    · exact .inr (.inl ⟨p, vs, xs, d, e1, e2, e3, e4, e5, e6, e7, fin⟩)
    · exact .inr (.inr (.inl ⟨a, o, e1, e2, fin⟩))
    · exact .inr (.inr (.inr ⟨i, j, e1, e2, fin⟩))
  · exact nomatch q⟩
noncomputable def pIsN (neg : Bool) (x : PV) (h : PH) : RV PV := .ok (.bl (if neg then !decide (x = .non) else decide (x = .non))) h
theorem non_rel {ρ : List Addr} {H : Hp} {x : PV} {v : V} (r : rel K ρ H x v) : decide (v = .non) = decide (x = .non) := by
  cases x with
  | non => rw [rel] at r; subst r; rfl
  | bl => rw [rel] at r; subst r; rfl
  | int => rw [rel] at r; subst r; rfl
  | str => rw [rel] at r; subst r; rfl
  | ty => rw [rel] at r; subst r; rfl
  | tup => rw [rel] at r; obtain ⟨a, _, rfl, _⟩ := r; rfl
  | ktup => rw [rel] at r; obtain ⟨a, _, rfl, _⟩ := r; rfl
  | ref => rw [rel] at r; obtain ⟨a, _, rfl⟩ := r; rfl
variable {a : Expr} {ma : ME} {pos pos' : Pos}
theorem se_isN {c : CF} {ta : TE} (neg : Bool) (s1 : SE c K ta ma) : SE c K (fun σ H Q => ta σ H fun x H1 => Q (.bl (if neg then !decide (x = .non) else decide (x = .non))) H1) (eUn (pIsN neg) ma) := fun ρ h H e σ Q v h' s r q P => by
  obtain ⟨x, h1, e1, q⟩ := bind_eq.mp q
  cases q
  refine s1 ρ h H e σ _ x _ s r e1 fun x' ρ1 H1 g1 z1 r1 => ?_
  rw [non_rel r1]
  exact P _ ρ1 H1 g1 z1 (by rw [rel])
theorem je_isN {j : Nat} (ha : JE X pg k a ma) : JE X pg k (.Compare a [.Is] [.Constant .none j pos'] pos) (eUn (pIsN false) ma) := ⟨fun A => let ⟨_, q1, s1⟩ := ha.h A; ⟨_, qe_isN q1, se_isN false s1⟩⟩
theorem jt_isN {j : Nat} (ha : JE X pg k a ma) : JT X pg k (.Compare a [.Is] [.Constant .none j pos'] pos) (mVal (eUn (pIsN false) ma)) := ⟨fun A => let ⟨_, q1, s1⟩ := ha.h A; ⟨_, qt_isN q1, st_val (se_isN false s1)⟩⟩
theorem jt_notN {j : Nat} (ha : JE X pg k a ma) : JT X pg k (.Compare a [.IsNot] [.Constant .none j pos'] pos) (mVal (eUn (pIsN true) ma)) := ⟨fun A => let ⟨_, q1, s1⟩ := ha.h A; ⟨_, qt_notN q1, st_val (se_isN true s1)⟩⟩
end
end P3
end
section
open PySem PySem.W PyProof.Rows
namespace P3
open PySem PySem.Spec PyProof.Rows L2
section
variable {K : PySem.W.Frag} {X : Cx} {pg : Tb} {k : Nat}
abbrev MO := CF → PEnv → PH → RV (Option Int)
noncomputable def oNone : MO := fun _ _ h => .ok none h
noncomputable def oSome (a : ME) : MO := fun c e h => (a c e h).bind fun v h1 => match v with
  | .int i => .ok (some i) h1
  | _ => .no
noncomputable def cutP (xs : List PV) (lo hi : Option Int) : List PV := (xs.drop (HT.sIx xs.length 0 lo)).take (HT.sIx xs.length xs.length hi - HT.sIx xs.length 0 lo)
noncomputable def pSl (x : PV) (lo hi : Option Int) (h : PH) : RV PV := match x with
  | .tup xs => .ok (.tup (cutP xs lo hi)) h
  | .ref n => (match lstOf h n with
    | some xs => .ok (.ref h.length) (h ++ [.lst (cutP xs lo hi)])
    | none => .no)
  | _ => .no
noncomputable def eSl (a : ME) (l u : MO) : ME := fun c e h => (a c e h).bind fun x h1 => (l c e h1).bind fun lo h2 => (u c e h2).bind fun hi h3 => pSl x lo hi h3
structure JO (X : Cx) (pg : Tb) (k : Nat) (e : Option Expr) (m : MO) : Prop where
  h : Amb X pg k → ∃ t, QO X e t ∧ ∀ ρ h H e σ Q o h', Sim X.K ρ h H → REnv X.K ρ H e σ → m (run pg k) e h = .ok o h' → PostB X.K ρ H h' (Q o) → t σ H Q
theorem jo_none : JO X pg k none oNone := ⟨fun A => ⟨_, qo_none, fun ρ h H e σ Q o h' s r q P => by cases q; exact P ρ H (.refl _ _) s⟩⟩
theorem jo_some {e : Expr} {ma : ME} (ha : JE X pg k e ma) : JO X pg k (some e) (oSome ma) := ⟨fun A => let ⟨_, q1, s1⟩ := ha.h A; ⟨_, qo_some q1, fun ρ h H e σ Q o h' s r q P => by
  obtain ⟨v, h1, e1, q⟩ := bind_eq.mp q
  refine s1 ρ h H e σ _ v h1 s r e1 fun v' ρ1 H1 g1 z1 r1 => ?_
  cases v with
  | int i => cases q; rw [rel] at r1; exact ⟨i, r1, P ρ1 H1 g1 z1⟩
  | _ => exact nomatch q⟩⟩
theorem rels.cut {ρ : List Addr} {H : Hp} {xs : List PV} {vs : List V} (r : rels K ρ H xs vs) (lo hi : Option Int) : rels K ρ H (cutP xs lo hi) (cutV vs lo hi) := by
  unfold cutP cutV
  rw [← r.len]
  exact (r.drop _).take _
theorem je_slice {e : Expr} {lo hi : Option Expr} {ma : ME} {ml mu : MO} {p2 pos : Pos} (ha : JE X pg k e ma) (hl : JO X pg k lo ml) (hh : JO X pg k hi mu) : JE X pg k (.Subscript e (.Slice lo hi none p2) pos) (eSl ma ml mu) := ⟨fun A =>
  let ⟨_, q1, s1⟩ := ha.h A; let ⟨_, q2, s2⟩ := hl.h A; let ⟨_, q3, s3⟩ := hh.h A; ⟨_, qe_slice slB q1 q2 q3, fun ρ h H e σ Q v h' s r q P => by
  obtain ⟨x, h1, e1, q⟩ := bind_eq.mp q
  obtain ⟨lo, h2, e2, q⟩ := bind_eq.mp q
  obtain ⟨hi, h3, e3, q⟩ := bind_eq.mp q
  refine s1 ρ h H e σ _ x h1 s r e1 fun x' ρ1 H1 g1 z1 r1 => ?_
  refine s2 ρ1 h1 H1 e σ _ lo h2 z1 (r.gr g1) e2 fun ρ2 H2 g2 z2 => ?_
  refine s3 ρ2 h2 H2 e σ _ hi h3 z2 (r.gr (g1.trans g2)) e3 fun ρ3 H3 g3 z3 => ?_
  have r3 := rel.gr (K := X.K) (g2.trans g3) _ _ r1
  have P3 := P.gr ((g1.trans g2).trans g3)
  cases x with
  | tup xs =>
    cases q
    rw [rel] at r3
    obtain ⟨a, vs, rfl, d1, d2⟩ := r3
    by_cases hw : HT.sIx vs.length 0 lo = 0 ∧ HT.sIx vs.length vs.length hi = vs.length
    · refine .inr (.inr ⟨a, vs, rfl, .of d1, hw, P3 _ ρ3 H3 (.refl _ _) z3 ?_⟩)
      have : cutP xs lo hi = xs := by
        unfold cutP
        rw [d2.len, hw.1, hw.2, List.drop_zero, Nat.sub_zero, ← d2.len, List.take_length]
      rw [this, rel]
      exact ⟨a, vs, rfl, d1, d2⟩
    · exact .inr (.inl ⟨a, vs, rfl, .of d1, hw, fun p hp => new_tup z3 (d2.cut lo hi) P3 p hp⟩)
  | ref n =>
    simp only [pSl] at q
    split at q
    · rename_i xs en
      cases q
      obtain ⟨a, vs, rfl, _, d1, d2⟩ := z3.sq en r3
      exact .inl ⟨a, vs, rfl, d1, fun p hp => new_lst z3 (d2.cut lo hi) P3 p hp⟩
    · exact nomatch q
  | _ => exact nomatch q⟩⟩
noncomputable def pLen : List PV → PH → RV PV := fun xs h => match xs with
  | [x] => (match itemsOf h x with
    | some ys => .ok (.int ys.length) h
    | none => (match x with
      | .str z => few z.length (.ok (.int z.length) h)
      | .ref n => (match h[n]? with
        | some (.dct kvs) => .ok (.int kvs.length) h
        | _ => .no)
      | _ => .no))
  | _ => .no
theorem rels_one {ρ : List Addr} {H : Hp} {x : PV} {us : List V} (r : rels K ρ H [x] us) : ∃ u, us = [u] ∧ rel K ρ H x u := by
  obtain ⟨v, t, rfl, r1, r2⟩ := rels_cons.mp r
  rw [rels_nil] at r2
  exact ⟨v, by rw [r2], r1⟩
theorem rels_two {ρ : List Addr} {H : Hp} {x y : PV} {us : List V} (r : rels K ρ H [x, y] us) : ∃ u w, us = [u, w] ∧ rel K ρ H x u ∧ rel K ρ H y w := by
  obtain ⟨v, t, rfl, r1, r2⟩ := rels_cons.mp r
  obtain ⟨w, rfl, r3⟩ := rels_one r2
  exact ⟨v, w, rfl, r1, r3⟩
theorem b_len : Amb X pg k → ∃ r, CallR X (.builtin "len") r ∧ SCl X.K r pLen := fun A => ⟨_, callLen.or call_lenD, fun ρ h H xs us Q v h' s r q P => by
  unfold pLen at q
  split at q
  · rename_i x
    obtain ⟨u, rfl, r1⟩ := rels_one r; have r := r1
    split at q
    · rename_i ys e
      cases q
      obtain ⟨a, vs, rfl, z, r2⟩ := s.items e r
      exact .inl (.inl ⟨a, vs, rfl, z, by rw [← r2.len]; exact P _ ρ H (.refl _ _) s (by rw [rel])⟩)
    · split at q
      · obtain ⟨hl, q⟩ := few_ok.mp q
        cases q
        rw [rel] at r
        subst r
        exact .inl (.inr ⟨_, rfl, hl, P _ ρ H (.refl _ _) s (by rw [rel])⟩)
      · split at q
        · rename_i e
          cases q
          rw [rel] at r
          obtain ⟨a, ea, rfl⟩ := r
          obtain ⟨kws, e1, e2⟩ := s.ob _ _ a e ea
          exact .inr ⟨a, kws, rfl, e1, by rw [← RK.len e2]; exact P _ ρ H (.refl _ _) s (by rw [rel])⟩
        · exact nomatch q
      · exact nomatch q
  · exact nomatch q⟩
inductive Ty where
  | non | bool | int | str | tuple | list | dict
  deriving DecidableEq
noncomputable def Ty.n : Ty → String
  | .non => "NoneType" | .bool => "bool" | .int => "int" | .str => "str" | .tuple => "tuple" | .list => "list" | .dict => "dict"
noncomputable def Ty.of : String → Option Ty
  | "bool" => some .bool | "int" => some .int | "str" => some .str | "tuple" => some .tuple | "list" => some .list | "dict" => some .dict
  | _ => none
noncomputable def Ty.isi (a b : Ty) : Bool := decide (a = b) || (decide (a = .bool) && decide (b = .int))
noncomputable def tyP (h : PH) : PV → Option Ty
  | .non => some .non
  | .bl _ => some .bool
  | .int _ => some .int
  | .str _ => some .str
  | .tup _ => some .tuple
  | .ref n => (match h[n]? with
    | some (.lst _) => some .list
    | some (.dct _) => some .dict
    | _ => none)
  | _ => none
theorem tyP_of {ρ : List Addr} {h : PH} {H : Hp} {x : PV} {t : Ty} {v : V} (s : Sim K ρ h H) (e : tyP h x = some t) (r : rel K ρ H x v) : TyOf K H v (.type t.n) := by
  cases x with
  | non => cases e; rw [rel] at r; subst r; exact .non
  | bl b => cases e; rw [rel] at r; subst r; exact .bl b
  | int i => cases e; rw [rel] at r; subst r; exact .int i
  | str z => cases e; rw [rel] at r; subst r; exact .str z
  | tup xs => cases e; rw [rel] at r; obtain ⟨a, vs, rfl, e1, _⟩ := r; exact .tup e1
  | ref n =>
    rw [rel] at r
    obtain ⟨a, ea, rfl⟩ := r
    simp only [tyP] at e
    split at e
    · rename_i en; cases e; obtain ⟨vs, e1, _⟩ := s.ob n _ a en ea; exact .lst e1
    · rename_i en; cases e; obtain ⟨vs, e1, _⟩ := s.ob n _ a en ea; exact .dK e1
    · exact nomatch e
  | _ => exact nomatch e
theorem kit_ty (a b : Ty) (hb : b ≠ .non) : PySem.W.kitOne K (.type a.n) (.type b.n) = some (a.isi b) := by
  cases b <;> first | (exact absurd rfl hb) | (cases a <;> rfl)
theorem Ty.of_n {T : String} {t : Ty} (h : Ty.of T = some t) : T = t.n ∧ t ≠ .non := by
  unfold Ty.of at h
  split at h <;> first | (cases h; exact ⟨rfl, by decide⟩) | exact nomatch h
noncomputable def tysOf : List PV → Option (List Ty)
  | [] => some []
  | .ty T :: r => (match Ty.of T, tysOf r with
    | some t, some ts => some (t :: ts)
    | _, _ => none)
  | _ => none
noncomputable def pIsi : List PV → PH → RV PV := fun xs h => match xs with
  | [x, .ty T] => (match tyP h x, Ty.of T with
    | some a, some b => .ok (.bl (a.isi b)) h
    | _, _ => .no)
  | [x, .tup ts] => (match tyP h x, tysOf ts with
    | some a, some bs => .ok (.bl (bs.any a.isi)) h
    | _, _ => .no)
  | _ => .no
theorem tys_rel {ρ : List Addr} {H : Hp} : ∀ {ts : List PV} {bs : List Ty} {vs : List V}, tysOf ts = some bs → rels K ρ H ts vs → vs = (bs.map Ty.n).map V.ty ∧ ∀ b ∈ bs, b ≠ .non
  | [], bs, vs, e, r => by cases e; rw [rels_nil] at r; subst r; exact ⟨rfl, fun _ m => by cases m⟩
  | .ty T :: t, bs, vs, e, r => by
    simp only [tysOf] at e
    split at e
    · rename_i b bs' e1 e2
      cases e
      obtain ⟨v, w, rfl, r1, r2⟩ := rels_cons.mp r
      obtain ⟨h1, h2⟩ := tys_rel e2 r2
      rw [rel] at r1
      obtain ⟨n1, n2⟩ := Ty.of_n e1
      refine ⟨by rw [r1, h1, n1]; rfl, fun c m => ?_⟩
      rcases List.mem_cons.mp m with rfl | m
      · exact n2
      · exact h2 c m
    · exact nomatch e
  | .non :: _, _, _, e, _ => nomatch e
  | .bl _ :: _, _, _, e, _ => nomatch e
  | .int _ :: _, _, _, e, _ => nomatch e
  | .str _ :: _, _, _, e, _ => nomatch e
  | .tup _ :: _, _, _, e, _ => nomatch e
  | .ktup _ :: _, _, _, e, _ => nomatch e
  | .ref _ :: _, _, _, e, _ => nomatch e
theorem kit_tys (a : Ty) : ∀ (bs : List Ty), (∀ b ∈ bs, b ≠ .non) → PySem.W.kitAny K (.type a.n) ((bs.map Ty.n).map Value.type) = some (bs.any a.isi)
  | [], _ => rfl
  | b :: r, h => by
    have h1 := kit_ty (K := K) a b (h b List.mem_cons_self)
    have h2 := kit_tys a r fun c m => h c (List.mem_cons_of_mem _ m)
    simp only [List.map_cons, List.any_cons, PySem.W.kitAny, h1, h2]
    cases a.isi b <;> rfl
theorem b_isi : Amb X pg k → ∃ r, CallR X (.builtin "isinstance") r ∧ SCl X.K r pIsi := fun A => ⟨_, callIsiW, fun ρ h H xs us Q v h' s r q P => by
  unfold pIsi at q
  split at q
  · rename_i x T
    split at q
    · rename_i a b e1 e2
      cases q
      obtain ⟨u, w, rfl, r1, r2⟩ := rels_two r
      rw [rel] at r2; subst r2
      obtain ⟨n1, n2⟩ := Ty.of_n e2
      exact .inl ⟨u, T, _, _, rfl, tyP_of s e1 r1, by rw [n1]; exact kit_ty a b n2, P _ ρ H (.refl _ _) s (by rw [rel])⟩
    · exact nomatch q
  · rename_i x ts
    split at q
    · rename_i a bs e1 e2
      cases q
      obtain ⟨u, w, rfl, r1, r2⟩ := rels_two r
      rw [rel] at r2
      obtain ⟨p, vs, rfl, e3, e4⟩ := r2
      obtain ⟨h1, h2⟩ := tys_rel e2 e4
      subst h1
      exact .inr ⟨u, p, _, _, _, rfl, e3, tyP_of s e1 r1, kit_tys a bs h2, P _ ρ H (.refl _ _) s (by rw [rel])⟩
    · exact nomatch q
  · exact nomatch q⟩
noncomputable def pTuple : List PV → PH → RV PV := fun xs h => match xs with
  | [.tup ys] => .ok (.tup ys) h
  | [.ref n] => (match lstOf h n with
    | some ys => .ok (.tup ys) h
    | none => .no)
  | _ => .no
theorem b_tuple : Amb X pg k → ∃ r, CallR X (.type "tuple") r ∧ SCl X.K r pTuple := fun A => ⟨_, callTup, fun ρ h H xs us Q v h' s r q P => by
  unfold pTuple at q
  split at q
  · rename_i ys
    cases q
    obtain ⟨u, rfl, r1⟩ := rels_one r; have r := r1
    have r' := r
    rw [rel] at r
    obtain ⟨a, vs, rfl, e1, e2⟩ := r
    exact ⟨a, vs, rfl, .inr ⟨.of e1, P _ ρ H (.refl _ _) s r'⟩⟩
  · split at q
    · rename_i ys e
      cases q
      obtain ⟨u, rfl, r1⟩ := rels_one r; have r := r1
      obtain ⟨a, vs, rfl, _, e1, e2⟩ := s.sq e r
      exact ⟨a, vs, rfl, .inl ⟨e1, fun p hp => new_tup s e2 P p hp⟩⟩
    · exact nomatch q
  · exact nomatch q⟩
noncomputable def blsP : List PV → Option (List Bool)
  | [] => some []
  | .bl b :: r => (blsP r).map (b :: ·)
  | _ => none
theorem blsP_eq : ∀ {xs : List PV} {bs : List Bool}, blsP xs = some bs → xs = bs.map PV.bl
  | [], bs, e => by cases e; rfl
  | .bl b :: r, bs, e => by
    rw [blsP] at e
    cases q : blsP r with
    | none => rw [q] at e; exact nomatch e
    | some cs => rw [q] at e; cases e; rw [blsP_eq q]; rfl
  | .non :: _, _, e => nomatch e
  | .int _ :: _, _, e => nomatch e
  | .str _ :: _, _, e => nomatch e
  | .tup _ :: _, _, e => nomatch e
  | .ktup _ :: _, _, e => nomatch e
  | .ref _ :: _, _, e => nomatch e
  | .ty _ :: _, _, e => nomatch e
theorem rels_bl {ρ : List Addr} {H : Hp} : ∀ {bs : List Bool} {vs : List V}, rels K ρ H (bs.map PV.bl) vs → vs = bs.map V.bl
  | [], vs, r => rels_nil.mp r
  | b :: t, vs, r => by
    obtain ⟨v, w, rfl, r1, r2⟩ := rels_cons.mp r
    rw [rel] at r1
    rw [r1, rels_bl r2]; rfl
noncomputable def pFold {α : Type} (g : List PV → Option (List α)) (f : List α → PV) : List PV → PH → RV PV := fun xs h => match xs with
  | [.ref n] => (match lstOf h n with
    | some ys => (match g ys with
      | some bs => .ok (f bs) h
      | none => .no)
    | none => .no)
  | _ => .no
theorem pFold_ok {α : Type} {g : List PV → Option (List α)} {f : List α → PV} {xs : List PV} {h h' : PH} {v : PV} (q : pFold g f xs h = .ok v h') : ∃ n ys bs, xs = [.ref n] ∧ lstOf h n = some ys ∧ g ys = some bs ∧ v = f bs ∧ h' = h := by
  unfold pFold at q
  split at q
  · split at q
    · split at q
      · cases q; exact ⟨_, _, _, rfl, by assumption, by assumption, rfl, rfl⟩
      · exact nomatch q
    · exact nomatch q
  · exact nomatch q
noncomputable def pAll := pFold blsP fun bs => .bl (bs.all id)
theorem b_all : Amb X pg k → ∃ r, CallR X (.builtin "all") r ∧ SCl X.K r pAll := fun A => ⟨_, callAll A.calm, fun ρ h H xs us Q v h' s r q P => by
  obtain ⟨n, ys, bs, rfl, e1, e2, rfl, rfl⟩ := pFold_ok q
  obtain ⟨u, rfl, r1⟩ := rels_one r; have r := r1
  obtain ⟨a, vs, rfl, _, z, r2⟩ := s.sq e1 r
  rw [blsP_eq e2] at r2
  exact ⟨a, bs, rfl, by rw [rels_bl r2] at z; exact z, P _ ρ H (.refl _ _) s (by rw [rel])⟩⟩
noncomputable def isLst : PV → PH → Bool := fun x h => match x with
  | .ref n => (match h[n]? with
    | some (.lst _) => true
    | _ => false)
  | _ => false
theorem isLst_ty {ρ : List Addr} {h : PH} {H : Hp} {x : PV} {v : V} (s : Sim K ρ h H) (r : rel K ρ H x v) (e : isLst x h = true) : tyV K "list" v H := by
  cases x with
  | ref n =>
    simp only [isLst] at e
    split at e
    · rename_i en
      obtain ⟨a, vs, rfl, _, e1, _⟩ := s.lst en r
      exact .inl ⟨rfl, vs, .of e1⟩
    · exact nomatch e
  | _ => exact nomatch e
noncomputable def pAppend : PV → List PV → PH → RV PV := fun x vs h => match x, vs with
  | .ref n, [v] => (match h[n]? with
    | some (.lst xs) => if xs.length < sizeLine then .ok .non (h.set n (.lst (xs ++ [v]))) else .no
    | _ => .no)
  | _, _ => .no
theorem m_append : Amb X pg k → ∃ r, MtR X "list.append" r ∧ SMt X.K "list" r pAppend isLst := fun A => ⟨_, mt_append, fun ρ h H x x' s r e => isLst_ty s r e, fun ρ h H x x' xs us Q v h' s rx rs q P => by
  unfold pAppend at q
  split at q
  · rename_i n y
    split at q
    · rename_i ys en
      split at q
      · rename_i hl
        cases q
        obtain ⟨a, vs, rfl, ea, e1, e2⟩ := s.lst en rx
        obtain ⟨u, rfl, r⟩ := rels_one rs
        have g : Gr ρ H ρ (upd H a (.lst (vs ++ [u]))) := Gr.write (.inl ⟨_, e1⟩)
        exact ⟨a, vs, u, rfl, rfl, e1, by rw [← e2.len]; exact hl, P _ ρ _ g (s.write en ea rfl rfl ⟨_, upd_same, rels.gr g _ _ (e2.app (rels.one r))⟩) (by rw [rel])⟩
      · exact nomatch q
    · exact nomatch q
  · exact nomatch q⟩
end
end P3
end
section
open PySem PySem.W PyProof.Rows
namespace P3
open PySem PySem.Spec PyProof.Rows L2
section
variable {K : PySem.W.Frag} {X : Cx} {pg : Tb} {k : Nat} {tg l : Expr}
theorem fp_one {pins : List (Addr × Obj)} {σ : L2.St} {H : Hp} {s : Shared} (I : Inv X pins σ H s) : ∀ b ∈ [s.heap.objs.size], FpOk X pins H b := fun b hb => by
  have e : b = s.heap.objs.size := by simpa using hb
  subst e
  exact I.fpOk (Nat.le_refl _) (I.hok.fresh (Nat.le_refl _))
theorem iter_lst {pins : List (Addr × Obj)} {σ : L2.St} {H : Hp} {s : Shared} {R : It → Hp → Prop} {a : Addr} {xs : List V} (I : Inv X pins σ H s) (hq : SqL X.K H a xs) (q : R (Itl X.K a) H) : wpAny (model X.prog X.w) X.A (pyIter (.ref a)) (PIE X pins σ tg R) X.xe s := by
  obtain ⟨its, rv, p, hz⟩ := I.list hq
  exact wpAny_pyIter_list p.isList ⟨s.heap.objs.size, [s.heap.objs.size], _, _, H, rfl, I.kept (t' := s.toks) (fun b o e => Heap.get?_push_of_some _ e), turn_list a _, ⟨_, Heap.get?_push_size _ rfl, rfl, rfl⟩, fp_one I, q⟩
theorem iter_tup {pins : List (Addr × Obj)} {σ : L2.St} {H : Hp} {s : Shared} {R : It → Hp → Prop} {a : Addr} {xs : List V} (I : Inv X pins σ H s) (hq : SqT X.K H a xs) (q : R (Itt X.K a) H) : wpAny (model X.prog X.w) X.A (pyIter (.ref a)) (PIE X pins σ tg R) X.xe s := by
  obtain ⟨its, rv, p, hz⟩ := I.tuple hq
  exact wpAny_pyIter_tuple (show s.heap.IsTuple a its.toArray from p) ⟨s.heap.objs.size, [s.heap.objs.size], _, _, H, rfl, I.kept (t' := s.toks) (fun b o e => Heap.get?_push_of_some _ e), turn_tuple a _, ⟨_, Heap.get?_push_size _ rfl, rfl, rfl⟩, fp_one I, q⟩
theorem iter_str {pins : List (Addr × Obj)} {σ : L2.St} {H : Hp} {s : Shared} {R : It → Hp → Prop} {z : Str} {t : Tok} (I : Inv X pins σ H s) (q : R (Its z) H) : wpAny (model X.prog X.w) X.A (pyIter (.str z t)) (PIE X pins σ tg R) X.xe s := by
  cases ha : z.cps.all (· < 128)
  · exact wpAny_pyIter_wide ha ⟨s.heap.objs.size, [s.heap.objs.size], _, _, H, rfl, I.kept (t' := s.toks) (fun b o e => Heap.get?_push_of_some _ e), turn_str z t _ (by decide) (fun A' hA => Walks.strWide hA _ z t) (fun _ _ _ _ _ st h => wpAny_pyIter_striter_wide st h), ⟨_, Heap.get?_push_size _ rfl, rfl, rfl⟩, fp_one I, q⟩
  · exact wpAny_pyIter_ascii ha ⟨s.heap.objs.size, [s.heap.objs.size], _, _, H, rfl, I.kept (t' := s.toks) (fun b o e => Heap.get?_push_of_some _ e), turn_str z t _ (by decide) (fun A' hA => Walks.strAscii hA _ z t) (fun _ _ _ _ _ st h => wpAny_pyIter_striter_ascii st h), ⟨_, Heap.get?_push_size _ rfl, rfl, rfl⟩, fp_one I, q⟩
noncomputable def iAny (K : PySem.W.Frag) (tl : TE) : TI := fun σ H R => tl σ H fun x H1 => (∃ a xs, x = .ref a ∧ SqL K H1 a xs ∧ R (Itl K a) H1) ∨ (∃ a xs, x = .ref a ∧ SqT K H1 a xs ∧ R (Itt K a) H1) ∨ ∃ z, x = .str z ∧ R (Its z) H1
theorem pi_any {tl : TE} (hl : PE X l tl) : PI X tg l (iAny X.K tl) := by
  intro pins s σ H R I h
  refine thn (hl pins s σ H _ I h) fun v s1 ⟨x, H1, I1, r1, q1⟩ => ?_
  rcases q1 with ⟨a, xs, rfl, hq, q⟩ | ⟨a, xs, rfl, hq, q⟩ | ⟨z, rfl, q⟩
  · cases r1; exact iter_lst I1 hq q
  · cases r1; exact iter_tup I1 hq q
  · obtain ⟨t, rfl⟩ := r1; exact iter_str I1 q
noncomputable def itOf (x : PV) (h : PH) : RV PIt := match x with
  | .tup xs => .ok ⟨none, xs⟩ h
  | .ktup xs => .ok ⟨none, xs⟩ h
  | .str z => .ok ⟨none, z.cps.toList.map fun c => .str ⟨#[c]⟩⟩ h
  | .ref n => (match lstOf h n with
    | some xs => .ok ⟨some n, xs⟩ h
    | none => .no)
  | _ => .no
noncomputable def iIn (a : ME) : MI := fun c e h => (a c e h).bind itOf
end
section
variable {X : Cx} {pg : Tb} {k : Nat} {tg l : Expr} {ma : ME} {ta : TE}
theorem si_any {c : CF} {K : PySem.W.Frag} (s1 : SE c K ta ma) : SI c K (iAny K ta) (iIn ma) := fun ρ h H e σ R it h' s r q P => by
  obtain ⟨x, h1, e1, q⟩ := bind_eq.mp q
  refine s1 ρ h H e σ _ x h1 s r e1 fun x' ρ1 H1 g1 z1 r1 => ?_
  have tupc : ∀ (xs : List PV), x.seq? = some xs → it = ⟨none, xs⟩ → h' = h1 → (∃ a xs, x' = .ref a ∧ SqT K H1 a xs ∧ R (Itt K a) H1) := fun xs ex ei eh => by
    subst ei eh
    obtain ⟨a, vs, rfl, zz, rr⟩ := rel.seq ex r1
    refine ⟨a, vs, rfl, zz, P ρ1 H1 _ g1 z1 fun i ρ2 h2 H2 g s _ => ?_⟩
    have z2 := g.sqT zz
    have r2 := rels.gr g _ _ rr
    refine ⟨fun y e => ?_, fun e => ⟨vs, z2, by rw [e, ← rr.len]; exact Nat.le_refl _⟩⟩
    obtain ⟨v, d1, d2⟩ := r2.get e
    refine ⟨⟨vs, v, z2, d1⟩, ?_⟩
    rintro w H' ⟨rfl, hw⟩
    have := hw vs z2
    rw [d1] at this
    cases this
    exact ⟨ρ2, .refl _ _, s, d2⟩
  cases x with
  | tup xs => cases q; exact .inr (.inl (tupc xs rfl rfl rfl))
  | ktup xs => cases q; exact .inr (.inl (tupc xs rfl rfl rfl))
  | str z =>
    cases q
    rw [rel] at r1
    refine .inr (.inr ⟨z, r1, P ρ1 H1 _ g1 z1 fun i ρ2 h2 H2 g s _ => ⟨fun y e => ?_, fun e => by show i = z.cps.size; simpa using e⟩⟩)
    rw [List.getElem?_map] at e
    cases q : z.cps.toList[i]? with
    | none => rw [q] at e; exact nomatch e
    | some c =>
      rw [q] at e
      cases e
      have hc : z.cps[i]? = some c := by simpa using q
      refine ⟨(Array.getElem?_eq_some_iff.mp hc).1, ?_⟩
      rintro v H' ⟨rfl, c', e1, rfl⟩
      rw [hc] at e1
      cases e1
      exact ⟨ρ2, .refl _ _, s, by rw [rel]⟩
  | ref n =>
    simp only [itOf] at q
    split at q
    · rename_i xs en
      cases q
      obtain ⟨a, vs, rfl, ea, zz, rr⟩ := z1.sq en r1
      refine .inl ⟨a, vs, rfl, zz, P ρ1 H1 _ g1 z1 fun i ρ2 h2 H2 g s hf => ?_⟩
      have ea2 := g.pre _ _ ea
      have hl : lstOf h2 n = some xs := by
        have : h2[n]? = some (.lst xs) ∨ h2[n]? = some (.fro xs) := by simpa [PIt.fine] using hf
        unfold lstOf
        rcases this with q | q <;> rw [q]
      obtain ⟨a', vs2, e3, e4, z2, r2⟩ := s.sq hl (show rel K ρ2 H2 (.ref n) (.ref a) by rw [rel]; exact ⟨a, ea2, rfl⟩)
      cases e3
      refine ⟨fun y e => ?_, fun e => ⟨vs2, z2, by rw [e, ← r2.len]; exact Nat.le_refl _⟩⟩
      obtain ⟨v, d1, d2⟩ := r2.get e
      refine ⟨⟨vs2, v, z2, d1⟩, ?_⟩
      rintro w H' ⟨rfl, hw⟩
      have := hw vs2 z2
      rw [d1] at this
      cases this
      exact ⟨ρ2, .refl _ _, s, d2⟩
    · exact nomatch q
  | _ => exact nomatch q
theorem ji_any (ha : JE X pg k l ma) : JI X pg k tg l (iIn ma) := ⟨fun A => let ⟨_, q1, s1⟩ := ha.h A; ⟨_, ⟨pi_any q1.h⟩, si_any s1⟩⟩
noncomputable def rangeP (lo : Int) (n : Nat) : List PV := (List.range n).map fun (i : Nat) => PV.int (lo + (i : Int))
noncomputable def iRange1 (r : MA) : MI := fun c e h => (r c e h).bind fun vs h1 => match vs with
  | [.int j] => if -(2 ^ 62) ≤ j ∧ j < 2 ^ 62 then .ok ⟨none, rangeP 0 j.toNat⟩ h1 else .no
  | _ => .no
theorem range_sit {K : PySem.W.Frag} {ρ : List Addr} {H : Hp} (lo : Int) (n : Nat) : SIt K ρ H (Itr lo n) ⟨none, rangeP lo n⟩ := fun i ρ1 h1 H1 g s _ => by
  refine ⟨fun y e => ?_, fun e => by show n ≤ i; rw [e]; simp [rangeP]⟩
  unfold rangeP at e
  rw [List.getElem?_map] at e
  rcases Nat.lt_or_ge i n with z | z
  · rw [List.getElem?_range z] at e
    cases e
    exact ⟨z, fun v H' ⟨e1, e2⟩ => by subst e1; subst e2; exact ⟨ρ1, .refl _ _, s, by rw [rel]⟩⟩
  · rw [List.getElem?_eq_none (by simpa using z)] at e
    exact nomatch e
variable {a b : Expr} {p pos : Pos} {mr : MA}
theorem ji_range1 (hg : Gl X "range") (ha : JA X pg k [a] mr) (hs : starEach [a] X.env = [(false, eval a X.env)] := by rfl) : JI X pg k tg (.Call (.Name "range" p) [a] [] pos) (iRange1 mr) := ⟨fun A =>
  let ⟨_, q1, s1⟩ := ha.h A; ⟨_, ⟨pi_range1 hg (A.blt _ (by decide)) q1.h hs⟩, fun ρ h H e σ R it h' s r q P => by
  obtain ⟨vs, h1, e1, q⟩ := bind_eq.mp q
  refine s1 ρ h H e σ _ vs h1 s r e1 fun us ρ1 H1 g1 z1 r1 => ?_
  split at q
  · rename_i j
    split at q
    · rename_i hj
      cases q
      obtain ⟨u, rfl, r2⟩ := rels_one r1
      rw [rel] at r2
      subst r2
      exact ⟨j, rfl, hj.1, hj.2, P ρ1 H1 _ g1 z1 (range_sit 0 _)⟩
    · exact nomatch q
  · exact nomatch q⟩⟩
abbrev MP := CF → PEnv → PH → RV (List (Key × PV))
noncomputable def dNil : MP := fun _ _ h => .ok [] h
noncomputable def dCons (a b : ME) (r : MP) : MP := fun c e h => (a c e h).bind fun x h1 => match keyP x with
  | some key => (b c e h1).bind fun v h2 => (r c e h2).bind fun kvs h3 => .ok ((key, v) :: kvs) h3
  | none => .no
noncomputable def mergeP (kvs more : List (Key × PV)) : List (Key × PV) := more.foldl (fun acc kv => putP acc kv.1 kv.2) kvs
noncomputable def eDict (r : MP) : ME := fun c e h => (r c e (h ++ [.dct []])).bind fun kvs h1 => if h1[h.length]? = some (.dct []) ∧ kvs.length ≤ 15 then .ok (.ref h.length) (h1.set h.length (.dct (mergeP [] kvs))) else .no
structure JP (X : Cx) (pg : Tb) (k : Nat) (pos : Pos) (ks : List (Option Expr)) (vs : List Expr) (m : MP) : Prop where
  h : Amb X pg k → ∃ t, QP X pos ks vs t ∧ ∀ ρ h H e σ Q kvs h', Sim X.K ρ h H → REnv X.K ρ H e σ → m (run pg k) e h = .ok kvs h' → (∀ kws ρ' H', Gr ρ H ρ' H' → Sim X.K ρ' h' H' → RK X.K ρ' H' kvs kws → Q (kws.map fun kv => (kV kv.1, kv.2)) H') → tPairs t σ H Q
theorem jp_nil : JP X pg k pos [] [] dNil := ⟨fun A => ⟨_, qps_nil, fun ρ h H e σ Q kvs h' s r q P => by cases q; exact P [] ρ H (.refl _ _) s .nil⟩⟩
theorem jp_cons {kk v : Expr} {ks : List (Option Expr)} {vs : List Expr} {mk mv : ME} {mp : MP} (hk : JE X pg k kk mk) (hv : JE X pg k v mv) (hr : JP X pg k pos ks vs mp) : JP X pg k pos (some kk :: ks) (v :: vs) (dCons mk mv mp) := ⟨fun A =>
  let ⟨_, q1, s1⟩ := hk.h A; let ⟨_, q2, s2⟩ := hv.h A; let ⟨_, q3, s3⟩ := hr.h A; ⟨_, qps_cons q1 q2 q3, fun ρ h H e σ Q kvs h' s r q P => by
  obtain ⟨x, h1, e1, q⟩ := bind_eq.mp q
  refine s1 ρ h H e σ _ x h1 s r e1 fun x' ρ1 H1 g1 z1 r1 => ?_
  split at q
  · rename_i key ek
    obtain ⟨v, h2, e2, q⟩ := bind_eq.mp q
    obtain ⟨kvs', h3, e3, q⟩ := bind_eq.mp q
    cases q
    refine s2 ρ1 h1 H1 e σ _ v h2 z1 (r.gr g1) e2 fun v' ρ2 H2 g2 z2 r2 => ?_
    refine s3 ρ2 h2 H2 e σ _ kvs' _ z2 (r.gr (g1.trans g2)) e3 fun kws ρ3 H3 g3 z3 r3 => ?_
    have := P ((key, v') :: kws) ρ3 H3 ((g1.trans g2).trans g3) z3 (.cons ⟨rfl, rel.gr g3 _ _ r2⟩ r3)
    rw [keyP_rel ek r1]
    exact this
  · exact nomatch q⟩⟩
theorem RK.merge {K : PySem.W.Frag} {ρ : List Addr} {H : Hp} : ∀ {more : List (Key × PV)} {mw : List (Key × V)} {kvs : List (Key × PV)} {kws : List (Key × V)}, RK K ρ H more mw → RK K ρ H kvs kws → RK K ρ H (mergeP kvs more) (mergeK kws mw)
  | _, _, _, _, .nil, r => r
  | _, _, _, _, .cons (a := p) (b := q) a t, r => by
    show RK K ρ H (mergeP (putP _ p.1 p.2) _) (mergeK (putK _ q.1 q.2) _)
    refine RK.merge t ?_
    rw [← a.1]
    exact RK.put r a.2
theorem je_dict {ks : List (Option Expr)} {vs : List Expr} {mp : MP} (h : JP X pg k pos ks vs mp) (hall : ks.all (·.isSome) = true) (hl : ks.length = vs.length) (h0 : ks ≠ []) (h15 : ks.length ≤ 15) : JE X pg k (.Dict ks vs pos) (eDict mp) := ⟨fun A =>
  let ⟨_, q1, s1⟩ := h.h A; ⟨_, qe_disp q1 hall hl h0 h15, fun ρ h H e σ Q v h' s r q P p hp => by
  obtain ⟨kvs, h1, e1, q⟩ := bind_eq.mp q
  split at q
  · rename_i hc
    cases q
    have g0 : Gr ρ H (ρ ++ [p]) (upd H p (.dK [])) := Gr.new hp [p]
    have s0 : Sim X.K (ρ ++ [p]) (h ++ [.dct []]) (upd H p (.dK [])) := s.new hp ⟨[], upd_same, .nil⟩
    refine s1 (ρ ++ [p]) _ _ e σ _ kvs h1 s0 (r.gr g0) e1 fun kws ρ1 H1 g1 z1 r1 => ?_
    have ep : (ρ ++ [p])[h.length]? = some p := by rw [← s.len, List.getElem?_append_right (Nat.le_refl _)]; simp
    have ep1 := g1.pre _ _ ep
    obtain ⟨kw0, e2, e3⟩ := z1.ob h.length _ p hc.1 ep1
    cases e3
    refine ⟨e2, kws, rfl, by rw [← RK.len r1]; exact hc.2, ?_⟩
    have gw : Gr ρ1 H1 ρ1 (upd H1 p (.dK (mergeK [] kws))) := Gr.write (.inr ⟨_, e2⟩)
    refine P _ ρ1 _ ((g0.trans g1).trans gw) (z1.write hc.1 ep1 rfl rfl ⟨_, upd_same, RK.merge (Paired.rels_keys gw r1) .nil⟩) ?_
    rw [rel]
    exact ⟨p, ep1, rfl⟩
  · exact nomatch q⟩⟩
noncomputable def eDict0 : ME := fun _ _ h => .ok (.ref h.length) (h ++ [.dct []])
theorem je_dict0 : JE X pg k (.Dict [] [] pos) eDict0 := ⟨fun A => ⟨_, qe_dnewK, fun ρ h H e σ Q v h' s r q P p hp => by
  cases q
  refine P _ (ρ ++ [p]) _ (Gr.new hp [p]) (s.new hp ⟨[], upd_same, .nil⟩) ?_
  rw [rel]
  exact ⟨p, by rw [← s.len, List.getElem?_append_right (Nat.le_refl _)]; simp, rfl⟩⟩⟩
variable {x : Str} {kvs : List (Key × PV)} {i : Expr} {mi : ME} {pos' : Pos}
noncomputable def eGet2 (d a b : ME) : ME := fun c e h => (d c e h).bind fun x h1 => if isDct h1 x = true then (a c e h1).bind (fun y h2 => (b c e h2).bind fun z h3 => match x, keyP y with
  | .ref n, some key => (match h3[n]? with
    | some (.dct kvs) => .ok ((valP kvs key).getD z) h3
    | _ => .no)
  | _, _ => .no) else .no
theorem je_get2 {o e f : Expr} {md me mf : ME} {apos cpos : Pos} (ho : JE X pg k o md) (he : JE X pg k e me) (hf : JE X pg k f mf) (m : M2 X o "get" apos e f cpos) : JE X pg k (.Call (.Attribute o "get" apos) [e, f] [] cpos) (eGet2 md me mf) := ⟨fun A =>
  let ⟨_, q1, s1⟩ := ho.h A; let ⟨_, q2, s2⟩ := he.h A; let ⟨_, q3, s3⟩ := hf.h A; ⟨_, qe_dget2 A.hu q1 q2 q3 m, fun ρ h H e σ Q v h' s r q P => by
  obtain ⟨x, h1, e1, q⟩ := bind_eq.mp q
  refine s1 ρ h H e σ _ x h1 s r e1 fun x' ρ1 H1 g1 z1 r1 => ?_
  split at q
  · rename_i hd
    obtain ⟨y, h2, e2, q⟩ := bind_eq.mp q
    obtain ⟨z, h3, e3, q⟩ := bind_eq.mp q
    cases x with
    | ref n =>
      rw [rel] at r1
      obtain ⟨a, ea, rfl⟩ := r1
      refine ⟨a, rfl, ?_, ?_⟩
      · simp only [isDct] at hd
        split at hd
        · rename_i kvs0 en
          obtain ⟨kws, d1, _⟩ := z1.ob n _ a en ea
          exact .inl ⟨kws, .inl d1⟩
        · exact nomatch hd
      refine s2 ρ1 h1 H1 e σ _ y h2 z1 (r.gr g1) e2 fun y' ρ2 H2 g2 z2 r2 => ?_
      refine s3 ρ2 h2 H2 e σ _ z h3 z2 (r.gr (g1.trans g2)) e3 fun z' ρ3 H3 g3 z3 r3 => ?_
      cases ek : keyP y with
      | none => simp only [ek] at q; exact nomatch q
      | some key =>
        simp only [ek] at q
        split at q
        · rename_i kvs en
          cases q
          obtain ⟨kws, d1, d2⟩ := z3.ob n _ a en (g3.pre _ _ (g2.pre _ _ ea))
          have := keyP_rel ek r2
          subst this
          refine ⟨_, DGet.k (k := key) d1, P _ ρ3 H3 ((g1.trans g2).trans g3) z3 ?_⟩
          have := RK.val key d2
          cases p1 : valP kvs key <;> cases p2 : valV kws key <;> rw [p1, p2] at this <;> first | exact r3 | exact this | exact False.elim this
        · exact nomatch q
    | _ => exact nomatch hd
  · exact nomatch q⟩⟩
end
end P3
end
section
open PySem PySem.W PyProof.Rows
namespace P3
open PySem PySem.Spec PyProof.Rows L2
section
variable {K : PySem.W.Frag} {X : Cx} {pg : Tb} {k : Nat}
noncomputable def pairP? : PV → Option (Key × PV)
  | .tup [a, v] => (keyP a).map fun k => (k, v)
  | _ => none
noncomputable def pairsP : List PV → Option (List (Key × PV))
  | [] => some []
  | x :: r => (match pairP? x, pairsP r with
    | some p, some ps => some (p :: ps)
    | _, _ => none)
section
variable {prog : Program} {w : World} {A : Around} {E : Value → Shared → Prop} {s : Shared}
theorem call_dict_dict {p : Addr} {kvs : List (Key × Value)} {R : Value → Shared → Prop} (hS : (p == sysModules) = false) (hp : s.heap.DictOf (mixKind prog w) p kvs) (hz : kvs.length ≤ sizeLine)
    (q : ∀ g : Heap, g.DictOf (mixKind prog w) s.heap.objs.size (merged [] kvs) → (∀ b o, s.heap.get? b = some o → g.get? b = some o) → R (.ref s.heap.objs.size) { s with heap := g }) :
    wpAny (model prog w) A (call (.type "dict") [.ref p]) R E s := by
  let g0 := s.heap.push { cls := .type "dict", data := .dict #[] }
  have up : ∀ b o, s.heap.get? b = some o → g0.get? b = some o := fun b o e => Heap.get?_push_of_some _ e
  have dn : g0.DictOf (mixKind prog w) s.heap.objs.size [] := Heap.DictOf.new s.heap
  have dp : g0.DictOf (mixKind prog w) p kvs := hp.at fun o e => up p o e
  have ne : s.heap.objs.size ≠ p := fun e => by
    obtain ⟨o, _, _, ho, _⟩ := hp
    exact absurd (Heap.lt_size ho) (by rw [e]; exact Nat.lt_irrefl _)
  refine callType_codes (Q₁ := fun z u => z = .ref s.heap.objs.size ∧ u = { s with heap := g0 }) F.kt_called_dict (F.kt_typeCall_dict_1 _) F.entry_dict_init (kt_code_dict_new _ ⟨rfl, rfl⟩) ?_
  rintro obj s1 ⟨rfl, rfl⟩
  refine ⟨dn.typeIs, F.args_dict_init_2 _ _, ?_⟩
  with_unfolding_all refine wpAny_bind (m := Builtin.Dict.selfAndRest _ _) (wpAny_bind (wpAny_notOrdered_dict dn.typeIs (wpAny_pure ?_)))
  show wpAny _ _ (Builtin.Dict.updateFrom "dict.__init__" s.heap.objs.size (.ref p) [] .none) _ _ _
  unfold Builtin.Dict.updateFrom Builtin.Dict.merge Builtin.Dict.readDirectly
  refine wpAny_bind (wpAny_typeOf dp.typeIs ?_)
  rw [if_neg (by decide)]
  refine wpAny_bind (wpAny_bind (wpAny_bind (wpAny_isInstance dp.typeIs isSubtype_dict_dict ?_)))
  simp only [if_false, Bool.not_true, Bool.false_eq_true]
  refine wpAny_bind (wpAny_specialOf dp.typeIs F.slot_dict_iter.lookup (wpAny_pure ?_))
  simp only [if_true, beq_self_eq_true]
  refine wpAny_bind (wpAny_pure (wpAny_mergeDict (hsz := by simpa using hz) ne hS dn dp fun g dg _ sb => ?_))
  show wpAny _ _ (Builtin.Dict.addKeywords s.heap.objs.size [] >>= _) _ _ { s with heap := g }
  exact wpAny_bind (wpAny_pure (wpAny_pure ⟨rfl, q g dg fun b o e => (sb.2 b (Nat.ne_of_lt (Heap.lt_size e))).trans (up b o e)⟩))
end
noncomputable def rDictD : List V → Hp → VK → Prop := fun xs H Q => ∃ p kvs, xs = [.ref p] ∧ H p = some (.dK kvs) ∧ kvs.length ≤ sizeLine ∧ ∀ d, H d = none → Q (.ref d) (upd H d (.dK (mergeK [] kvs)))
theorem call_dictD : CallR X (.type "dict") rDictD := by
  intro pins s σ H xs us Q I r h
  obtain ⟨p, kvs, rfl, hp, hz, q⟩ := h
  obtain ⟨u, rfl, ru⟩ := vals1 r
  cases (show u = Value.ref p from ru)
  obtain ⟨z1, n1, vs, r1, d1⟩ := dk_of I.hok hp
  refine call_dict_dict n1 d1 (by rw [← r1.length]; exact z1) fun g dd keep => ?_
  have hle : (mergeK [] kvs).length ≤ sizeLine := by have := length_mergeK kvs []; simp at this; omega
  obtain ⟨hn, I'⟩ := I.laidAt (a := s.heap.objs.size) (o := .dK (mergeK [] kvs)) (t' := s.toks) keep (Heap.get?_none_of_le (Nat.le_refl _)) (dk_new hle (beq_eq_false_iff_ne.mpr (Ne.symm (Nat.ne_of_lt I.big))) (KV.mergeNil r1) dd)
  exact ⟨.ref _, _, I', rfl, q _ hn⟩
noncomputable def pDict : List PV → PH → RV PV := fun xs h => match xs with
  | [.tup ys] => (match pairsP ys with
    | some kvs => if ys.length < sizeLine then .ok (.ref h.length) (h ++ [.dct (mergeP [] kvs)]) else .no
    | none => .no)
  | [.ref n] => (match h[n]? with
    | some (.dct kvs) => if kvs.length ≤ sizeLine then .ok (.ref h.length) (h ++ [.dct (mergeP [] kvs)]) else .no
    | _ => .no)
  | _ => .no
theorem pairP_v {ρ : List Addr} {H : Hp} {x : PV} {p : Key × PV} {v : V} (e : pairP? x = some p) (r : rel K ρ H x v) : ∃ q : Key × V, PairV H v q ∧ p.1 = q.1 ∧ rel K ρ H p.2 q.2 := by
  cases x with
  | tup xs =>
    match xs, e with
    | [a, w], e =>
      simp only [pairP?] at e
      cases q : keyP a with
      | none => rw [q] at e; exact nomatch e
      | some key =>
        rw [q] at e
        cases e
        rw [rel] at r
        obtain ⟨b, vs, rfl, e1, e2⟩ := r
        obtain ⟨u, u', rfl, r1, r2⟩ := rels_two e2
        have := keyP_rel q r1
        subst this
        exact ⟨(key, u'), ⟨b, rfl, e1⟩, rfl, r2⟩
  | _ => exact nomatch e
theorem pairsP_v {ρ : List Addr} {H : Hp} : ∀ {xs : List PV} {kvs : List (Key × PV)} {vs : List V}, pairsP xs = some kvs → rels K ρ H xs vs → ∃ kws, Paired (PairV H) vs kws ∧ RK K ρ H kvs kws
  | [], kvs, vs, e, r => by cases e; rw [rels_nil] at r; subst r; exact ⟨[], .nil, .nil⟩
  | x :: t, kvs, vs, e, r => by
    simp only [pairsP] at e
    split at e
    · rename_i p ps e1 e2
      cases e
      obtain ⟨v, w, rfl, r1, r2⟩ := rels_cons.mp r
      obtain ⟨q, a, b⟩ := pairP_v e1 r1
      obtain ⟨qs, c, d⟩ := pairsP_v e2 r2
      exact ⟨q :: qs, .cons a c, .cons b d⟩
    · exact nomatch e
theorem new_dct {ρ : List Addr} {h : PH} {H : Hp} {kvs : List (Key × PV)} {kws : List (Key × V)} {Q : VK} (s : Sim K ρ h H) (r : RK K ρ H kvs kws) (P : PostV K ρ H (.ref h.length) (h ++ [.dct kvs]) Q) (p : Addr) (hp : H p = none) : Q (.ref p) (upd H p (.dK kws)) := by
  refine P _ (ρ ++ [p]) _ (Gr.new hp [p]) (s.new hp ⟨kws, upd_same, Paired.rels_keys (Gr.new hp [p]) r⟩) ?_
  rw [rel]
  exact ⟨p, by rw [← s.len, List.getElem?_append_right (Nat.le_refl _)]; simp, rfl⟩
theorem b_dict : Amb X pg k → ∃ r, CallR X (.type "dict") r ∧ SCl X.K r pDict := fun A => ⟨_, (callDict A.calm).or call_dictD, fun ρ h H xs us Q v h' s r q P => by
  unfold pDict at q
  split at q
  · rename_i ys
    split at q
    · rename_i kvs e
      split at q
      · rename_i hl
        cases q
        obtain ⟨u, rfl, r1⟩ := rels_one r
        rw [rel] at r1
        obtain ⟨a, vs, rfl, e1, e2⟩ := r1
        obtain ⟨kws, c, d⟩ := pairsP_v e e2
        exact .inl ⟨a, vs, kws, rfl, e1, c, by rw [← e2.len]; exact hl, fun p hp => new_dct s (RK.merge d .nil) P p hp⟩
      · exact nomatch q
    · exact nomatch q
  · rename_i n
    split at q
    · rename_i kvs en
      split at q
      · rename_i hl
        cases q
        obtain ⟨u, rfl, r1⟩ := rels_one r
        rw [rel] at r1
        obtain ⟨a, ea, rfl⟩ := r1
        obtain ⟨kws, e1, e2⟩ := s.ob n _ a en ea
        exact .inr ⟨a, kws, rfl, e1, by rw [← RK.len e2]; exact hl, fun p hp => new_dct s (RK.merge e2 .nil) P p hp⟩
      · exact nomatch q
    · exact nomatch q
  · exact nomatch q⟩
theorem sort_uniq {α : Type} {le : α → α → Prop} : ∀ {l1 l2 : List α}, (∀ a ∈ l1, ∀ b ∈ l1, le a b → le b a → a = b) → l1.Perm l2 → l1.Pairwise le → l2.Pairwise le → l1 = l2
  | [], l2, _, p, _, _ => List.Perm.nil_eq p
  | a :: r, [], _, p, _, _ => absurd p.length_eq (by simp)
  | a :: r, b :: r', anti, p, h1, h2 => by
    rw [List.pairwise_cons] at h1 h2
    have hb : b ∈ a :: r := p.mem_iff.mpr List.mem_cons_self
    have e : a = b := by
      rcases List.mem_cons.mp (p.mem_iff.mp (List.mem_cons_self : a ∈ a :: r)) with e | m
      · exact e
      · rcases List.mem_cons.mp hb with e | m'
        · exact e.symm
        · exact anti a List.mem_cons_self b hb (h1.1 b m') (h2.1 a m)
    subst e
    rw [sort_uniq (fun x hx y hy => anti x (List.mem_cons_of_mem _ hx) y (List.mem_cons_of_mem _ hy)) (List.Perm.cons_inv p) h1.2 h2.2]
noncomputable def leS (a b : Str) : Bool := !decide (ltS b a)
noncomputable def sortS (ss : List Str) : List Str := ss.mergeSort leS
theorem leS_trans (a b c : Str) (h1 : leS a b = true) (h2 : leS b c = true) : leS a c = true := by
  unfold leS at h1 h2 ⊢
  simp only [Bool.not_eq_true', decide_eq_false_iff_not] at h1 h2 ⊢
  intro h
  by_cases e : b = a
  · subst e; exact h2 h
  · rcases ltS_or e with z | z
    · exact h1 z
    · exact h2 (ltS_trans h z)
theorem leS_total (a b : Str) : (leS a b || leS b a) = true := by
  unfold leS
  by_cases h : ltS b a
  · simp [h, ltS_asymm h]
  · simp [h]
theorem leS_anti {a b : Str} (h1 : leS a b = true) (h2 : leS b a = true) : a = b := by
  unfold leS at h1 h2
  simp only [Bool.not_eq_true', decide_eq_false_iff_not] at h1 h2
  exact Decidable.byContradiction fun e => by rcases ltS_or e with z | z; · exact h2 z
                                              · exact h1 z
theorem rising_le : ∀ {r : List Str} {p : Str}, risingS p r = true → (p :: r).Pairwise fun a b => leS a b = true := by
  intro r
  induction r with
  | nil => intro p _; exact List.pairwise_singleton _ _
  | cons x r ih =>
    intro p h
    simp only [risingS, Bool.and_eq_true] at h
    have h1 : leS p x = true := by
      have := h.1
      rw [ltCps_eq] at this
      exact this
    have h2 := ih h.2
    refine List.pairwise_cons.mpr ⟨fun y hy => ?_, h2⟩
    rcases List.mem_cons.mp hy with rfl | m
    · exact h1
    · exact leS_trans _ _ _ h1 ((List.pairwise_cons.mp h2).1 y m)
theorem sorted_le {ss : List Str} (h : sortedS ss = true) : ss.Pairwise fun a b => leS a b = true := by
  cases ss with
  | nil => exact .nil
  | cons p r => exact rising_le h
theorem sortS_is {ss ss' : List Str} (p : ss'.Perm ss) (h : sortedS ss' = true) : ss' = sortS ss :=
  sort_uniq (le := fun a b => leS a b = true) (fun _ _ _ _ h1 h2 => leS_anti h1 h2) (p.trans (List.mergeSort_perm ss leS).symm) (sorted_le h) (List.pairwise_mergeSort leS_trans (fun a b => by simpa using leS_total a b) ss)
noncomputable def strsP : List PV → Option (List Str)
  | [] => some []
  | .str x :: r => (strsP r).map (x :: ·)
  | _ => none
theorem strsP_eq : ∀ {xs : List PV} {ss : List Str}, strsP xs = some ss → xs = ss.map PV.str
  | [], bs, e => by cases e; rfl
  | .str b :: r, bs, e => by
    rw [strsP] at e
    cases q : strsP r with
    | none => rw [q] at e; exact nomatch e
    | some cs => rw [q] at e; cases e; rw [strsP_eq q]; rfl
  | .non :: _, _, e => nomatch e
  | .bl _ :: _, _, e => nomatch e
  | .int _ :: _, _, e => nomatch e
  | .tup _ :: _, _, e => nomatch e
  | .ktup _ :: _, _, e => nomatch e
  | .ref _ :: _, _, e => nomatch e
  | .ty _ :: _, _, e => nomatch e
theorem strsP_map : ∀ (ss : List Str), strsP (ss.map PV.str) = some ss
  | [] => rfl
  | b :: r => by rw [List.map_cons, strsP, strsP_map r]; rfl
theorem rels_strs {ρ : List Addr} {H : Hp} : ∀ {ss : List Str} {vs : List V}, rels K ρ H (ss.map PV.str) vs ↔ vs = ss.map V.str
  | [], vs => rels_nil
  | b :: t, vs => by
    rw [List.map_cons, rels_cons]
    constructor
    · rintro ⟨v, w, rfl, r1, r2⟩
      rw [rel] at r1
      rw [r1, rels_strs.mp r2]; rfl
    · rintro rfl
      exact ⟨.str b, t.map V.str, rfl, by rw [rel], rels_strs.mpr rfl⟩
noncomputable def prsP : List PV → Option (List (Str × Int))
  | [] => some []
  | .tup [.str x, .int i] :: r => (prsP r).map ((x, i) :: ·)
  | _ => none
noncomputable def prV (q : Str × Int) : PV := .tup [.str q.1, .int q.2]
theorem prsP_map : ∀ (ps : List (Str × Int)), prsP (ps.map prV) = some ps
  | [] => rfl
  | b :: r => by rw [List.map_cons, prV, prsP, prsP_map r]; rfl
theorem prsP_eq : ∀ {xs : List PV} {ps : List (Str × Int)}, prsP xs = some ps → xs = ps.map prV := by
  intro xs
  induction xs with
  | nil => intro ps e; cases e; rfl
  | cons x r ih =>
    intro ps e
    unfold prsP at e
    split at e
    · rename_i h; cases h
    · rename_i y i r' h
      cases h
      cases q : prsP r with
      | none => rw [q] at e; exact nomatch e
      | some cs => rw [q] at e; cases e; rw [ih q]; rfl
    · exact nomatch e
theorem rels_prs {ρ : List Addr} {H : Hp} : ∀ {ps : List (Str × Int)} {vs : List V}, rels K ρ H (ps.map prV) vs ↔ Paired (PairP H) vs ps
  | [], vs => ⟨fun h => by rw [List.map_nil, rels_nil] at h; subst h; exact .nil, fun h => by cases h; exact rels_nil.mpr rfl⟩
  | b :: t, vs => by
    rw [List.map_cons, rels_cons]
    constructor
    · rintro ⟨v, w, rfl, r1, r2⟩
      rw [prV, rel] at r1
      obtain ⟨a, us, rfl, e1, e2⟩ := r1
      obtain ⟨u, u', rfl, d1, d2⟩ := rels_two e2
      rw [rel] at d1
      rw [rel] at d2
      subst d1 d2
      exact .cons ⟨a, rfl, e1⟩ (rels_prs.mp r2)
    · intro h
      cases h with
      | cons h1 h2 =>
        obtain ⟨a, rfl, e1⟩ := h1
        refine ⟨.ref a, _, rfl, ?_, rels_prs.mpr h2⟩
        rw [prV, rel]
        exact ⟨a, _, rfl, e1, rels_cons.mpr ⟨_, _, rfl, by rw [rel], rels.one (by rw [rel])⟩⟩
theorem one_of : ∀ {ps : List (Str × Int)}, (ps.map (·.1)).Nodup → ∀ {a b : Str × Int}, a ∈ ps → b ∈ ps → a.1 = b.1 → a = b
  | [], _, a, b, ha, _, _ => by cases ha
  | p :: r, nd, a, b, ha, hb, e => by
    rw [List.map_cons] at nd; rw [List.nodup_cons] at nd
    rcases List.mem_cons.mp ha with ha | ha <;> rcases List.mem_cons.mp hb with hb | hb
    · rw [ha, hb]
    · exact absurd (by rw [← ha, e]; exact List.mem_map.mpr ⟨b, hb, rfl⟩) nd.1
    · exact absurd (by rw [← hb, ← e]; exact List.mem_map.mpr ⟨a, ha, rfl⟩) nd.1
    · exact one_of nd.2 ha hb e
noncomputable def sortP (ps : List (Str × Int)) : List (Str × Int) := ps.mergeSort fun a b => leS a.1 b.1
theorem sortP_is {ps ps' : List (Str × Int)} (nd : (ps.map (·.1)).Nodup) (p : ps'.Perm ps) (h : (ps'.map (·.1)).Pairwise ltS) : ps' = sortP ps := by
  have h2 : ps'.Pairwise fun a b => leS a.1 b.1 = true := by
    rw [List.pairwise_map] at h
    exact h.imp fun {a b} z => by unfold leS; simp [ltS_asymm z]
  refine sort_uniq (le := fun a b => leS a.1 b.1 = true) (fun a ha b hb z1 z2 => ?_) (p.trans (List.mergeSort_perm ps _).symm) h2 (List.pairwise_mergeSort (fun a b c => leS_trans a.1 b.1 c.1) (fun a b => by simpa using leS_total a.1 b.1) ps)
  have e := leS_anti z1 z2
  have ha' := p.mem_iff.mp ha
  have hb' := p.mem_iff.mp hb
  exact one_of nd ha' hb' e
noncomputable def pSorted : List PV → PH → RV PV := fun xs h => match xs with
  | [x] => (match itemsOf h x with
    | some ys => (match x with
      | .ref _ => (match strsP ys with
        | some ss => if ss.length < 64 then .ok (.ref h.length) (h ++ [.lst ((sortS ss).map PV.str)]) else .no
        | none => (match prsP ys with
          | some ps => if ps.length < 64 ∧ (ps.map (·.1)).Nodup then .ok (.ref h.length) (h ++ [.lst ((sortP ps).map prV)]) else .no
          | none => .no))
      | _ => .no)
    | none => (match x with
      | .ref n => (match h[n]? with
        | some (.dct kvs) => (match strsP (kvs.map fun kv => match kv.1 with | .inl i => .int i | .inr z => .str z) with
          | some ss => if ss.length < 64 then .ok (.ref h.length) (h ++ [.lst ((sortS ss).map PV.str)]) else .no
          | none => .no)
        | _ => .no)
      | _ => .no))
  | _ => .no
theorem RK.keys {ρ : List Addr} {H : Hp} : ∀ {kvs : List (Key × PV)} {kws : List (Key × V)}, RK K ρ H kvs kws → kws.map (·.1) = kvs.map (·.1)
  | _, _, .nil => rfl
  | _, _, .cons a t => by rw [List.map_cons, List.map_cons, RK.keys t, a.1]
theorem keys_str : ∀ {kvs : List (Key × PV)} {ss : List Str}, (kvs.map fun kv => (match kv.1 with | .inl i => PV.int i | .inr z => PV.str z)) = ss.map PV.str → kvs.map (·.1) = ss.map Sum.inr
  | [], ss, e => by cases ss with | nil => rfl | cons => exact nomatch e
  | (.inl i, v) :: r, ss, e => by cases ss with | nil => exact nomatch e | cons => simp at e
  | (.inr z, v) :: r, ss, e => by
    cases ss with
    | nil => exact nomatch e
    | cons y t =>
      rw [List.map_cons, List.map_cons, List.cons.injEq] at e
      rw [List.map_cons, List.map_cons, keys_str e.2]
      cases e.1; rfl
theorem b_sorted_of (A : Amb X pg k) : SCl X.K (fun xs H Q => rSortS X.K xs H Q ∨ (rSortD xs H Q ∨ rSortP X.K xs H Q)) pSorted := fun ρ h H xs us Q v h' s r q P => by
  unfold pSorted at q
  split at q
  · rename_i x
    obtain ⟨u, rfl, r1⟩ := rels_one r
    split at q
    · rename_i ys e
      split at q
      · rename_i n
        obtain ⟨a, vs, rfl, _, z, r2⟩ := s.sq e r1
        split at q
        · rename_i ss es
          split at q
          · rename_i hl
            cases q
            rw [strsP_eq es, rels_strs] at r2
            subst r2
            refine .inl ⟨a, ss, rfl, z, hl, fun l ss' hp pm so => ?_⟩
            rw [sortS_is pm so]
            exact new_lst s (rels_strs.mpr rfl) P l hp
          · exact nomatch q
        · split at q
          · rename_i ps eps
            split at q
            · rename_i hl
              cases q
              rw [prsP_eq eps, rels_prs] at r2
              refine .inr (.inr ⟨a, vs, ps, rfl, z, r2, hl.1, hl.2, fun l ys' ps' hp pm so pr => ?_⟩)
              have := sortP_is hl.2 pm so
              subst this
              exact new_lst s (rels_prs.mpr pr) P l hp
            · exact nomatch q
          · exact nomatch q
      · exact nomatch q
    · split at q
      · rename_i n _
        split at q
        · rename_i kvs en
          split at q
          · rename_i ss es
            split at q
            · rename_i hl
              cases q
              rw [rel] at r1
              obtain ⟨a, ea, rfl⟩ := r1
              obtain ⟨kws, e1, e2⟩ := s.ob n _ a en ea
              refine .inr (.inl ⟨a, kws, ss, rfl, e1, by rw [RK.keys e2]; exact keys_str (strsP_eq es), hl, fun l ss' hp pm so => ?_⟩)
              rw [sortS_is pm so]
              exact new_lst s (rels_strs.mpr rfl) P l hp
            · exact nomatch q
          · exact nomatch q
        · exact nomatch q
      · exact nomatch q
  · exact nomatch q
theorem DefGood.of {P : Program} {w : World} {K : PySem.W.Frag} {mg : Str → Option Value} {base : Heap} {pg : Tb} {f : String} {d : Df} (b : MS) (st : Stmt) (N : List Str) (e : d.body = b) (a : At K mg (Str.ofString f) st) (S : FnScope N d.ps (defScope st)) (hl : N.length = d.ps.length + d.nl)
    (hb : ∀ (kV doc pm : Value) (an : Option Addr) (cdv ct : Value) (us : List Value), us.length = d.ps.length → bindArgs (PySem.W.fnOf (Str.ofString f) (Str.ofString f) (defArgs st) (defBody st) (defScope st) .none kV doc pm an cdv ct) ⟨us, []⟩ = pure (d.ps.zip us))
    (h : ∀ (fa : Addr) (cdv : Value) (A : Around) (outer : List Env) (s : Shared) (H : Hp) (E : XK) (k : Nat), JSs (cxOf CX0 P w K mg base N (Str.ofString f) (defScope st) fa cdv A outer s H E).nox pg k (defBody st) b) : DefGood P w K mg base pg f d :=
  ⟨st, N, a, S, hl, hb, by rw [e]; exact h⟩
end
end P3
end
section
open PySem PySem.W PyProof.Rows
namespace P3
open PySem PySem.Spec PyProof.Rows L2
section
variable {X : Cx} {pins : List (Addr × Obj)} {σ : L2.St} {H : Hp} {s : Shared} {h' : Heap}
end
section
variable {X : Cx} {pg : Tb} {k : Nat} {a b : Expr} {ma mb : ME} {p pos : Pos} {els : List Expr} {j : Nat} {tpos : Pos}
end
end P3
end
section
open PySem PySem.W PyProof.Rows
namespace P3
open PySem PySem.Spec PyProof.Rows L2
structure DefG (P : Program) (w : World) (K : PySem.W.Frag) (mg : Str → Option Value) (pg : Tb) (f : String) (d : Df) (st : Stmt) (N : List Str) : Prop where
  at_ : At K mg (Str.ofString f) st
  sc : FnScope N d.ps (defScope st)
  len : N.length = d.ps.length + d.nl
  bd : ∀ (kV doc pm : Value) (an : Option Addr) (cdv ct : Value) (us : List Value), us.length = d.ps.length → bindArgs (PySem.W.fnOf (Str.ofString f) (Str.ofString f) (defArgs st) (defBody st) (defScope st) .none kV doc pm an cdv ct) ⟨us, []⟩ = pure (d.ps.zip us)
  body : ∀ (base : Heap) (fa : Addr) (cdv : Value) (A : Around) (outer : List Env) (s : Shared) (H : Hp) (E : XK) (k : Nat), JSs (cxOf CX0 P w K mg base N (Str.ofString f) (defScope st) fa cdv A outer s H E).nox pg k (defBody st) d.body
section
variable {P : Program} {w : World} {K : PySem.W.Frag} {mg : Str → Option Value} {pg : Tb}
theorem DefG.of {f : String} {d : Df} (b : MS) {st : Stmt} {N : List Str} (e : d.body = b) (a : At K mg (Str.ofString f) st) (S : FnScope N d.ps (defScope st)) (hl : N.length = d.ps.length + d.nl)
    (hb : ∀ (kV doc pm : Value) (an : Option Addr) (cdv ct : Value) (us : List Value), us.length = d.ps.length → bindArgs (PySem.W.fnOf (Str.ofString f) (Str.ofString f) (defArgs st) (defBody st) (defScope st) .none kV doc pm an cdv ct) ⟨us, []⟩ = pure (d.ps.zip us))
    (h : ∀ (base : Heap) (fa : Addr) (cdv : Value) (A : Around) (outer : List Env) (s : Shared) (H : Hp) (E : XK) (k : Nat), JSs (cxOf CX0 P w K mg base N (Str.ofString f) (defScope st) fa cdv A outer s H E).nox pg k (defBody st) b) : DefG P w K mg pg f d st N :=
  ⟨a, S, hl, hb, by rw [e]; exact h⟩
theorem DefG.good {base : Heap} {f : String} {d : Df} {st : Stmt} {N : List Str} (g : DefG P w K mg pg f d st N) : DefGood P w K mg base pg f d := ⟨st, N, g.at_, g.sc, g.len, g.bd, g.body base⟩
theorem good_all {fnT : List (String × Df)} (hf : pg.fns = fun f => (fnT.find? fun p => p.1 == f).map (·.2)) (h : ∀ p ∈ fnT, ∃ st N, DefG P w K mg pg p.1 p.2 st N) (base : Heap) : ∀ f d, pg.fns f = some d → DefGood P w K mg base pg f d := fun f d e => by
  rw [hf] at e; dsimp only at e
  cases q : fnT.find? fun p => p.1 == f with
  | none => rw [q] at e; exact nomatch e
  | some p =>
    rw [q] at e
    cases e
    obtain ⟨st, N, g⟩ := h p (List.mem_of_find?_eq_some q)
    have : p.1 = f := by simpa using List.find?_some q
    rw [← this]
    exact g.good
theorem law_fn {k : Nat} {d : Df} {st : Stmt} {N : List Str} {fa : Addr} {x : Str} (T : Top P w K mg pg) (G : ∀ base f d, pg.fns f = some d → DefGood P w K mg base pg f d) (hf : pg.fns "law" = some d) (hx : d.ps = [x]) (g : DefG P w K mg pg "law" d st N) (hfa : mg "law" = some (.ref fa)) :
    ∃ fd : FuncData, (∀ (s : Shared) (v : Value), BindsTo s fd ⟨[v], []⟩ [(x, v)]) ∧ ∀ base : Heap, K.In base → base.Ns mainGlobals mg → FnOk P w K mg base CX0 (k + 1) fa fd [x] (spOf K pg (k + 1) "law") := by
  obtain ⟨f, fd, F, hm⟩ := g.at_
  have e := hfa.symm.trans hm
  cases e
  refine ⟨fd, fun s v => .of_eq ?_, fun base _ _ => ?_⟩
  · have := Fun.args F g.bd [v] (by rw [hx]; rfl)
    rw [this, hx]; rfl
  · have key : ∀ {args : List PV} {h h' : PH} {v : PV}, run pg (k + 1) "law" args h = .ok v h' → args.length = d.ps.length ∧
        ((∃ w h2, d.body (run pg k) (args.map some ++ List.replicate d.nl none) h = .ok (.rt w) h2 ∧ settle h w h2 = .ok v h') ∨
         (∃ e h2, d.body (run pg k) (args.map some ++ List.replicate d.nl none) h = .ok (.nx e) h2 ∧ settle h .non h2 = .ok v h')) := fun {args h h' v} q => by
      rw [run, hf] at q
      simp only at q
      split at q
      · rename_i hn
        refine ⟨hn, ?_⟩
        split at q
        · rename_i w h2 e; exact .inl ⟨w, h2, e, q⟩
        · rename_i e' h2 e; exact .inr ⟨e', h2, e, q⟩
        · exact nomatch q
        · exact nomatch q
        · exact nomatch q
      · exact nomatch q
    have S := g.sc
    rw [hx] at S
    refine Fun.okQ F S (fun vs H Q E ⟨ρ, h, args, v, h', _, r, q, _⟩ => by rw [← r.len, (key q).1, hx]) ?_
    rintro fa cdv A outer s H vs Q E hr ⟨ρ, h, args, v, h', sm, r, q, post⟩
    have amb : Amb (cxOf CX0 P w K mg base N (Str.ofString "law") (defScope st) fa cdv A outer s H E).nox pg k := ⟨hr, rfl, fun _ _ z => z, table_ok T (G base) k, T.blt, T.con, T.dcs⟩
    obtain ⟨t, qt, st'⟩ := (g.body base fa cdv A outer s H E k).h amb
    refine ⟨t, qt, ?_⟩
    obtain ⟨hn, q⟩ := key q
    have he : L2.start N vs = vs.map some ++ List.replicate d.nl none := by
      unfold L2.start
      rw [g.len, ← r.len, hn, Nat.add_sub_cancel_left]
    rw [he]
    rcases q with ⟨w, h2, e, q⟩ | ⟨e', h2, e, q⟩
    · exact st' ρ h H _ _ _ _ h2 sm (renv_start r _) e (settle_post sm q post)
    · exact st' ρ h H _ _ _ _ h2 sm (renv_start r _) e fun σ' ρ' H' g s' _ => settle_post sm q post .non ρ' H' g s' (by rw [rel])
end
theorem law_sp {K : PySem.W.Frag} {pg : Tb} {k : Nat} {E : XK} (hl : ∀ ns : List Int, ns.length ≤ 63 → Ok (run pg k "law" [.ref 0] [.fro (ns.map PV.int)]) fun v _ => v = .bl true) (H : Hp) (a : Addr) (ns : List Int) (hn : ns.length ≤ 63) (o : Only H) (q : SqL K H a (ns.map V.int)) :
    spOf K pg k "law" [.ref a] H (fun v _ => v = .bl true) E := by
  obtain ⟨v, h', e, rfl⟩ := hl ns hn
  refine ⟨[a], _, [.ref 0], _, h', ⟨rfl, fun i j b oi oj ei ej mi mj _ _ => ?_, fun i ob b ei eb => ?_⟩, rels.one (by rw [rel]; exact ⟨a, rfl, rfl⟩), e, fun v' ρ' H' g s r => by rw [rel] at r; exact r⟩
  · cases i with
    | zero => simp at ei; subst ei; exact nomatch mi
    | succ i => simp at ei
  · cases i with
    | zero =>
      simp at ei eb
      subst ei eb
      exact ⟨_, sqF_of o q, rels.ints ns⟩
    | succ i => simp at ei
section
variable {P : Program} {w : World} {K : PySem.W.Frag} {mg : Str → Option Value} {pg : Tb}
theorem con_all {conT : List (Str × PV)} (hc : pg.con = fun x => (conT.find? fun p => decide (p.1 = x)).map (·.2)) (h : ∀ p ∈ conT, ∃ u v', mg p.1 = some u ∧ RelV v' u ∧ ∀ ρ H, rel K ρ H p.2 v') : ∀ x v, pg.con x = some v → ∃ u v', mg x = some u ∧ RelV v' u ∧ ∀ ρ H, rel K ρ H v v' := fun x v e => by
  rw [hc] at e; dsimp only at e
  cases q : conT.find? fun p => decide (p.1 = x) with
  | none => rw [q] at e; exact nomatch e
  | some p =>
    rw [q] at e
    cases e
    have : p.1 = x := by simpa using List.find?_some q
    rw [← this]
    exact h p (List.mem_of_find?_eq_some q)
theorem dcs_all {dcT : List (Str × List (Key × PV))} (hc : pg.dcs = fun x => (dcT.find? fun p => decide (p.1 = x)).map (·.2)) (h : ∀ p ∈ dcT, ∃ a kws, mg p.1 = some (.ref a) ∧ KD P w K a kws ∧ ∀ ρ H, RK K ρ H p.2 kws) :
    ∀ x kvs, pg.dcs x = some kvs → ∃ a kws, mg x = some (.ref a) ∧ KD P w K a kws ∧ ∀ ρ H, Paired (fun (p : Key × PV) (q : Key × V) => p.1 = q.1 ∧ rel K ρ H p.2 q.2) kvs kws := fun x v e => by
  rw [hc] at e; dsimp only at e
  cases q : dcT.find? fun p => decide (p.1 = x) with
  | none => rw [q] at e; exact nomatch e
  | some p =>
    rw [q] at e
    cases e
    have : p.1 = x := by simpa using List.find?_some q
    rw [← this]
    exact h p (List.mem_of_find?_eq_some q)
inductive CV : PV → Value → Prop where
  | int (i : Int) (t : Tok) : CV (.int i) (.int i t)
  | str (x : Str) (t : Tok) : CV (.str x) (.str x t)
theorem CV.v {x : PV} {u : Value} (c : CV x u) : ∃ v, RelV v u ∧ ∀ ρ H, rel K ρ H x v := by
  cases c with
  | int i t => exact ⟨.int i, ⟨t, rfl⟩, fun _ _ => by rw [rel]⟩
  | str z t => exact ⟨.str z, ⟨t, rfl⟩, fun _ _ => by rw [rel]⟩
theorem CVs.v : ∀ {xs : List PV} {us : List Value}, Paired CV xs us → ∃ vs, Vals vs us ∧ ∀ ρ H, rels K ρ H xs vs
  | _, _, .nil => ⟨[], .nil, fun _ _ => rels_nil.mpr rfl⟩
  | _, _, .cons c t => let ⟨v, a, b⟩ := CV.v c; let ⟨vs, d, e⟩ := CVs.v t; ⟨v :: vs, .cons a d, fun ρ H => rels_cons.mpr ⟨v, vs, rfl, b ρ H, e ρ H⟩⟩
theorem con_cv {x : Str} {v : PV} {u : Value} (hm : mg x = some u) (c : CV v u) : ∃ u v', mg x = some u ∧ RelV v' u ∧ ∀ ρ H, rel K ρ H v v' := let ⟨v', a, b⟩ := CV.v (K := K) c; ⟨u, v', hm, a, b⟩
noncomputable def DV (K : PySem.W.Frag) (x : PV) (u : Value) : Prop := ∃ v, RelV v u ∧ ∀ ρ H, rel K ρ H x v
theorem dvs {ls : List (Str × Tok × Value)} {kvs : List (Key × PV)} (h : Paired (fun (p : Key × PV) (l : Str × Tok × Value) => p.1 = .inr l.1 ∧ DV K p.2 l.2.2) kvs ls) : ∃ kws, KV kws (ls.map fun p => ((Sum.inr p.1 : Key), p.2.2)) ∧ ∀ ρ H, RK K ρ H kvs kws := by
  induction h with
  | nil => exact ⟨[], .nil, fun _ _ => .nil⟩
  | @cons p l ps qs a t ih =>
    obtain ⟨kws, r, q⟩ := ih
    obtain ⟨e, v, r1, r2⟩ := a
    exact ⟨(.inr l.1, v) :: kws, .cons ⟨rfl, r1⟩ r, fun ρ H => .cons ⟨e, r2 ρ H⟩ (q ρ H)⟩
end
end P3
end
section
open PySem PySem.W PyProof.Rows
namespace P3
open PySem PySem.Spec PyProof.Rows L2
abbrev tupO (its : List Value) (n : Nat) (dd : Option Addr) (sl : Array (Option Value)) : Obj := { cls := .type "tuple", dict := dd, data := .seq its.toArray n, slots := sl }
theorem fit_no {k : Int} (h1 : -(2 ^ 63) ≤ k) (h2 : k < 2 ^ 63) : ¬ (decide (k < -(2 ^ 63)) || decide (k ≥ 2 ^ 63)) = true := by
  simp only [Bool.or_eq_true, decide_eq_true_eq]; omega
theorem times_same (l : Addr) (its : List Value) (n : Nat) (k : Int) (u : Tok) (dd : Option Addr) (sl : Array (Option Value)) (h1 : -(2 ^ 63) ≤ k) (h2 : k < 2 ^ 63) (hs : (its.toArray.isEmpty || k == 1) = true) :
    Meets (Builtin.«tuple.__mul__» ⟨[.ref l, .int k u], []⟩) (fun _ R s => s.heap.get? l = some (tupO its n dd sl) ∧ R (.ok (.ret (.ref l))) s) :=
  .of_wp fun prog w A R s h => by
    obtain ⟨hp, g, d, tk, os⟩ := s; obtain ⟨hl, h⟩ := h; have f1 := AutoSeq1.idx_int
    wp_walk using AutoSeq1.wpAny_loadPart' hl, wpAny_load hl
    refine wpAny_ite_split (fun z => absurd z (fit_no h1 h2)) (fun _ => ?_)
    wp_walk using AutoSeq1.wpAny_loadPart' hl, wpAny_load hl
    refine wpAny_ite_split (fun _ => ?_) (fun z => absurd hs z)
    wp_walk using AutoSeq1.wpAny_loadPart' hl, wpAny_load hl
    exact ⟨_, rfl, h⟩
theorem times_none (l : Addr) (its : List Value) (n : Nat) (k : Int) (u : Tok) (dd : Option Addr) (sl : Array (Option Value)) (h1 : -(2 ^ 63) ≤ k) (h2 : k ≤ 0) (hs : ¬ (its.toArray.isEmpty || k == 1) = true) :
    Meets (Builtin.«tuple.__mul__» ⟨[.ref l, .int k u], []⟩) (fun _ R s => s.heap.get? l = some (tupO its n dd sl) ∧ R (.ok (.ret (.ref s.heap.objs.size))) { s with heap := s.heap.push { cls := .type "tuple", data := .seq #[] } }) :=
  .of_wp fun prog w A R s h => by
    obtain ⟨hp, g, d, tk, os⟩ := s; obtain ⟨hl, h⟩ := h; have f1 := AutoSeq1.idx_int
    have hz : (decide (k ≤ 0) || its.toArray.isEmpty) = true := by simp [h2]
    wp_walk using AutoSeq1.wpAny_loadPart' hl, wpAny_load hl
    refine wpAny_ite_split (fun z => absurd z (fit_no h1 (by omega))) (fun _ => ?_)
    wp_walk using AutoSeq1.wpAny_loadPart' hl, wpAny_load hl
    refine wpAny_ite_split (fun z => absurd z hs) (fun _ => ?_)
    refine wpAny_ite_split (fun _ => ?_) (fun z => absurd hz z)
    exact wpAny_bind (m := Builtin.Tuple.tupleExact _) (wpAny_newObj_type (wpAny_pure ⟨_, rfl, h⟩) (by size_fits))
theorem times_more (l : Addr) (its : List Value) (n : Nat) (k : Int) (u : Tok) (dd : Option Addr) (sl : Array (Option Value)) (h1 : 0 < k) (h2 : (its.length : Int) * k ≤ 100000) (hk : k ≤ 100000) (hs : ¬ (its.toArray.isEmpty || k == 1) = true) :
    Meets (Builtin.«tuple.__mul__» ⟨[.ref l, .int k u], []⟩) (fun _ R s => s.heap.get? l = some (tupO its n dd sl) ∧ R (.ok (.ret (.ref s.heap.objs.size))) { s with heap := s.heap.push { cls := .type "tuple", data := .seq (List.replicate k.toNat its).flatten.toArray } }) :=
  .of_wp fun prog w A R s h => by
    obtain ⟨hp, g, d, tk, os⟩ := s; obtain ⟨hl, h⟩ := h; have f1 := AutoSeq1.idx_int
    have hz : ¬ (decide (k ≤ 0) || its.toArray.isEmpty) = true := by
      intro z
      rw [Bool.or_eq_true, decide_eq_true_eq] at z
      rcases z with z | z
      · omega
      · exact hs (by rw [z]; rfl)
    have hc1 : ¬ ((its.toArray.size : Int) * k > (2 ^ 63 - 1) / 8) := by rw [List.size_toArray]; omega
    have hc2 : ¬ (Builtin.Tuple.tupleTooMany ((its.toArray.size : Int) * k) = true) := by
      unfold Builtin.Tuple.tupleTooMany
      rw [List.size_toArray, decide_eq_true_eq, show ((sizeLine : Nat) : Int) = 16777216 from by decide]
      omega
    have e0 : List.foldl (fun x1 x2 => x1 ++ x2) #[] (List.replicate k.toNat its.toArray) = (List.replicate k.toNat its).flatten.toArray := by
      have := foldl_rep its k.toNat []
      rw [List.nil_append] at this
      exact this
    wp_walk using AutoSeq1.wpAny_loadPart' hl, wpAny_load hl
    refine wpAny_ite_split (fun z => absurd z (fit_no (by omega) (by omega))) (fun _ => ?_)
    wp_walk using AutoSeq1.wpAny_loadPart' hl, wpAny_load hl
    refine wpAny_ite_split (fun z => absurd z hs) (fun _ => ?_)
    refine wpAny_ite_split (fun z => absurd z hz) (fun _ => ?_)
    refine wpAny_ite_split (fun hab => absurd hab hc1) (fun _ => ?_)
    refine wpAny_ite_split (fun hab => absurd hab hc2) (fun _ => ?_)
    refine wpAny_bind (m := Builtin.Tuple.tupleExact _) (wpAny_newObj_type (wpAny_pure ⟨_, rfl, ?_⟩) ?_)
    · rw [e0]; exact h
    · rw [e0]; show (List.replicate k.toNat its).flatten.toArray.size ≤ sizeLine
      rw [List.size_toArray, len_rep, Nat.mul_comm]
      refine Nat.le_trans (show its.length * k.toNat ≤ 100000 from ?_) (by decide)
      have e1 : ((its.length * k.toNat : Nat) : Int) = (its.length : Int) * k := by rw [Int.natCast_mul, Int.toNat_of_nonneg (by omega)]
      omega
noncomputable def rTimes (K : PySem.W.Frag) : R2 := fun x y H Q => ∃ a k xs, x = .ref a ∧ y = .int k ∧ SqT K H a xs ∧ (xs.length : Int) * k ≤ 100000 ∧ -100000 ≤ k ∧ k ≤ 100000 ∧ (xs = [] ∨ k = 1 → Q (.ref a) H) ∧ (¬ (xs = [] ∨ k = 1) → ∀ p, H p = none → Q (.ref p) (upd H p (.tup (List.replicate k.toNat xs).flatten)))
theorem op_times {X : Cx} : OpR X (binaryOp .Mult) (rTimes X.K) := by
  intro pins s σ H x y v u Q I rx ry h
  obtain ⟨a, k, xs, rfl, rfl, ha, hl, k1, k2, q1, q2⟩ := h
  cases (show v = Value.ref a from rx)
  obtain ⟨t, rfl⟩ := ry
  obtain ⟨its, r1, p1, _⟩ := I.tuple ha
  obtain ⟨⟨cls, dd, data, sl⟩, ho, hc, n, hd⟩ := id p1
  simp only at hc hd
  subst hc hd
  have hlen := r1.length
  refine wpAny_binaryOp_repeat_ref (T := "tuple") (U := "int") (by decide) ⟨_, ho, rfl⟩ (fun s' => typeIs_int s' k t) noFill_tuple_mul PySem.F.fills_int_mul PySem.F.slot_int_rmul repeat_tuple PySem.F.slot_int_index.lookup
    (call_meets PySem.F.slot_int_rmul (typeIs_int s k t) PySem.F.entry_int_rmul (PySem.F.args_int_rmul_2 _ _) (int_rmul_tuple k t a its.toArray n dd sl) ⟨ho, rfl, ⟨_, ho, rfl⟩, ?_⟩)
  have hx : xs = [] ↔ its = [] := (r1.nil_iff).symm
  by_cases hs : xs = [] ∨ k = 1
  · have hb : (its.toArray.isEmpty || k == 1) = true := by
      rcases hs with z | z
      · rw [hx.mp z]; rfl
      · rw [z]; simp
    exact call_meets PySem.F.slot_tuple_mul ⟨_, ho, rfl⟩ PySem.F.entry_tuple_mul (PySem.F.args_tuple_mul_2 _ _) (times_same a its n k t dd sl (by omega) (by omega) hb) ⟨ho, ⟨.ref a, H, I, rfl, q1 hs⟩⟩
  · have hb : ¬ (its.toArray.isEmpty || k == 1) = true := fun z => hs (by
      rw [Bool.or_eq_true] at z
      rcases z with z | z
      · exact .inl (hx.mpr (by simpa using z))
      · exact .inr (by simpa using z))
    by_cases hk : 0 < k
    · refine call_meets PySem.F.slot_tuple_mul ⟨_, ho, rfl⟩ PySem.F.entry_tuple_mul (PySem.F.args_tuple_mul_2 _ _) (times_more a its n k t dd sl hk (by rw [← hlen]; exact hl) k2 hb) ⟨ho, ?_⟩
      refine ⟨.ref s.heap.objs.size, _, I.laid (t' := s.toks) (o := .tup (List.replicate k.toNat xs).flatten) (fun b ob q => Heap.get?_push_of_some _ q) (Nat.le_refl _) ?_, rfl, q2 hs _ (I.hok.fresh (Nat.le_refl _))⟩
      refine ⟨?_, _, r1.rep k.toNat, TupN.new _ _⟩
      rw [len_rep, Nat.mul_comm]
      refine Nat.le_trans (show xs.length * k.toNat ≤ 100000 from ?_) (by decide)
      have e1 : ((xs.length * k.toNat : Nat) : Int) = (xs.length : Int) * k := by rw [Int.natCast_mul, Int.toNat_of_nonneg (by omega)]
      omega
    · refine call_meets PySem.F.slot_tuple_mul ⟨_, ho, rfl⟩ PySem.F.entry_tuple_mul (PySem.F.args_tuple_mul_2 _ _) (times_none a its n k t dd sl (by omega) (by omega) hb) ⟨ho, ?_⟩
      refine ⟨.ref s.heap.objs.size, _, I.laid (t' := s.toks) (o := .tup (List.replicate k.toNat xs).flatten) (fun b ob q => Heap.get?_push_of_some _ q) (Nat.le_refl _) ?_, rfl, q2 hs _ (I.hok.fresh (Nat.le_refl _))⟩
      have : k.toNat = 0 := by omega
      rw [this]
      exact ⟨Nat.zero_le _, [], .nil, TupN.new _ _⟩
section
variable {X : Cx} {pg : Tb} {k : Nat}
theorem rels.rep {K : PySem.W.Frag} {ρ : List Addr} {H : Hp} {xs : List PV} {vs : List V} (r : rels K ρ H xs vs) : ∀ (n : Nat), rels K ρ H (List.replicate n xs).flatten (List.replicate n vs).flatten
  | 0 => rels_nil.mpr rfl
  | n + 1 => by rw [List.replicate_succ, List.replicate_succ, List.flatten_cons, List.flatten_cons]; exact r.app (r.rep n)
noncomputable def pMulW : PV → PV → PH → RV PV := fun x y h => match x, y with
  | .int i, .int j => if (-(2 ^ 64) < i ∧ i < 2 ^ 64) ∨ (-(2 ^ 64) < j ∧ j < 2 ^ 64) then .ok (.int (i * j)) h else .no
  | .tup xs, .int k => if (xs.length : Int) * k ≤ 100000 ∧ -100000 ≤ k ∧ k ≤ 100000 then .ok (.tup (List.replicate k.toNat xs).flatten) h else .no
  | .ref n, .int k => (match h[n]? with
    | some (.lst xs) => if (-(2 ^ 63) ≤ k ∧ k < 2 ^ 63) ∧ xs.length * k.toNat ≤ sizeLine then .ok (.ref h.length) (h ++ [.lst (List.replicate k.toNat xs).flatten]) else .no
    | _ => .no)
  | _, _ => .no
theorem o_mulW : Amb X pg k → ∃ r, OpR X (binaryOp .Mult) r ∧ SOp X.K r pMulW := fun _ => ⟨_, op_mul.or (op_times.or op_rep), fun ρ h H x y x' y' Q v h' s rx ry q P => by
  unfold pMulW at q
  split at q
  · split at q
    · rename_i hc
      cases q
      rw [rel] at rx; rw [rel] at ry
      exact .inl ⟨_, _, rx, ry, hc, P _ ρ H (.refl _ _) s (by rw [rel])⟩
    · exact nomatch q
  · rename_i xs k
    split at q
    · rename_i hc
      cases q
      have rx' := rx
      rw [rel] at rx; rw [rel] at ry
      obtain ⟨a, us, rfl, e2, e3⟩ := rx
      refine .inr (.inl ⟨a, k, us, rfl, ry, .of e2, by rw [← e3.len]; exact hc.1, hc.2.1, hc.2.2, fun z => ?_, fun z p hp => new_tup s (e3.rep _) P p hp⟩)
      have : (List.replicate k.toNat xs).flatten = xs := by
        rcases z with z | z
        · subst z
          have : xs = [] := List.eq_nil_of_length_eq_zero e3.len
          subst this; simp
        · rw [z]; simp [List.replicate]
      rw [this] at P
      exact P _ ρ H (.refl _ _) s rx'
    · exact nomatch q
  · split at q
    · rename_i xs en
      split at q
      · rename_i hc
        cases q
        rw [rel] at ry
        obtain ⟨a, us, rfl, _, e1, e2⟩ := s.lst en rx
        exact .inr (.inr ⟨a, _, us, rfl, ry, e1, hc.1.1, hc.1.2, by rw [← e2.len]; exact hc.2, fun p hp => new_lst s (e2.rep _) P p hp⟩)
      · exact nomatch q
    · exact nomatch q
  · exact nomatch q⟩
end
end P3
end
section
open PySem PySem.W PyProof.Rows
namespace P3
open PySem PySem.Spec PyProof.Rows L2
section
variable {prog : Program} {w : World} {A : Around} {E : Value → Shared → Prop} {s : Shared}
theorem collect_tup {t : Addr} {us : List Value} {R : List Value → Shared → Prop} (ht : s.heap.IsTuple t us.toArray) (fits : us.length ≤ sizeLine)
    (q : R us { s with heap := (s.heap.push (seqObj "list" #[] 0)).update s.heap.objs.size (Obj.mapSeq (· ++ us.toArray)) }) : wpAny (model prog w) A (collect (.ref t)) R E s := by
  obtain ⟨ob, e1, e2, m, e3⟩ := id ht
  have e1' := Heap.get?_push_of_some (seqObj "list" #[] 0) e1
  have own : (s.heap.push (seqObj "list" #[] 0)).get? s.heap.objs.size = some (seqObj "list" #[] 0) := Heap.get?_push_size _ rfl
  have sum : (#[] : Array Value) ++ us.toArray = us.toArray := by simp
  unfold collect
  refine wpAny_bind (wpAny_runValue (codeAny_builtin entry_proto_collect' (show wpAny _ _ (newList [] >>= fun l => again (.builtin "list.__iadd__" ⟨[l, .ref t], []⟩)) _ _ s from ?_)))
  refine wpAny_bind (wpAny_newList (wpAny_pure ⟨Code.quiet_builtin _ (by decide +kernel), codeAny_builtin entry_list_iadd' (show wpAny _ _ (Builtin.List.listExtendWith _ (.ref t) _) _ _ { s with heap := s.heap.push (seqObj "list" #[] 0) } from ?_)⟩))
  unfold PySem.Builtin.List.listExtendWith
  refine wpAny_bind (wpAny_typeOf (T := "tuple") ⟨ob, e1', e2⟩ (ifB (by simp) (wpAny_bind (listItems_at e1' e3 (wpAny_bind (listItems_at own rfl ?_))))))
  refine ifC (by simp) (wpAny_bind (listUpdate_at own rfl (wpAny_pure ?_) (Nat.zero_le _) (by rw [sum, List.size_toArray]; omega)))
  refine wpAny_bind (wpAny_load (get?_update_seq own _) ?_)
  show wpAny _ _ (pure ((#[] : Array Value) ++ us.toArray).toList) R E _
  rw [sum]
  exact wpAny_pure q
theorem sorted_tup_strs {t : Addr} {us : List Value} {ss : List Str} {R : Value → Shared → Prop} (ht : s.heap.IsTuple t us.toArray) (hS : StrsAre us ss) (n64 : us.length < 64)
    (q : ∀ (out : Array Value) (ss' : List Str), StrsAre out.toList ss' → ss'.Perm ss → sortedS ss' = true → R (.ref (s.heap.objs.size + 1)) { s with heap := sortedAll s.heap us out }) : wpAny (model prog w) A (call (.builtin "sorted") [.ref t]) R E s := by
  refine Calls.call_function_entry kind_sorted plain_sorted entry_sorted (args_sorted1 (.ref t)) ?_
  unfold Builtin.«sorted»
  refine wpAny_bind (m := checkCount "sorted" 1 1 [Value.ref t].length) (wpAny_pure (wpAny_bind (collect_tup ht (L2.few n64) (wpAny_bind (wpAny_newList ?_ (L2.few n64))))))
  show wpAny _ _ _ _ _ { s with heap := twoHeap s.heap us }
  rw [twoHeap_size]
  exact wpAny_bind (wpAny_holding (sort_strs_at (twoHeap_new s.heap us) hS n64 fun out ss' a1 a2 a3 => wpAny_pure ⟨_, rfl, q out ss' a1 a2 a3⟩))
end
section
variable {X : Cx} {pg : Tb} {k : Nat}
noncomputable def rSortTS (K : PySem.W.Frag) : List V → Hp → VK → Prop := fun xs H Q => ∃ p ss, xs = [.ref p] ∧ SqT K H p (ss.map V.str) ∧ ss.length < 64 ∧ ∀ l ss', H l = none → ss'.Perm ss → sortedS ss' = true → Q (.ref l) (upd H l (.lst (ss'.map V.str)))
theorem call_sortTS : CallR X (.builtin "sorted") (rSortTS X.K) := by
  intro pins s σ H xs us Q I r ⟨p, ss, e, hS, h64, q⟩
  subst e
  obtain ⟨u, rfl, ru⟩ := vals1 r
  cases (show u = Value.ref p from ru)
  obtain ⟨its, hv, hl, hz⟩ := I.tuple hS
  have sa := strsAre_of hv
  refine sorted_tup_strs hl sa (by rw [sa.length]; exact h64) fun out ss' a1 a2 a3 => ?_
  obtain ⟨e, he⟩ := sortedAll_at s.heap its out
  have hlen : (ss'.map V.str).length ≤ sizeLine := by rw [List.length_map, a2.length_eq]; exact Nat.le_of_lt (Nat.lt_of_lt_of_le h64 (by decide))
  obtain ⟨hn, I'⟩ := I.laidAt (a := s.heap.objs.size + 1) (o := .lst (ss'.map V.str)) (t' := s.toks) (fun b o e => sortedAll_old e) (Heap.get?_none_of_le (Nat.le_succ _)) ⟨hlen, out.toList, e, vals_strs a1, by simpa [seqObj] using he⟩
  exact ⟨.ref _, _, I', rfl, q _ ss' hn a2 a3⟩
noncomputable def pSortedW : List PV → PH → RV PV := fun xs h => match xs with
  | [.tup ys] => (match strsP ys with
    | some ss => if ss.length < 64 then .ok (.ref h.length) (h ++ [.lst ((sortS ss).map PV.str)]) else .no
    | none => .no)
  | _ => pSorted xs h
theorem b_sortedW : Amb X pg k → ∃ r, CallR X (.builtin "sorted") r ∧ SCl X.K r pSortedW := fun A => ⟨_, call_sortTS.or (callSortedW A.calm), fun ρ h H xs us Q v h' s r q P => by
  unfold pSortedW at q
  split at q
  · rename_i ys
    split at q
    · rename_i ss es
      split at q
      · rename_i hl
        cases q
        obtain ⟨u, rfl, r1⟩ := rels_one r
        rw [rel] at r1
        obtain ⟨a, vs, rfl, e1, e2⟩ := r1
        rw [strsP_eq es, rels_strs] at e2
        subst e2
        refine .inl ⟨a, ss, rfl, .of e1, hl, fun l ss' hp pm so => ?_⟩
        rw [sortS_is pm so]
        exact new_lst s (rels_strs.mpr rfl) P l hp
      · exact nomatch q
    · exact nomatch q
  · exact .inr (b_sorted_of A ρ h H _ us Q v h' s r q P)⟩
end
end P3
end
section
open PySem PySem.W PyProof.Rows
namespace P3
open PySem L2
noncomputable def fin (h : PH) (r : RV Fl) : RV PV := match r with
  | .ok (.rt v) h' => settle h v h'
  | .ok (.nx _) h' => settle h .non h'
  | .ok _ _ => .no
  | .ex c us h' => .ex c us h'
  | .no => .no
theorem run_eq {pg : Tb} {k : Nat} {f : String} {d : Df} {vs : List PV} {h : PH} (hf : pg.fns f = some d) (hn : vs.length = d.ps.length) : run pg (k + 1) f vs h = fin h (d.body (run pg k) (vs.map some ++ List.replicate d.nl none) h) := by
  rw [run, hf]
  simp only [if_pos hn]
  rfl
theorem bd_ok {α β : Type} {a : α} {h : PH} {f : α → PH → RV β} : (RV.ok a h).bind f = f a h := (rfl)
theorem fin_rt {h h' : PH} {v : PV} : fin h (.ok (.rt v) h') = settle h v h' := (rfl)
theorem fin_ite {h : PH} {c : Prop} [Decidable c] {a b : RV Fl} : fin h (if c then a else b) = if c then fin h a else fin h b := by split <;> rfl
theorem settle_self {h : PH} {v : PV} : settle h v h = .ok v h := by unfold settle; split <;> simp
theorem settle_app {h g : PH} {v : PV} (hv : v.flat = true) : settle h v (h ++ g) = .ok v h := by unfold settle; rw [hv, okDrop_app]; simp
theorem settle_ref {h h' : PH} {v : PV} (hv : v.flat = false) : settle h v h' = .ok v h' := by unfold settle; rw [hv]; rfl
theorem settle_set {h g : PH} {v : PV} {i : Nat} {o o' : PO} (hv : v.flat = true) (e : h[i]? = some o) (m : o.isMut = o'.isMut) (hu : o'.und h.length = true) : settle h v (h.set i o' ++ g) = .ok v (h.set i o') := by
  unfold settle
  have : okDrop h.length h (h.set i o' ++ g) = true := by
    have h1 := okDrop_set hu h (h ++ g) i o (okDrop_app _ h g) e m
    rwa [List.set_append_left _ _ (List.getElem?_eq_some_iff.mp e).1] at h1
  rw [hv, this]
  simp [List.take_append_of_le_length]
theorem settle_set0 {h : PH} {v : PV} {i : Nat} {o o' : PO} : settle h v (h.set i o') = .ok v (h.set i o') := by
  unfold settle; split
  · rw [← List.length_set (as := h) (i := i) (a := o'), List.take_length]
  · rfl
theorem ofString_inj {a b : String} : Str.ofString a = Str.ofString b ↔ a = b := by
  refine ⟨fun e => ?_, fun e => by rw [e]⟩
  rw [Str.ofString_eq_toList, Str.ofString_eq_toList] at e
  have e1 : a.toList.map Char.toNat = b.toList.map Char.toNat := by
    have := congrArg (fun s : Str => s.cps.toList) e
    simpa using this
  have inj : ∀ {l m : List Char}, l.map Char.toNat = m.map Char.toNat → l = m := by
    intro l
    induction l with
    | nil => intro m h; cases m with | nil => rfl | cons => exact nomatch h
    | cons x r ih =>
      intro m h
      cases m with
      | nil => exact nomatch h
      | cons y t =>
        simp only [List.cons.injEq, List.map_cons] at h
        have : x = y := Char.toNat_inj.mp h.1
        rw [this, ih h.2]
  exact String.toList_inj.mp (inj e1)
end P3
end
section
open PySem PySem.W PyProof.Rows
namespace P3
open PySem L2
section
variable {c : CF} {e e1 : PEnv} {h h1 : PH} {a b d : ME} {t u : MT} {r : MA} {x y v : PV} {f g : PV → PV → PH → RV PV} {s s' : MS} {i n : Nat}
noncomputable def opk1 (f : PV → PV → PH → RV PV) (b : ME) (c : CF) (e : PEnv) (x : PV) (h1 : PH) : RV PV := (b c e h1).bind fun y h2 => f x y h2
theorem ev_op : eOp f a b c e h = (a c e h).bind (opk1 f b c e) := (rfl)
theorem ev_op1 : opk1 f b c e x h1 = (b c e h1).bind (f x) := (rfl)
theorem ev_un {f : PV → PH → RV PV} : eUn f a c e h = (a c e h).bind f := (rfl)
noncomputable def vark (o : Option (Option PV)) (h : PH) : RV PV := match o with
  | some (some v) => .ok v h
  | _ => .no
theorem ev_var : eVar i c e h = vark (e[i]?) h := (rfl)
theorem ev_var1 : vark (some (some v)) h = .ok v h := (rfl)
theorem ev_c : eC v c e h = .ok v h := (rfl)
theorem ev_asB {p : Bool} : asB (.bl p) h = .ok p h := (rfl)
noncomputable def andk (b : ME) (c : CF) (e : PEnv) (x : Bool) (h1 : PH) : RV PV := if x = true then b c e h1 else .ok (.bl false) h1
theorem ev_and : eAnd a b c e h = ((a c e h).bind asB).bind (andk b c e) := (rfl)
theorem ev_andT : andk b c e true h = b c e h := (rfl)
noncomputable def ork (b : ME) (c : CF) (e : PEnv) (x : Bool) (h1 : PH) : RV PV := if x = true then .ok (.bl true) h1 else b c e h1
theorem ev_or : eOr a b c e h = ((a c e h).bind asB).bind (ork b c e) := (rfl)
theorem ev_orT : ork b c e true h = .ok (.bl true) h := (rfl)
theorem ev_orF : ork b c e false h = b c e h := (rfl)
noncomputable def notk (x : Bool) (h1 : PH) : RV PV := .ok (.bl (!x)) h1
theorem ev_not : eNot a c e h = ((a c e h).bind asB).bind notk := (rfl)
theorem ev_not1 {p : Bool} : notk p h = .ok (.bl (!p)) h := (rfl)
noncomputable def ifk (a b : ME) (c : CF) (e : PEnv) (x : Bool) (h1 : PH) : RV PV := if x = true then a c e h1 else b c e h1
theorem ev_if : eIf t a b c e h = (t c e h).bind (ifk a b c e) := (rfl)
theorem ev_ifT : ifk a b c e true h = a c e h := (rfl)
theorem ev_ifF : ifk a b c e false h = b c e h := (rfl)
theorem ev_ifD {p : Prop} [Decidable p] : ifk a b c e (decide p) h = if p then a c e h else b c e h := by unfold ifk; by_cases q : p <;> simp [q]
theorem ev_val : mVal a c e h = (a c e h).bind asB := (rfl)
noncomputable def mandk (u : MT) (c : CF) (e : PEnv) (x : Bool) (h1 : PH) : RV Bool := if x = true then u c e h1 else .ok false h1
theorem ev_mand : mAnd t u c e h = (t c e h).bind (mandk u c e) := (rfl)
theorem ev_mandT : mandk u c e true h = u c e h := (rfl)
theorem ev_mandF : mandk u c e false h = .ok false h := (rfl)
noncomputable def mork (u : MT) (c : CF) (e : PEnv) (x : Bool) (h1 : PH) : RV Bool := if x = true then .ok true h1 else u c e h1
theorem ev_mor : mOr t u c e h = (t c e h).bind (mork u c e) := (rfl)
theorem ev_morT : mork u c e true h = .ok true h := (rfl)
theorem ev_morF : mork u c e false h = u c e h := (rfl)
noncomputable def mnotk (x : Bool) (h1 : PH) : RV Bool := .ok (!x) h1
theorem ev_mnot : mNot t c e h = (t c e h).bind mnotk := (rfl)
theorem ev_mnot1 {p : Bool} : mnotk p h = .ok (!p) h := (rfl)
theorem ev_true : mTrue c e h = .ok true h := (rfl)
theorem ev_anil : aNil c e h = .ok [] h := (rfl)
noncomputable def ack2 (x : PV) (xs : List PV) (h2 : PH) : RV (List PV) := .ok (x :: xs) h2
noncomputable def ack1 (r : MA) (c : CF) (e : PEnv) (x : PV) (h1 : PH) : RV (List PV) := (r c e h1).bind (ack2 x)
theorem ev_acons : aCons a r c e h = (a c e h).bind (ack1 r c e) := (rfl)
theorem ev_acons1 : ack1 r c e x h = (r c e h).bind (ack2 x) := (rfl)
theorem ev_acons2 {xs : List PV} : ack2 x xs h = .ok (x :: xs) h := (rfl)
theorem few_of {α : Type} {n : Nat} {r : RV α} (hn : n ≤ 16777216) : few n r = r := by unfold few; exact if_pos hn
noncomputable def tupk (xs : List PV) (h : PH) : RV PV := few xs.length (.ok (.tup xs) h)
theorem ev_tup : eTup r c e h = (r c e h).bind tupk := (rfl)
theorem ev_tup0 {xs : List PV} : tupk xs h = few xs.length (.ok (.tup xs) h) := (rfl)
noncomputable def lstk (xs : List PV) (h : PH) : RV PV := few xs.length (.ok (.ref h.length) (h ++ [.lst xs]))
theorem ev_lst : eLst r c e h = (r c e h).bind lstk := (rfl)
theorem ev_lst0 {xs : List PV} : lstk xs h = few xs.length (.ok (.ref h.length) (h ++ [.lst xs])) := (rfl)
theorem ev_call {f : String} : eCall f r c e h = (r c e h).bind (c f) := (rfl)
theorem ev_b {f : List PV → PH → RV PV} : eB f r c e h = (r c e h).bind f := (rfl)
noncomputable def mtk (f : PV → List PV → PH → RV PV) (ty : PV → PH → Bool) (r : MA) (c : CF) (e : PEnv) (x : PV) (h1 : PH) : RV PV := if ty x h1 = true then (r c e h1).bind (f x) else .no
theorem ev_m {f : PV → List PV → PH → RV PV} {ty : PV → PH → Bool} : eM f ty a r c e h = (a c e h).bind (mtk f ty r c e) := (rfl)
theorem ev_m1 {f : PV → List PV → PH → RV PV} {ty : PV → PH → Bool} (ht : ty x h = true) : mtk f ty r c e x h = (r c e h).bind (f x) := if_pos ht
noncomputable def seqk (s : MS) (c : CF) (f : Fl) (h1 : PH) : RV Fl := match f with
  | .nx e1 => s c e1 h1
  | f => .ok f h1
theorem ev_seq : sSeq s s' c e h = (s c e h).bind (seqk s' c) := (rfl)
theorem ev_seqN : seqk s c (.nx e) h = s c e h := (rfl)
theorem ev_seqR : seqk s c (.rt v) h = .ok (.rt v) h := (rfl)
theorem ev_nx : sNx c e h = .ok (.nx e) h := (rfl)
noncomputable def drk (e : PEnv) (_ : PV) (h1 : PH) : RV Fl := .ok (.nx e) h1
theorem ev_drop : sDrop a c e h = (a c e h).bind (drk e) := (rfl)
theorem ev_drop1 : drk e x h = .ok (.nx e) h := (rfl)
noncomputable def retk (v : PV) (h1 : PH) : RV Fl := .ok (.rt v) h1
theorem ev_ret : sRet a c e h = (a c e h).bind retk := (rfl)
theorem ev_ret1 : retk v h = .ok (.rt v) h := (rfl)
noncomputable def sifk (s s' : MS) (c : CF) (e : PEnv) (x : Bool) (h1 : PH) : RV Fl := if x = true then s c e h1 else s' c e h1
theorem ev_sif : sIf t s s' c e h = (t c e h).bind (sifk s s' c e) := (rfl)
theorem ev_sifT : sifk s s' c e true h = s c e h := (rfl)
theorem ev_sifF : sifk s s' c e false h = s' c e h := (rfl)
theorem ev_sifN {p : Prop} [Decidable p] : sifk s s' c e (!decide p) h = if p then s' c e h else s c e h := by unfold sifk; by_cases q : p <;> simp [q]
noncomputable def envk (e1 : PEnv) (h2 : PH) : RV Fl := .ok (.nx e1) h2
noncomputable def asgk (g : MG) (e : PEnv) (v : PV) (h1 : PH) : RV Fl := (g v e h1).bind envk
theorem ev_asg {g : MG} : sAsg a g c e h = (a c e h).bind (asgk g e) := (rfl)
theorem ev_asgN : asgk (gN i) e v h = .ok (.nx (e.set i (some v))) h := (rfl)
theorem ev_env : envk e h = .ok (.nx e) h := (rfl)
theorem ev_gN : gN i v e h = .ok (e.set i (some v)) h := (rfl)
theorem ev_gT2 {gs : List PV → PEnv → PH → RV PEnv} {x1 x2 : PV} : gT 2 gs (.tup [x1, x2]) e h = gs [x1, x2] e h := (rfl)
theorem ev_gsN : gsNil [] e h = .ok e h := (rfl)
theorem ev_gsC {g : MG} {r : List PV → PEnv → PH → RV PEnv} {t : List PV} : gsCons g r (v :: t) e h = (g v e h).bind (r t) := (rfl)
noncomputable def putk3 (f : PV → PV → PV → PH → RV Unit) (e : PEnv) (v x y : PV) (h3 : PH) : RV Fl := (f x y v h3).bind fun _ h4 => .ok (.nx e) h4
noncomputable def putk2 (f : PV → PV → PV → PH → RV Unit) (i : ME) (c : CF) (e : PEnv) (v x : PV) (h2 : PH) : RV Fl := (i c e h2).bind (putk3 f e v x)
noncomputable def putk1 (f : PV → PV → PV → PH → RV Unit) (o i : ME) (c : CF) (e : PEnv) (v : PV) (h1 : PH) : RV Fl := (o c e h1).bind (putk2 f i c e v)
theorem ev_put {f : PV → PV → PV → PH → RV Unit} {o i : ME} : sPut f o i a c e h = (a c e h).bind (putk1 f o i c e) := (rfl)
theorem ev_put1 {f : PV → PV → PV → PH → RV Unit} {o i : ME} : putk1 f o i c e v h = (o c e h).bind (putk2 f i c e v) := (rfl)
theorem ev_put2 {f : PV → PV → PV → PH → RV Unit} {i : ME} : putk2 f i c e v x h = (i c e h).bind (putk3 f e v x) := (rfl)
noncomputable def unk (e : PEnv) (_ : Unit) (h : PH) : RV Fl := .ok (.nx e) h
theorem ev_put3 {f : PV → PV → PV → PH → RV Unit} : putk3 f e v x y h = (f x y v h).bind (unk e) := (rfl)
theorem ev_unk {u : Unit} : unk e u h = .ok (.nx e) h := (rfl)
noncomputable def fstep (g : MG) (s : MS) (c : CF) (x : PV) (e : PEnv) (h : PH) : RV Fl := (g x e h).bind (s c)
noncomputable def fork (g : MG) (s : MS) (c : CF) (e : PEnv) (it : PIt) (h1 : PH) : RV Fl := loopS it (fstep g s c) it.items e h1
theorem ev_for {i : MI} {g : MG} : sFor i g s c e h = (i c e h).bind (fork g s c e) := (rfl)
theorem ev_for1 {g : MG} {it : PIt} : fork g s c e it h = loopS it (fstep g s c) it.items e h := (rfl)
theorem ev_fstep {g : MG} : fstep g s c x e h = (g x e h).bind (s c) := (rfl)
theorem ev_iIn : iIn a c e h = (a c e h).bind itOf := (rfl)
theorem ev_itT {xs : List PV} : itOf (.tup xs) h = .ok ⟨none, xs⟩ h := (rfl)
noncomputable def itk (n : Nat) (h : PH) (o : Option PO) : RV PIt := match o with
  | some (.lst xs) => .ok ⟨some n, xs⟩ h
  | some (.fro xs) => .ok ⟨some n, xs⟩ h
  | _ => .no
theorem ev_itR {n : Nat} : itOf (.ref n) h = itk n h (h[n]?) := by
  have e : itOf (.ref n) h = (match lstOf h n with | some xs => .ok ⟨some n, xs⟩ h | none => .no) := rfl
  rw [e]
  unfold lstOf itk
  generalize h[n]? = oo
  cases oo with
  | none => rfl
  | some o => cases o <;> rfl
theorem ev_itL {n : Nat} {xs : List PV} : itk n h (some (.lst xs)) = .ok ⟨some n, xs⟩ h := (rfl)
noncomputable def rgk (vs : List PV) (h1 : PH) : RV PIt := match vs with
  | [.int j] => if -(2 ^ 62) ≤ j ∧ j < 2 ^ 62 then .ok ⟨none, rangeP 0 j.toNat⟩ h1 else .no
  | _ => .no
theorem ev_rg1 : iRange1 r c e h = (r c e h).bind rgk := by
  unfold iRange1
  generalize r c e h = z
  cases z with
  | ok a b =>
    rw [bind_ok, bind_ok]
    unfold rgk
    split
    · rfl
    · rename_i hx
      first
      | rfl
      | (split
         · exact absurd rfl (hx _)
         · rfl)
  | ex a b d => rfl
  | no => rfl
theorem ev_rg1k {j : Int} (hj : -4611686018427387904 ≤ j ∧ j < 4611686018427387904) : rgk [.int j] h = .ok ⟨none, rangeP 0 j.toNat⟩ h := by
  unfold rgk; exact if_pos (by omega)
noncomputable def lpk (it : PIt) (step : PV → PEnv → PH → RV Fl) (xs : List PV) (f : Fl) (h1 : PH) : RV Fl := match f with
  | .nx e1 => loopS it step xs e1 h1
  | .ct e1 => loopS it step xs e1 h1
  | .bk e1 => .ok (.nx e1) h1
  | .rt v => .ok (.rt v) h1
theorem ev_lpN {xs : List PV} {step : PV → PEnv → PH → RV Fl} : loopS ⟨none, xs⟩ step [] e h = .ok (.nx e) h := (rfl)
theorem ev_lpC {xs ys : List PV} {step : PV → PEnv → PH → RV Fl} : loopS ⟨none, xs⟩ step (y :: ys) e h = (step y e h).bind (lpk ⟨none, xs⟩ step ys) := (rfl)
theorem ev_lpN' {it : PIt} {step : PV → PEnv → PH → RV Fl} (hf : it.fine h = true) : loopS it step [] e h = .ok (.nx e) h := by rw [loopS, if_pos hf]
theorem ev_lpC' {it : PIt} {ys : List PV} {step : PV → PEnv → PH → RV Fl} (hf : it.fine h = true) : loopS it step (y :: ys) e h = (step y e h).bind (lpk it step ys) := by rw [loopS, if_pos hf]; rfl
theorem ev_lpkN {it : PIt} {xs : List PV} {step : PV → PEnv → PH → RV Fl} : lpk it step xs (.nx e) h = loopS it step xs e h := (rfl)
theorem ev_lpkR {it : PIt} {xs : List PV} {step : PV → PEnv → PH → RV Fl} : lpk it step xs (.rt v) h = .ok (.rt v) h := (rfl)
noncomputable def lck2 (ys : List PV) (h2 : PH) : RV PV := .ok (.ref h2.length) (h2 ++ [.lst ys])
noncomputable def lck1 (k : Nat) (g : MG) (t : MT) (a : ME) (c : CF) (e : PEnv) (it : PIt) (h1 : PH) : RV PV := (lcS it (lcStep k g t a c e) it.items [] h1).bind lck2
theorem ev_lc {k : Nat} {i : MI} {g : MG} : eLC k i g t a c e h = (i c e h).bind (lck1 k g t a c e) := (rfl)
theorem ev_lc1 {k : Nat} {g : MG} {it : PIt} : lck1 k g t a c e it h = (lcS it (lcStep k g t a c e) it.items [] h).bind lck2 := (rfl)
theorem ev_lc2 {ys : List PV} : lck2 ys h = .ok (.ref h.length) (h ++ [.lst ys]) := (rfl)
noncomputable def lsk3 (y : PV) (h4 : PH) : RV (Option PV) := .ok (some y) h4
noncomputable def lsk2 (a : ME) (c : CF) (e2 : PEnv) (b : Bool) (h3 : PH) : RV (Option PV) := if b = true then (a c e2 h3).bind lsk3 else .ok none h3
noncomputable def lsk1 (t : MT) (a : ME) (c : CF) (e2 : PEnv) (h2 : PH) : RV (Option PV) := (t c e2 h2).bind (lsk2 a c e2)
theorem ev_ls {k : Nat} {g : MG} : lcStep k g t a c e x h = (g x (e ++ List.replicate k none) h).bind (lsk1 t a c) := (rfl)
theorem ev_ls1 : lsk1 t a c e h = (t c e h).bind (lsk2 a c e) := (rfl)
theorem ev_ls2T : lsk2 a c e true h = (a c e h).bind lsk3 := (rfl)
theorem ev_ls2F : lsk2 a c e false h = .ok none h := (rfl)
theorem ev_ls2D {p : Prop} [Decidable p] : lsk2 a c e (decide p) h = if p then (a c e h).bind lsk3 else .ok none h := by unfold lsk2; by_cases q : p <;> simp [q]
theorem ev_ls2N {p : Prop} [Decidable p] : lsk2 a c e (!decide p) h = if p then .ok none h else (a c e h).bind lsk3 := by unfold lsk2; by_cases q : p <;> simp [q]
theorem ev_ls3 : lsk3 y h = .ok (some y) h := (rfl)
theorem lcS_map {α : Type} {it : PIt} (hf : it.fine h = true) {step : PV → PH → RV (Option PV)} {f : α → Option PV} {g : α → PV} : ∀ (l : List α) (ys : List PV), (∀ x ∈ l, step (g x) h = .ok (f x) h) → l.length + ys.length ≤ 16777216 → lcS it step (l.map g) ys h = .ok (ys ++ l.filterMap f) h
  | [], ys, _, _ => by rw [List.map_nil, lcS, if_pos hf]; simp
  | x :: xs, ys, hs, hl => by
    have hl' : ys.length < sizeLine := by rw [List.length_cons] at hl; show ys.length < 16777216; omega
    rw [List.map_cons, lcS, if_pos ⟨hf, hl'⟩, hs x List.mem_cons_self, bind_ok]
    cases q : f x with
    | none => exact (lcS_map hf xs ys (fun y m => hs y (List.mem_cons_of_mem _ m)) (by rw [List.length_cons] at hl; omega)).trans (by rw [List.filterMap_cons_none q])
    | some y => exact (lcS_map hf xs (ys ++ [y]) (fun z m => hs z (List.mem_cons_of_mem _ m)) (by rw [List.length_cons] at hl; simp; omega)).trans (by rw [List.filterMap_cons_some q]; simp)
end
section
variable {h : PH} {i j : Int} {a b : Str} {x y z w u v : PV} {r xs ys : List PV} {p q : Bool} {n m : Nat}
theorem op_sub' : pSub (.int i) (.int j) h = .ok (.int (i - j)) h := (rfl)
theorem op_addI : pAdd (.int i) (.int j) h = .ok (.int (i + j)) h := (rfl)
theorem op_addL (e1 : h[n]? = some (.lst xs)) (e2 : h[m]? = some (.lst ys)) (hl : xs.length + ys.length ≤ 16777216) : pAdd (.ref n) (.ref m) h = .ok (.ref h.length) (h ++ [.lst (xs ++ ys)]) := by
  unfold pAdd; simp only [e1, e2]; exact few_of (by simpa using hl)
theorem op_mod' (hj : 0 < j) : pMod (.int i) (.int j) h = .ok (.int (i % j)) h := by unfold pMod p2; simp [hj, iOk, bind_ok]
theorem op_fdiv' (hj : 0 < j ∧ j < 1073741824) : pFdiv (.int i) (.int j) h = .ok (.int (i / j)) h := by unfold pFdiv p2; simp [hj, iOk, bind_ok]
theorem op_pow' (hj : 0 ≤ j ∧ j ≤ 1000000 ∧ i.natAbs < 18446744073709551616) : pPow (.int i) (.int j) h = .ok (.int (i ^ j.toNat)) h := by
  unfold pPow p2; simp only; rw [if_pos (by exact ⟨hj.1, hj.2.1, by have := hj.2.2; omega⟩)]; rfl
theorem op_mulL (hi : -18446744073709551616 < i ∧ i < 18446744073709551616) : pMulW (.int i) (.int j) h = .ok (.int (i * j)) h := if_pos (.inl (by omega))
theorem op_mulR (hj : -18446744073709551616 < j ∧ j < 18446744073709551616) : pMulW (.int i) (.int j) h = .ok (.int (i * j)) h := if_pos (.inr (by omega))
theorem op_lt' : pLt (.int i) (.int j) h = .ok (.bl (decide (i < j))) h := (rfl)
theorem op_gt' : pGt (.int i) (.int j) h = .ok (.bl (decide (j < i))) h := (rfl)
theorem op_ge' : pGe (.int i) (.int j) h = .ok (.bl (decide (j ≤ i))) h := (rfl)
theorem op_eqSS : pEq (.str a) (.str b) h = .ok (.bl (decide (a = b))) h := by simp [pEq, alike, pScal]
theorem op_eqII : pEq (.int i) (.int j) h = .ok (.bl (decide (i = j))) h := by simp [pEq, alike, pScal]
theorem op_eqBB : pEq (.bl p) (.bl q) h = .ok (.bl (decide (p = q))) h := by simp [pEq, alike, pScal]
theorem op_neSS : pNe (.str a) (.str b) h = .ok (.bl (!decide (a = b))) h := by simp [pNe, alike, pScal, isDct]
theorem op_neII : pNe (.int i) (.int j) h = .ok (.bl (!decide (i = j))) h := by simp [pNe, alike, pScal, isDct]
theorem op_neBB : pNe (.bl p) (.bl q) h = .ok (.bl (!decide (p = q))) h := by simp [pNe, alike, pScal, isDct]
theorem ix_0 : pIx (.tup (x :: r)) (.int 0) h = .ok x h := by
  simp only [pIx, atI, ixN]; rw [if_pos (by decide), if_pos (by simp only [List.length_cons]; omega)]; rfl
theorem ix_1 : pIx (.tup (x :: y :: r)) (.int 1) h = .ok y h := by
  simp only [pIx, atI, ixN]; rw [if_pos (by decide), if_pos (by simp only [List.length_cons]; omega)]; rfl
theorem ix_2 : pIx (.tup (x :: y :: z :: r)) (.int 2) h = .ok z h := by
  simp only [pIx, atI, ixN]; rw [if_pos (by decide), if_pos (by simp only [List.length_cons]; omega)]; rfl
theorem ix_4 : pIx (.tup (x :: y :: z :: w :: u :: r)) (.int 4) h = .ok u h := by
  simp only [pIx, atI, ixN]; rw [if_pos (by decide), if_pos (by simp only [List.length_cons]; omega)]; rfl
theorem ix_T (e : atI xs i = some v) : pIx (.tup xs) (.int i) h = .ok v h := by simp only [pIx, e]
theorem atI_nat {α : Type} {xs : List α} {i : Int} {n : Nat} (e : i = (n : Int)) {v : α} (q : xs[n]? = some v) : atI xs i = some v := by
  have hl : n < xs.length := (List.getElem?_eq_some_iff.mp q).1
  subst e
  unfold atI ixN
  rw [if_pos (by omega), if_pos (by omega)]
  simpa using q
noncomputable def ixk (y : PV) (h : PH) (o : Option PO) : RV PV := match o with
  | some (.dct kvs) => (match keyP y with
    | some k => (match valP kvs k with | some v => .ok v h | none => .no)
    | none => .no)
  | some (.lst xs) => (match y with
    | .int i => (match atI xs i with | some v => .ok v h | none => .no)
    | _ => .no)
  | some (.fro xs) => (match y with
    | .int i => (match atI xs i with | some v => .ok v h | none => .no)
    | _ => .no)
  | none => .no
theorem ix_R : pIx (.ref n) y h = ixk y h (h[n]?) := by
  unfold ixk
  simp only [pIx]
  all_goals (generalize h[n]? = oo; rcases oo with _ | o <;> first | rfl | (cases o <;> rfl))
noncomputable def ovk (h : PH) (o : Option PV) : RV PV := match o with
  | some v => .ok v h
  | none => .no
theorem ix_D {kvs : List (Key × PV)} : ixk (.str a) h (some (.dct kvs)) = ovk h (valP kvs (.inr a)) := (rfl)
theorem ix_L : ixk (.int i) h (some (.lst xs)) = ovk h (atI xs i) := (rfl)
theorem ix_F : ixk (.int i) h (some (.fro xs)) = ovk h (atI xs i) := (rfl)
theorem ov_some : ovk h (some v) = .ok v h := (rfl)
theorem val_hit {k : Key} {kvs : List (Key × PV)} : valP ((k, v) :: kvs) k = some v := by simp [valP]
theorem val_miss {k k' : Key} {kvs : List (Key × PV)} (ne : k' ≠ k) : valP ((k', v) :: kvs) k = valP kvs k := by simp [valP, ne]
noncomputable def putk (n : Nat) (y v : PV) (h : PH) (o : Option PO) : RV Unit := match o with
  | some (.dct kvs) => (match keyP y with
    | some k => if kvs.length < sizeLine then .ok () (h.set n (.dct (putP kvs k v))) else .no
    | none => .no)
  | some (.lst xs) => (match y with
    | .int i => (match ixN xs.length i with | some j => .ok () (h.set n (.lst (xs.set j v))) | none => .no)
    | _ => .no)
  | _ => .no
theorem put_R : pPut (.ref n) y v h = putk n y v h (h[n]?) := by
  unfold putk
  simp only [pPut]
  all_goals (generalize h[n]? = oo; rcases oo with _ | o <;> first | rfl | (cases o <;> rfl))
theorem put_D {kvs : List (Key × PV)} (hl : kvs.length < 16777216) : putk n (.str a) v h (some (.dct kvs)) = .ok () (h.set n (.dct (putP kvs (.inr a) v))) := if_pos hl
noncomputable def apk (n : Nat) (v : PV) (h : PH) (o : Option PO) : RV PV := match o with
  | some (.lst xs) => if xs.length < sizeLine then .ok .non (h.set n (.lst (xs ++ [v]))) else .no
  | _ => .no
theorem ap_R : pAppend (.ref n) [v] h = apk n v h (h[n]?) := by
  unfold apk
  simp only [pAppend]
  all_goals (generalize h[n]? = oo; rcases oo with _ | o <;> first | rfl | (cases o <;> rfl))
theorem ap_L (hl : xs.length < 16777216) : apk n v h (some (.lst xs)) = .ok .non (h.set n (.lst (xs ++ [v]))) := if_pos hl
theorem len_T : pLen [.tup xs] h = .ok (.int xs.length) h := (rfl)
theorem isN_N : pIsN false .non h = .ok (.bl true) h := (rfl)
theorem isN_I : pIsN false (.int i) h = .ok (.bl false) h := by simp [pIsN]
theorem isN_S : pIsN false (.str a) h = .ok (.bl false) h := by simp [pIsN]
theorem isN_B : pIsN false (.bl p) h = .ok (.bl false) h := by simp [pIsN]
theorem notN_N : pIsN true .non h = .ok (.bl false) h := (rfl)
theorem notN_I : pIsN true (.int i) h = .ok (.bl true) h := by simp [pIsN]
section
variable {c : CF} {e : PEnv} {d k1 k2 : ME} {rr : MA} {kvs : List (Key × PV)} {ff : PV → List PV → PH → RV PV}
noncomputable def g3k (a : Str) (z : PV) (h : PH) (o : Option PO) : RV PV := match o with
  | some (.dct kvs) => .ok ((valP kvs (.inr a)).getD z) h
  | _ => .no
noncomputable def gk3 (x y z : PV) (h3 : PH) : RV PV := match x, keyP y with
  | .ref n, some key => (match h3[n]? with
    | some (.dct kvs) => .ok ((valP kvs key).getD z) h3
    | _ => .no)
  | _, _ => .no
noncomputable def gk2 (b : ME) (c : CF) (e : PEnv) (x y : PV) (h2 : PH) : RV PV := (b c e h2).bind (gk3 x y)
noncomputable def gk1 (a b : ME) (c : CF) (e : PEnv) (x : PV) (h1 : PH) : RV PV := if isDct h1 x = true then (a c e h1).bind (gk2 b c e x) else .no
noncomputable def g1k (a b : ME) (c : CF) (e : PEnv) (n : Nat) (h : PH) (o : Option PO) : RV PV := match o with
  | some (.dct _) => (a c e h).bind (gk2 b c e (.ref n))
  | _ => .no
theorem ev_get : eGet2 d k1 k2 c e h = (d c e h).bind (gk1 k1 k2 c e) := (rfl)
theorem ev_get1 : gk1 k1 k2 c e (.ref n) h = g1k k1 k2 c e n h (h[n]?) := by
  unfold gk1 g1k isDct
  cases q : h[n]? with
  | none => simp [q]
  | some o => cases o <;> simp [q]
theorem ev_get1D : g1k k1 k2 c e n h (some (.dct kvs)) = (k1 c e h).bind (gk2 k2 c e (.ref n)) := (rfl)
theorem ev_get2 : gk2 k2 c e x y h = (k2 c e h).bind (gk3 x y) := (rfl)
theorem ev_get3 : gk3 (.ref n) (.str a) z h = g3k a z h (h[n]?) := by
  unfold gk3 g3k keyP
  simp only
theorem ev_get3D : g3k a z h (some (.dct kvs)) = .ok ((valP kvs (.inr a)).getD z) h := (rfl)
noncomputable def mlk (f : PV → List PV → PH → RV PV) (r : MA) (c : CF) (e : PEnv) (n : Nat) (h : PH) (o : Option PO) : RV PV := match o with
  | some (.lst _) => (r c e h).bind (f (.ref n))
  | _ => .no
theorem ev_ml : mtk ff isLst rr c e (.ref n) h = mlk ff rr c e n h (h[n]?) := by
  unfold mtk mlk isLst
  cases q : h[n]? with
  | none => simp [q]
  | some o => cases o <;> simp [q]
theorem ev_mlL : mlk ff rr c e n h (some (.lst xs)) = (rr c e h).bind (ff (.ref n)) := (rfl)
noncomputable def dctk (ys : List PV) (h : PH) (o : Option (List (Key × PV))) : RV PV := match o with
  | some kvs => if ys.length < sizeLine then .ok (.ref h.length) (h ++ [.dct (mergeP [] kvs)]) else .no
  | none => .no
theorem dict_T : pDict [.tup ys] h = dctk ys h (pairsP ys) := by
  unfold pDict dctk
  cases q : pairsP ys <;> simp [q]
theorem dict_S (hl : ys.length < 16777216) : dctk ys h (some kvs) = .ok (.ref h.length) (h ++ [.dct (mergeP [] kvs)]) := if_pos hl
theorem ev_dict0 : eDict0 c e h = .ok (.ref h.length) (h ++ [.dct []]) := (rfl)
end
noncomputable def tpk (h : PH) (o : Option PO) : RV PV := match o with
  | some (.lst xs) => .ok (.tup xs) h
  | some (.fro xs) => .ok (.tup xs) h
  | _ => .no
theorem tuple_R : pTuple [.ref n] h = tpk h (h[n]?) := by
  unfold tpk
  cases q : h[n]? with
  | none => simp [pTuple, lstOf, q]
  | some o => cases o <;> simp [pTuple, lstOf, q]
theorem tuple_RL : tpk h (some (.lst xs)) = .ok (.tup xs) h := (rfl)
noncomputable def lnk (h : PH) (o : Option PO) : RV PV := match o with
  | some (.lst xs) => .ok (.int xs.length) h
  | some (.fro xs) => .ok (.int xs.length) h
  | some (.dct kvs) => .ok (.int kvs.length) h
  | _ => .no
theorem len_R : pLen [.ref n] h = lnk h (h[n]?) := by
  unfold lnk
  cases q : h[n]? with
  | none => simp [pLen, itemsOf, lstOf, q]
  | some o => cases o <;> simp [pLen, itemsOf, lstOf, q]
theorem len_RL : lnk h (some (.lst xs)) = .ok (.int xs.length) h := (rfl)
theorem len_RF : lnk h (some (.fro xs)) = .ok (.int xs.length) h := (rfl)
theorem any_strs {a : Str} : ∀ {ss : List Str}, ((ss.map PV.str).any fun z => eqF z (.str a)) = decide (a ∈ ss)
  | [] => by simp
  | x :: t => by
    rw [List.map_cons, List.any_cons, any_strs]
    by_cases e : x = a
    · subst e; simp [eqF]
    · have e' : ¬ a = x := fun z => e z.symm
      simp [eqF, e, e']
theorem all_strs : ∀ {ss : List Str}, ((ss.map PV.str).all flatP) = true
  | [] => rfl
  | x :: t => by rw [List.map_cons, List.all_cons, all_strs]; rfl
theorem in_T {ss : List Str} : pIn (.str a) (.tup (ss.map PV.str)) h = .ok (.bl (decide (a ∈ ss))) h := by
  have : isIn (.str a) (.tup (ss.map PV.str)) h = some (decide (a ∈ ss)) := by
    unfold isIn
    simp only [itemsOf, all_strs, flatP, Bool.and_self, if_true, any_strs]
  unfold pIn; rw [this]
theorem notin_T {ss : List Str} : pNotIn (.str a) (.tup (ss.map PV.str)) h = .ok (.bl (!decide (a ∈ ss))) h := by
  have : isIn (.str a) (.tup (ss.map PV.str)) h = some (decide (a ∈ ss)) := by
    unfold isIn
    simp only [itemsOf, all_strs, flatP, Bool.and_self, if_true, any_strs]
  unfold pNotIn; rw [this]
section
variable {c : CF} {e : PEnv} {d : ME} {kvs : List (Key × PV)}
end
section
variable {c : CF} {e : PEnv} {d : ME} {l uu : MO}
noncomputable def slk2 (uu : MO) (c : CF) (e : PEnv) (x : PV) (lo : Option Int) (h : PH) : RV PV := (uu c e h).bind (pSl x lo)
noncomputable def slk1 (l uu : MO) (c : CF) (e : PEnv) (x : PV) (h : PH) : RV PV := (l c e h).bind (slk2 uu c e x)
theorem ev_sl : eSl d l uu c e h = (d c e h).bind (slk1 l uu c e) := (rfl)
theorem ev_sl1 : slk1 l uu c e x h = (l c e h).bind (slk2 uu c e x) := (rfl)
theorem ev_sl2 {lo : Option Int} : slk2 uu c e x lo h = (uu c e h).bind (pSl x lo) := (rfl)
theorem ev_oN : oNone c e h = .ok none h := (rfl)
noncomputable def osk (v : PV) (h1 : PH) : RV (Option Int) := match v with
  | .int i => .ok (some i) h1
  | _ => .no
theorem ev_oS : oSome d c e h = (d c e h).bind osk := (rfl)
theorem ev_oS1 : osk (.int i) h = .ok (some i) h := (rfl)
theorem sl_T {lo hi : Option Int} : pSl (.tup xs) lo hi h = .ok (.tup (cutP xs lo hi)) h := (rfl)
noncomputable def slR (lo hi : Option Int) (h : PH) (o : Option PO) : RV PV := match o with
  | some (.lst xs) => .ok (.ref h.length) (h ++ [.lst (cutP xs lo hi)])
  | some (.fro xs) => .ok (.ref h.length) (h ++ [.lst (cutP xs lo hi)])
  | _ => .no
theorem sl_R {lo hi : Option Int} : pSl (.ref n) lo hi h = slR lo hi h (h[n]?) := by
  unfold slR
  cases q : h[n]? with
  | none => simp [pSl, lstOf, q]
  | some o => cases o <;> simp [pSl, lstOf, q]
theorem sl_RL {lo hi : Option Int} : slR lo hi h (some (.lst xs)) = .ok (.ref h.length) (h ++ [.lst (cutP xs lo hi)]) := (rfl)
theorem cut_from {lo : Int} (h0 : 0 ≤ lo) : cutP xs (some lo) none = xs.drop lo.toNat := by
  have e : lo = ((lo.toNat : Nat) : Int) := by omega
  unfold cutP
  rw [e, HT.sIx_nat, HT.sIx_none]
  simp only [Int.toNat_natCast]
  rcases Nat.le_total lo.toNat xs.length with z | z
  · rw [Nat.min_eq_left z]; exact List.take_of_length_le (by rw [List.length_drop]; omega)
  · rw [Nat.min_eq_right z, List.drop_eq_nil_of_le (Nat.le_refl _), List.drop_eq_nil_of_le z]; simp
theorem cut_to {hi : Int} (h0 : 0 ≤ hi) : cutP xs none (some hi) = xs.take hi.toNat := by
  have e : hi = ((hi.toNat : Nat) : Int) := by omega
  unfold cutP
  rw [e, HT.sIx_nat, HT.sIx_none]
  simp only [Int.toNat_natCast, List.drop_zero, Nat.sub_zero]
  rcases Nat.le_total hi.toNat xs.length with z | z
  · rw [Nat.min_eq_left z]
  · rw [Nat.min_eq_right z, List.take_of_length_le (Nat.le_refl _), List.take_of_length_le z]
end
variable {o o' : PO} {g : PH} {k : Nat}
theorem hp_new : (h ++ (o :: g))[h.length]? = some o := by rw [List.getElem?_append_right (Nat.le_refl _)]; simp
theorem hp_newk : (h ++ g)[h.length + k]? = g[k]? := by rw [List.getElem?_append_right (by omega)]; congr 1; omega
theorem hp_old (hn : n < h.length) : (h ++ g)[n]? = h[n]? := List.getElem?_append_left hn
theorem hp_setnew : (h ++ g).set h.length o = h ++ g.set 0 o := by rw [List.set_append_right _ _ (Nat.le_refl _)]; simp
theorem hp_setnewk : (h ++ g).set (h.length + k) o = h ++ g.set k o := by rw [List.set_append_right _ _ (by omega)]; congr 2; omega
theorem hp_lt (e : h[n]? = some o) : n < h.length := (List.getElem?_eq_some_iff.mp e).1
end
end P3
end
section
open PySem PySem.W PyProof.Rows
namespace P3
open PySem L2
section
variable {h : PH} {i j : Int} {a b : Str} {x y z w u v : PV} {r xs ys : List PV} {p q : Bool} {n m : Nat}
theorem isi_Tt : pIsi [.tup xs, .ty "tuple"] h = .ok (.bl true) h := (rfl)
theorem isi_Tl : pIsi [.tup xs, .ty "list"] h = .ok (.bl false) h := (rfl)
theorem isi_T2 : pIsi [.tup xs, .tup [.ty "tuple", .ty "list"]] h = .ok (.bl true) h := (rfl)
theorem isi_Ib : pIsi [.int i, .ty "bool"] h = .ok (.bl false) h := (rfl)
theorem isi_Ii : pIsi [.int i, .ty "int"] h = .ok (.bl true) h := (rfl)
theorem isi_I2 : pIsi [.int i, .tup [.ty "tuple", .ty "list"]] h = .ok (.bl false) h := (rfl)
theorem isi_Sb : pIsi [.str a, .ty "bool"] h = .ok (.bl false) h := (rfl)
theorem isi_Si : pIsi [.str a, .ty "int"] h = .ok (.bl false) h := (rfl)
theorem isi_Ss : pIsi [.str a, .ty "str"] h = .ok (.bl true) h := (rfl)
theorem isi_S2 : pIsi [.str a, .tup [.ty "tuple", .ty "list"]] h = .ok (.bl false) h := (rfl)
theorem isi_Bb : pIsi [.bl p, .ty "bool"] h = .ok (.bl true) h := (rfl)
theorem isi_B2 : pIsi [.bl p, .tup [.ty "tuple", .ty "list"]] h = .ok (.bl false) h := (rfl)
theorem isi_Nt : pIsi [.non, .ty "tuple"] h = .ok (.bl false) h := (rfl)
theorem isi_N2 : pIsi [.non, .tup [.ty "tuple", .ty "list"]] h = .ok (.bl false) h := (rfl)
theorem bls_map : ∀ bs : List Bool, blsP (bs.map PV.bl) = some bs
  | [] => rfl
  | b :: r => by rw [List.map_cons, blsP, bls_map r]; rfl
theorem all_L {bs : List Bool} (e : h[n]? = some (.lst (bs.map PV.bl))) : pAll [.ref n] h = .ok (.bl (bs.all id)) h := by
  simp [pAll, pFold, lstOf, e, bls_map]
theorem at_0 : atI (x :: r) 0 = some x := by simp only [atI, ixN]; rw [if_pos (by decide), if_pos (by simp only [List.length_cons]; omega)]; rfl
theorem at_1 : atI (x :: y :: r) 1 = some y := by simp only [atI, ixN]; rw [if_pos (by decide), if_pos (by simp only [List.length_cons]; omega)]; rfl
theorem cut1 : cutP (x :: xs) (some 1) none = xs := by rw [P3.cut_from (by decide)]; rfl
end
section
variable {c : CF} {e : PEnv} {h h1 : PH} {a b : ME} {r : MP} {x y v : PV} {kvs : List (Key × PV)} {key : Key} {s : Str} {i : Int} {n : Nat}
noncomputable def dck (n : Nat) (kvs : List (Key × PV)) (h1 : PH) : RV PV := if h1[n]? = some (.dct []) ∧ kvs.length ≤ 15 then .ok (.ref n) (h1.set n (.dct (mergeP [] kvs))) else .no
noncomputable def dc3 (key : Key) (v : PV) (kvs : List (Key × PV)) (h3 : PH) : RV (List (Key × PV)) := .ok ((key, v) :: kvs) h3
noncomputable def dc2 (key : Key) (r : MP) (c : CF) (e : PEnv) (v : PV) (h2 : PH) : RV (List (Key × PV)) := (r c e h2).bind (dc3 key v)
noncomputable def dc1 (b : ME) (r : MP) (c : CF) (e : PEnv) (x : PV) (h1 : PH) : RV (List (Key × PV)) := match keyP x with
  | some key => (b c e h1).bind (dc2 key r c e)
  | none => .no
theorem ev_dict : eDict r c e h = (r c e (h ++ [.dct []])).bind (dck h.length) := (rfl)
theorem ev_dcN : dNil c e h = .ok [] h := (rfl)
theorem ev_dcC : dCons a b r c e h = (a c e h).bind (dc1 b r c e) := (rfl)
theorem ev_dc1S : dc1 b r c e (.str s) h = (b c e h).bind (dc2 (.inr s) r c e) := (rfl)
theorem ev_dc2 : dc2 key r c e v h = (r c e h).bind (dc3 key v) := (rfl)
theorem ev_dc3 : dc3 key v kvs h = .ok ((key, v) :: kvs) h := (rfl)
theorem ev_dck (h1 : h[n]? = some (.dct [])) (h2 : kvs.length ≤ 15) : dck n kvs h = .ok (.ref n) (h.set n (.dct (mergeP [] kvs))) := if_pos ⟨h1, h2⟩
theorem ev_dckN (h2 : kvs.length ≤ 15) : dck h.length kvs (h ++ [.dct []]) = .ok (.ref h.length) (h ++ [.dct (mergeP [] kvs)]) := by
  rw [ev_dck hp_new h2, hp_setnew]; rfl
end
end P3
end
section
open PySem PySem.W PyProof.Rows
namespace P3
open PySem PySem.Spec PyProof.Rows L2
section
variable {X : Cx} {pg : Tb} {k : Nat}
noncomputable def rUpdate : V → List V → Hp → VK → Prop := fun x vs H Q => ∃ l b kvs more, x = .ref l ∧ vs = [.ref b] ∧ l ≠ b ∧ H l = some (.dK kvs) ∧ H b = some (.dK more) ∧ kvs.length + more.length ≤ sizeLine ∧ Q .non (upd H l (.dK (mergeK kvs more)))
theorem mt_update : MtR X "dict.update" rUpdate := by
  intro pins s σ H x vs v us Q I rx rv h
  obtain ⟨l, b, kvs, more, rfl, rfl, hlb, hH, hB, hz, q⟩ := h
  cases rx
  obtain ⟨u, rfl, ru⟩ := vals1 rv
  cases (show u = Value.ref b from ru)
  obtain ⟨z1, n1, vs1, r1, d1⟩ := dk_of I.hok hH
  obtain ⟨z2, n2, vs2, r2, d2⟩ := dk_of I.hok hB
  refine call_meetsIn PySem.F.slot_dict_update d1.typeIs PySem.F.entry_dict_update (PySem.F.args_dict_update_2 _ _) (meets_dict_update (mixKind X.prog X.w) l b hlb n2) ⟨vs1, vs2, d1, d2, by rw [← r1.length, ← r2.length]; exact hz, fun h' d' _ sb => ?_⟩
  have ln := length_mergeK more kvs
  exact ⟨.non, _, d_write I (by rw [hH]; exact trivial) sb (let ⟨q, _, _, hq, _⟩ := d'; ⟨q, hq⟩) (dk_new (by omega) n1 (KV.merge r2 r1) d'), rfl, q⟩
noncomputable def isDctR : PV → PH → Bool := fun x h => match x with
  | .ref n => (match h[n]? with
    | some (.dct _) => true
    | _ => false)
  | _ => false
theorem isDctR_ty {ρ : List Addr} {h : PH} {H : Hp} {x : PV} {v : V} (s : Sim X.K ρ h H) (r : rel X.K ρ H x v) (e : isDctR x h = true) : tyV X.K "dict" v H := by
  cases x with
  | ref n =>
    simp only [isDctR] at e
    split at e
    · rename_i kvs en
      rw [rel] at r
      obtain ⟨a, ea, rfl⟩ := r
      obtain ⟨kws, e1, _⟩ := s.ob n _ a en ea
      exact .inr (.inr (.inl ⟨rfl, .inl ⟨kws, e1⟩⟩))
    · exact nomatch e
  | _ => exact nomatch e
noncomputable def pUpdate : PV → List PV → PH → RV PV := fun x vs h => match x, vs with
  | .ref n, [.ref m] => (match h[n]?, h[m]? with
    | some (.dct kvs), some (.dct more) => if n ≠ m ∧ kvs.length + more.length ≤ sizeLine then .ok .non (h.set n (.dct (mergeP kvs more))) else .no
    | _, _ => .no)
  | _, _ => .no
theorem m_update : Amb X pg k → ∃ r, MtR X "dict.update" r ∧ SMt X.K "dict" r pUpdate isDctR := fun A => ⟨_, mt_update, fun ρ h H x x' s r e => isDctR_ty s r e, fun ρ h H x x' xs us Q v h' s rx rs q P => by
  unfold pUpdate at q
  split at q
  · rename_i n m
    split at q
    · rename_i kvs more en em
      split at q
      · rename_i hl
        cases q
        rw [rel] at rx
        obtain ⟨a, ea, rfl⟩ := rx
        obtain ⟨kws, e1, e2⟩ := s.ob n _ a en ea
        obtain ⟨u, rfl, r⟩ := rels_one rs
        rw [rel] at r
        obtain ⟨b, eb, rfl⟩ := r
        obtain ⟨mws, d1, d2⟩ := s.ob m _ b em eb
        have hab : a ≠ b := fun e => hl.1 (s.nd n m a _ _ en em rfl rfl ea (e ▸ eb))
        have g : Gr ρ H ρ (upd H a (.dK (mergeK kws mws))) := Gr.write (.inr ⟨_, e1⟩)
        exact ⟨a, b, kws, mws, rfl, rfl, hab, e1, d1, by rw [← RK.len e2, ← RK.len d2]; exact hl.2, P _ ρ _ g (s.write en ea rfl rfl ⟨_, upd_same, RK.merge (Paired.rels_keys g d2) (Paired.rels_keys g e2)⟩) (by rw [rel])⟩
      · exact nomatch q
    · exact nomatch q
  · exact nomatch q⟩
end
section
variable {h : PH} {n m : Nat} {kvs more : List (Key × PV)}
theorem up_R (e1 : h[n]? = some (.dct kvs)) (e2 : h[m]? = some (.dct more)) (hn : n ≠ m) (hl : kvs.length + more.length ≤ 1000) : pUpdate (.ref n) [.ref m] h = .ok .non (h.set n (.dct (mergeP kvs more))) := by
  have z : kvs.length + more.length ≤ sizeLine := Nat.le_trans hl (by decide)
  simp only [pUpdate, e1, e2, if_pos (And.intro hn z)]
theorem isD_R (e1 : h[n]? = some (.dct kvs)) : isDctR (.ref n) h = true := by simp only [isDctR, e1]
end
section
variable {prog : Program} {w : World} {A : Around} {E : Value → Shared → Prop}
theorem isL_same {g g' : Heap} {l b : Addr} {us : Array Value} (h : g.IsList l us) (ne : l ≠ b) (sb : Heap.SameBut b g g') : g'.IsList l us :=
  let ⟨o, e1, e2, e3⟩ := h; ⟨o, (sb.2 l ne).trans e1, e2, e3⟩
theorem draw_lst {b l : Addr} {us : Array Value} (ne : l ≠ b) : ∀ (n i : Nat) (s : Shared) (R : List Value → Shared → Prop), s.heap.IsListIter b l i → s.heap.IsList l us → i + n ≤ us.size →
    (∀ g, g.IsListIter b l (i + n) → Heap.SameBut b s.heap g → R ((us.toList.drop i).take n) { s with heap := g }) → wpAny (model prog w) A (draw (.ref b) n) R E s := by
  intro n
  induction n with
  | zero => intro i s R h1 _ _ q; exact wpAny_pure (q s.heap h1 (Heap.SameBut.refl _ _))
  | succ n ih =>
    intro i s R h1 h2 hn q
    have hi : i < us.size := by omega
    unfold draw
    refine wpAny_bind (wpAny_pyNext_list_item h1 h2 (x := us[i]) (by simp [hi]) fun g g1 gs => ?_)
    refine wpAny_bind (wpAny_holding (ih (i + 1) _ _ g1 (isL_same h2 ne gs) (by omega) fun g' g1' gs' => wpAny_pure ?_))
    have e : us.toList.drop i = us[i] :: us.toList.drop (i + 1) := by rw [List.drop_eq_getElem_cons (by simpa using hi)]; simp
    have r := q g' (by have e2 : i + (n + 1) = i + 1 + n := by omega
                       rw [e2]; exact g1') (gs.trans gs')
    rw [e, List.take_succ_cons] at r
    exact r
theorem assign_lst {env : Env} {es : List Expr} {j : Nat} {pos : Pos} {l : Addr} {us : Array Value} {s : Shared} {R : Unit → Shared → Prop} (hh : A.handled = none) (hl : s.heap.IsList l us) (hn : (assignEach es env).length = us.size) (hst : (assignEach es env).findIdx? (·.1) = none)
    (q : ∀ g, (∀ b o, s.heap.get? b = some o → g.get? b = some o) → wpAny (model prog w) A (assignInOrder ((assignEach es env).map (·.2)) us.toList) R E { s with heap := g }) : wpAny (model prog w) A (assign (.Tuple es j pos) env (.ref l)) R E s := by
  have ne : l ≠ s.heap.objs.size := by obtain ⟨o, ho, _⟩ := hl; exact Nat.ne_of_lt (Heap.lt_size ho)
  rw [assign_Tuple]
  refine wpAny_bind (wpAny_standAt ?_)
  unfold unpack
  rw [hn, hst]
  refine wpAny_bind ?_; refine wpAny_holding ?_
  unfold unpackItems notIterableAtAll
  refine wpAny_bind (wpAny_bind (wpAny_specialOf hl.typeIs slot_list_iter.lookup (wpAny_pure ?_)))
  simp only [if_false, Bool.false_eq_true]
  refine wpAny_bind ?_; refine wpAny_holding (wpAny_pyIter_list hl ?_)
  have l1 : (s.heap.push { cls := .type "list_iterator", data := .fields #[.ref l, .int 0 0] }).IsList l us := let ⟨o, e1, e2, e3⟩ := hl; ⟨o, Heap.get?_push_of_some _ e1, e2, e3⟩
  refine wpAny_bind (wpAny_holding (draw_lst ne us.size 0 _ _ ⟨_, Heap.get?_push_size _ rfl, rfl, rfl⟩ l1 (by omega) fun g g1 gs => ?_))
  have al : (us.toList.drop 0).take us.size = us.toList := by rw [List.drop_zero, List.take_of_length_le (by simp)]
  rw [al, if_neg (by simp)]
  refine wpAny_bind (wpAny_holding (wpAny_pyNext_list_end hh g1 (isL_same l1 ne gs) (by simp) fun g' ge => ?_))
  simp only [if_false, Option.isSome_none, Bool.false_eq_true]
  refine wpAny_pure (q g' fun b o e => ?_)
  have hb : b ≠ s.heap.objs.size := Nat.ne_of_lt (Heap.lt_size e)
  exact ge b o hb ((gs.2 b hb).trans (Heap.get?_push_of_some _ e))
end
section
variable {X : Cx} {pg : Tb} {k : Nat} {pos : Pos} {es : List Expr} {gs : List PV → PEnv → PH → RV PEnv}
noncomputable def gTupW (K : PySem.W.Frag) (n : Nat) (t : TGs) : TG := fun v σ H Q => gTup K n t v σ H Q ∨ ∃ a xs, v = .ref a ∧ SqL K H a xs ∧ xs.length = n ∧ t xs σ H Q
theorem qg_tupW {j : Nat} {t : TGs} {n : Nat} (hc : X.calm = true) (h : QGs X es t) (hn : (assignEach es X.env).length = n := by rfl) (hst : (assignEach es X.env).findIdx? (·.1) = none := by rfl) : QG X (.Tuple es j pos) (gTupW X.K n t) := ⟨by
  intro pins s σ H v u Q I r hw
  rcases hw with hw | ⟨a, xs, e1, hq, hl, hw⟩
  · exact (qg_tup hc h hn hst).h pins s σ H v u Q I r hw
  · subst e1
    cases r
    obtain ⟨its, rv, pl, hz⟩ := I.list hq
    refine assign_lst (I.ok.hd hc) pl.isList (by simp [hn, ← hl, rv.length]) hst fun g kp => ?_
    have I1 : Inv X pins σ H { s with heap := g } := I.kept (t' := s.toks) kp
    exact h.h pins _ σ H xs _ Q I1 (by simpa using rv) hw⟩
noncomputable def gTW (n : Nat) (g : List PV → PEnv → PH → RV PEnv) : MG := fun v e h => match v with
  | .ref m => (match h[m]? with
    | some (.lst xs) => if xs.length = n then g xs e h else .no
    | _ => .no)
  | v => gT n g v e h
theorem jg_tupW {j : Nat} {n : Nat} (h : JGs X pg k es gs) (hn : (assignEach es X.env).length = n := by rfl) (hst : (assignEach es X.env).findIdx? (·.1) = none := by rfl) : JG X pg k (.Tuple es j pos) (gTW n gs) := ⟨fun A =>
  let ⟨_, q1, s1⟩ := h.h A; ⟨_, qg_tupW A.calm q1 hn hst, fun ρ h H e σ Q v v' e' h' s r rv q P => by
  unfold gTW at q
  split at q
  · rename_i m
    split at q
    · rename_i xs em
      split at q
      · rename_i hl
        obtain ⟨a, vs, rfl, ea, e1, rr⟩ := s.lst em rv
        exact .inr ⟨a, vs, rfl, .of e1, by rw [← rr.len]; exact hl, s1 ρ h H e σ Q xs vs e' h' s r rr q P⟩
      · exact nomatch q
    · exact nomatch q
  · unfold gT at q
    split at q
    · rename_i xs ex
      obtain ⟨a, vs, rfl, z, rr⟩ := rel.seq ex rv
      split at q
      · rename_i hl
        exact .inl ⟨a, vs, rfl, z, by rw [← rr.len]; exact hl, s1 ρ h H e σ Q xs vs e' h' s r rr q P⟩
      · exact nomatch q
    · exact nomatch q⟩⟩
end
section
variable {n m : Nat} {e : PEnv} {h : PH} {v : PV} {xs : List PV} {gs : List PV → PEnv → PH → RV PEnv}
noncomputable def gwk (n : Nat) (gs : List PV → PEnv → PH → RV PEnv) (e : PEnv) (h : PH) : Option PO → RV PEnv
  | some (.lst xs) => if xs.length = n then gs xs e h else .no
  | _ => .no
theorem ev_asgW : asgk (gTW n gs) e v h = (gTW n gs v e h).bind envk := (rfl)
theorem ev_gWR : gTW n gs (.ref m) e h = gwk n gs e h (h[m]?) := by
  unfold gTW gwk
  first
    | rfl
    | (simp only; done)
    | (cases h[m]? with
       | none => rfl
       | some o => cases o <;> rfl)
theorem ev_gWL2 {x y : PV} : gwk 2 gs e h (some (.lst [x, y])) = gs [x, y] e h := (rfl)
end
end P3
end
section
open PySem PySem.W PyProof.Rows
namespace P3
open PySem PySem.Spec PyProof.Rows L2
section
variable {α : Type} {p : List α → Prop}
theorem us0 (h : p []) : ∀ us : List α, us.length = 0 → p us := fun us e => by rw [List.length_eq_zero_iff.mp e]; exact h
theorem usS {n : Nat} (h : ∀ a : α, ∀ us : List α, us.length = n → p (a :: us)) : ∀ us : List α, us.length = n + 1 → p us := fun us e => by
  cases us with
  | nil => simp at e
  | cons a r => exact h a r (by simpa using e)
theorem us1 (h : ∀ a, p [a]) : ∀ us : List α, us.length = 1 → p us := usS fun a => us0 (h a)
theorem us2 (h : ∀ a b, p [a, b]) : ∀ us : List α, us.length = 2 → p us := usS fun a => us1 (h a)
theorem us3 (h : ∀ a b c, p [a, b, c]) : ∀ us : List α, us.length = 3 → p us := usS fun a => us2 (h a)
theorem us4 (h : ∀ a b c d, p [a, b, c, d]) : ∀ us : List α, us.length = 4 → p us := usS fun a => us3 (h a)
end
section
variable {X : Cx} {pg : Tb} {k : Nat} {e iter : Expr} {ma : ME} {mt : MT} {mI : MI} {scope : Scope} {ifs : List Expr} {pos spos py vp wp tp : Pos} {y v w : Str} {i j m n : Nat}
theorem GC.of {K : PySem.W.Frag} (h : Nat.ble n i = true) : GC K n (gName i) (gN i) := gc_name (Nat.le_of_ble_eq_true h)
theorem je_lc1 (hi : JI X pg k (.Name v vp) iter mI)
    (hb : ∀ cl C s₀ H₀ ex pn, (Amb X pg k → QG (blk X [v] scope cl C s₀ H₀ ex pn) (.Name v vp) (gName m)) ∧ JF (blk X [v] scope cl C s₀ H₀ ex pn) pg k ifs mt ∧ JE (blk X [v] scope cl C s₀ H₀ ex pn) pg k e ma)
    (hm : Nat.ble X.N.length m = true := by rfl) (hkind : scope.kind = .function := by rfl) (hlc : lcOk scope.names X.env.scope.names X.N [v] = true := by rfl) (hs : ∀ x, foldedSetIterable iter X.env x = pure x := by intro _; rfl) :
    JE X pg k (.ListComp e [⟨.Name v vp, iter, ifs, 0⟩] scope pos) (eLC 1 mI (gN m) mt ma) := je_lcomp [v] hkind hlc hi hb (GC.of hm) hs
theorem je_lc2 (hi : JI X pg k (.Tuple [.Name v vp, .Name w wp] j tp) iter mI)
    (hb : ∀ cl C s₀ H₀ ex pn, (Amb X pg k → QG (blk X [v, w] scope cl C s₀ H₀ ex pn) (.Tuple [.Name v vp, .Name w wp] j tp) (gTup X.K 2 (gCons (gName m) (gCons (gName n) gNil)))) ∧ JF (blk X [v, w] scope cl C s₀ H₀ ex pn) pg k ifs mt ∧ JE (blk X [v, w] scope cl C s₀ H₀ ex pn) pg k e ma)
    (hm : Nat.ble X.N.length m = true := by rfl) (hn : Nat.ble X.N.length n = true := by rfl) (hkind : scope.kind = .function := by rfl) (hlc : lcOk scope.names X.env.scope.names X.N [v, w] = true := by rfl) (hs : ∀ x, foldedSetIterable iter X.env x = pure x := by intro _; rfl) :
    JE X pg k (.ListComp e [⟨.Tuple [.Name v vp, .Name w wp] j tp, iter, ifs, 0⟩] scope pos) (eLC 2 mI (gT 2 (gsCons (gN m) (gsCons (gN n) gsNil))) mt ma) := je_lcomp [v, w] hkind hlc hi hb (gc_tup (gcs_cons (GC.of hm) (gcs_cons (GC.of hn) gcs_nil))) hs
theorem js_lc1 (hN : X.N.Nodup) (hi : JI X pg k (.Name v vp) iter mI)
    (hb : ∀ cl C s₀ H₀ ex pn, (Amb X pg k → QG (blk X [v] scope cl C s₀ H₀ ex pn) (.Name v vp) (gName m)) ∧ JF (blk X [v] scope cl C s₀ H₀ ex pn) pg k ifs mt ∧ JE (blk X [v] scope cl C s₀ H₀ ex pn) pg k e ma)
    (hm : Nat.ble X.N.length m = true := by rfl) (hiy : X.N[i]? = some y := by rfl) (hy : Loc X.env.scope y := by first | exact Or.inl rfl | exact Or.inr rfl) (hkind : scope.kind = .function := by rfl) (hlc : lcOk scope.names X.env.scope.names X.N [v] = true := by rfl)
    (hsw : swapsWith (.ListComp e [⟨.Name v vp, iter, ifs, 0⟩] scope pos) (some (.Name y py)) spos.line X.env = pure true := by rfl) (hs : ∀ x, foldedSetIterable iter X.env x = pure x := by intro _; rfl)
    (hf : X.fn y = true ∨ X.env.scope.names.lookup y = some .local := by first | exact .inl rfl | exact .inr rfl | assumption) :
    JS X pg k (.Assign [.Name y py] (.ListComp e [⟨.Name v vp, iter, ifs, 0⟩] scope pos) spos) (sAsg (eLC 1 mI (gN m) mt ma) (gN i)) := js_lcomp [v] i hkind hlc hN hiy hy hi hb (GC.of hm) hsw hs hf
theorem js_lc2 (hN : X.N.Nodup) (hi : JI X pg k (.Tuple [.Name v vp, .Name w wp] j tp) iter mI)
    (hb : ∀ cl C s₀ H₀ ex pn, (Amb X pg k → QG (blk X [v, w] scope cl C s₀ H₀ ex pn) (.Tuple [.Name v vp, .Name w wp] j tp) (gTup X.K 2 (gCons (gName m) (gCons (gName n) gNil)))) ∧ JF (blk X [v, w] scope cl C s₀ H₀ ex pn) pg k ifs mt ∧ JE (blk X [v, w] scope cl C s₀ H₀ ex pn) pg k e ma)
    (hm : Nat.ble X.N.length m = true := by rfl) (hn : Nat.ble X.N.length n = true := by rfl) (hiy : X.N[i]? = some y := by rfl) (hy : Loc X.env.scope y := by first | exact Or.inl rfl | exact Or.inr rfl) (hkind : scope.kind = .function := by rfl) (hlc : lcOk scope.names X.env.scope.names X.N [v, w] = true := by rfl)
    (hsw : swapsWith (.ListComp e [⟨.Tuple [.Name v vp, .Name w wp] j tp, iter, ifs, 0⟩] scope pos) (some (.Name y py)) spos.line X.env = pure true := by rfl) (hs : ∀ x, foldedSetIterable iter X.env x = pure x := by intro _; rfl)
    (hf : X.fn y = true ∨ X.env.scope.names.lookup y = some .local := by first | exact .inl rfl | exact .inr rfl | assumption) :
    JS X pg k (.Assign [.Name y py] (.ListComp e [⟨.Tuple [.Name v vp, .Name w wp] j tp, iter, ifs, 0⟩] scope pos) spos) (sAsg (eLC 2 mI (gT 2 (gsCons (gN m) (gsCons (gN n) gsNil))) mt ma) (gN i)) := js_lcomp [v, w] i hkind hlc hN hiy hy hi hb (gc_tup (gcs_cons (GC.of hm) (gcs_cons (GC.of hn) gcs_nil))) hsw hs hf
end
end P3
end
section
open PySem PySem.W PyProof.Rows
namespace L2
open PySem PySem.Spec PyProof.Rows
section
variable {X : Cx}
end
end L2
namespace P3
open PySem PySem.Spec PyProof.Rows L2
section
variable {X : Cx} {pg : Tb} {k : Nat}
end
section
variable {h : PH} {n : Nat} {ss : List Str} {a : Str} {y : PV} {r : List PV}
end
section
variable {X : Cx} {pg : Tb} {k i : Nat} {e : Expr} {x : Str} {ma : ME} {pos pos' : Pos}
end
end P3
end
section
open PySem PySem.W PyProof.Rows
set_option maxHeartbeats 5000000
namespace K07
open PySem L2 P3 PyProof.Rows
noncomputable def top (i : Nat) : Stmt := PySem.Challenge.pw_leastrecord_k07_own_rows.main.body.getD i (.Pass ⟨0, 0, 0, 0⟩)
noncomputable def b_worth : MS :=
    (sSeq (sAsg (eOp pIx (eVar 0) (eC (.int 0))) (gN 2))
    (sSeq (sIf (mVal (eOp pEq (eVar 2) (eC (.str "num")))) (sRet (eOp pIx (eVar 0) (eC (.int 1)))) sNx)
    (sSeq (sIf (mVal (eOp pEq (eVar 2) (eC (.str "of")))) (sRet (eGet2 (eB pDict (aCons (eVar 1) aNil)) (eOp pIx (eVar 0) (eC (.int 1))) (eC (.int 0)))) sNx)
    (sSeq (sAsg (eCall "worth" (aCons (eOp pIx (eVar 0) (eC (.int 1))) (aCons (eVar 1) aNil))) (gN 3))
    (sSeq (sIf (mVal (eOp pEq (eVar 2) (eC (.str "not")))) (sRet (eIf (mVal (eOp pEq (eVar 3) (eC (.int 0)))) (eC (.int 1)) (eC (.int 0)))) sNx)
    (sRet (eCall "joined_worth" (aCons (eVar 2) (aCons (eVar 3) (aCons (eCall "worth" (aCons (eOp pIx (eVar 0) (eC (.int 2))) (aCons (eVar 1) aNil))) aNil))))))))))
noncomputable def d_worth : Df := ⟨["tree", "pockets"], 2, b_worth⟩
noncomputable def b_joined_worth : MS :=
    (sSeq (sIf (mVal (eOp pEq (eVar 0) (eC (.str "add")))) (sRet (eOp pMod (eOp pAdd (eVar 1) (eVar 2)) (eC (.int 1000)))) sNx)
    (sSeq (sIf (mVal (eOp pEq (eVar 0) (eC (.str "sub")))) (sRet (eOp pMod (eOp pSub (eVar 1) (eVar 2)) (eC (.int 1000)))) sNx)
    (sSeq (sIf (mVal (eOp pEq (eVar 0) (eC (.str "mul")))) (sRet (eOp pMod (eOp pMulW (eVar 1) (eVar 2)) (eC (.int 1000)))) sNx)
    (sSeq (sIf (mVal (eOp pEq (eVar 0) (eC (.str "less")))) (sRet (eIf (mVal (eOp pLt (eVar 1) (eVar 2))) (eC (.int 1)) (eC (.int 0)))) sNx)
    (sRet (eIf (mVal (eOp pEq (eVar 1) (eVar 2))) (eC (.int 1)) (eC (.int 0))))))))
noncomputable def d_joined_worth : Df := ⟨["word", "one", "other"], 0, b_joined_worth⟩
noncomputable def b_rows_of : MS :=
    (sRet (eOp pIx (eOp pIx (eOp pIx (eVar 0) (eC (.int 4))) (eVar 1)) (eC (.int 1))))
noncomputable def d_rows_of : Df := ⟨["program", "hand"], 0, b_rows_of⟩
noncomputable def b_first_seat : MS :=
    (sRet (eCall "rested" (aCons (eVar 0) (aCons (eVar 1) (aCons (eTup (aCons (eC (.int 0)) (aCons (eTup aNil) (aCons (eTup aNil) aNil)))) aNil)))))
noncomputable def d_first_seat : Df := ⟨["program", "hand"], 0, b_first_seat⟩
noncomputable def b_rested : MS :=
    (sSeq (sAsg (eCall "rows_of" (aCons (eVar 0) (aCons (eVar 1) aNil))) (gN 3))
    (sSeq (sAsg (eVar 2) (gN 4))
    (sSeq (sFor (iRange1 (aCons (eC (.int 200)) aNil)) (gN 5) (sSeq (sIf (mVal (eCall "is_rested" (aCons (eVar 3) (aCons (eVar 4) aNil)))) (sRet (eVar 4)) sNx)
    (sAsg (eCall "behind_own_row" (aCons (eOp pIx (eVar 3) (eOp pIx (eVar 4) (eC (.int 0)))) (aCons (eVar 4) aNil))) (gN 4))))
    (sSeq (sIf (mVal (eCall "is_rested" (aCons (eVar 3) (aCons (eVar 4) aNil)))) (sRet (eVar 4)) sNx)
    (sRet (eTup (aCons (eB pLen (aCons (eVar 3) aNil)) (aCons (eOp pIx (eVar 4) (eC (.int 1))) (aCons (eOp pIx (eVar 4) (eC (.int 2))) aNil)))))))))
noncomputable def d_rested : Df := ⟨["program", "hand", "seat"], 3, b_rested⟩
noncomputable def b_is_rested : MS :=
    (sRet (eOr (eOp pEq (eOp pIx (eVar 1) (eC (.int 0))) (eB pLen (aCons (eVar 0) aNil))) (eNot (eCall "is_own_row" (aCons (eOp pIx (eVar 0) (eOp pIx (eVar 1) (eC (.int 0)))) (aCons (eOp pIx (eVar 1) (eC (.int 2))) aNil))))))
noncomputable def d_is_rested : Df := ⟨["rows", "seat"], 0, b_is_rested⟩
noncomputable def b_is_own_row : MS :=
    (sSeq (sIf (mVal (eOp pEq (eOp pIx (eVar 0) (eC (.int 0))) (eC (.str "take")))) (sRet (eOp pIn (eOp pIx (eVar 0) (eC (.int 1))) (eVar 1))) sNx)
    (sSeq (sIf (mVal (eOp pEq (eOp pIx (eVar 0) (eC (.int 0))) (eC (.str "free")))) (sRet (eOp pNotIn (eOp pIx (eVar 0) (eC (.int 1))) (eVar 1))) sNx)
    (sRet (eOr (eOp pEq (eOp pIx (eVar 0) (eC (.int 0))) (eC (.str "let"))) (eOp pEq (eOp pIx (eVar 0) (eC (.int 0))) (eC (.str "leap")))))))
noncomputable def d_is_own_row : Df := ⟨["row", "held"], 0, b_is_own_row⟩
noncomputable def b_behind_own_row : MS :=
    (sSeq (sAsg (eOp pAdd (eOp pIx (eVar 1) (eC (.int 0))) (eC (.int 1))) (gN 2))
    (sSeq (sIf (mVal (eOp pEq (eOp pIx (eVar 0) (eC (.int 0))) (eC (.str "let")))) (sRet (eTup (aCons (eVar 2) (aCons (eCall "laid" (aCons (eOp pIx (eVar 1) (eC (.int 1))) (aCons (eOp pIx (eVar 0) (eC (.int 1))) (aCons (eCall "worth" (aCons (eOp pIx (eVar 0) (eC (.int 2))) (aCons (eOp pIx (eVar 1) (eC (.int 1))) aNil))) aNil)))) (aCons (eOp pIx (eVar 1) (eC (.int 2))) aNil))))) sNx)
    (sSeq (sIf (mAnd (mVal (eOp pEq (eOp pIx (eVar 0) (eC (.int 0))) (eC (.str "leap")))) (mVal (eOp pNe (eCall "worth" (aCons (eOp pIx (eVar 0) (eC (.int 2))) (aCons (eOp pIx (eVar 1) (eC (.int 1))) aNil))) (eC (.int 0))))) (sRet (eTup (aCons (eOp pIx (eVar 0) (eC (.int 1))) (aCons (eOp pIx (eVar 1) (eC (.int 1))) (aCons (eOp pIx (eVar 1) (eC (.int 2))) aNil))))) sNx)
    (sRet (eTup (aCons (eVar 2) (aCons (eOp pIx (eVar 1) (eC (.int 1))) (aCons (eOp pIx (eVar 1) (eC (.int 2))) aNil))))))))
noncomputable def d_behind_own_row : Df := ⟨["row", "seat"], 1, b_behind_own_row⟩
noncomputable def b_laid : MS :=
    (sSeq (sAsg (eLC 1 (iIn (eVar 0)) (gN 4) (mVal (eOp pNe (eOp pIx (eVar 4) (eC (.int 0))) (eVar 1))) (eVar 4)) (gN 3))
    (sSeq (sIf (mVal (eOp pNe (eVar 2) (eC (.int 0)))) (sDrop (eM pAppend isLst (eVar 3) (aCons (eTup (aCons (eVar 1) (aCons (eVar 2) aNil))) aNil))) sNx)
    (sRet (eB pTuple (aCons (eB pSortedW (aCons (eVar 3) aNil)) aNil)))))
noncomputable def d_laid : Df := ⟨["pockets", "name", "value"], 1, b_laid⟩
noncomputable def b__law_draw : MS :=
    (sSeq (sAsg (eIf (mVal (eOp pGt (eB pLen (aCons (eVar 0) aNil)) (eC (.int 0)))) (eOp pIx (eVar 0) (eOp pMod (eVar 1) (eB pLen (aCons (eVar 0) aNil)))) (eC (.int 0))) (gN 3))
    (sSeq (sAsg (eVar 3) (gN 4))
    (sSeq (sIf (mVal (eOp pGe (eVar 3) (eOp pPow (eC (.int 10)) (eC (.int 18))))) (sSeq (sFor (iRange1 (aCons (eOp pMod (eOp pFdiv (eVar 1) (eB pLen (aCons (eVar 0) aNil))) (eC (.int 60))) aNil)) (gN 5) (sAsg (eOp pFdiv (eVar 4) (eC (.int 1000003))) (gN 4)))
    (sIf (mVal (eOp pGt (eVar 4) (eC (.int 0)))) (sRet (eOp pMod (eOp pMod (eOp pFdiv (eVar 4) (eC (.int 2))) (eC (.int 500009))) (eVar 2))) sNx)) sNx)
    (sSeq (sAsg (eOp pAdd (eOp pAdd (eOp pMod (eVar 3) (eC (.int 1000003))) (eOp pMulW (eOp pMulW (eC (.int 31)) (eVar 1)) (eVar 1))) (eC (.int 1))) (gN 6))
    (sRet (eOp pMod (eOp pMod (eOp pMulW (eOp pMod (eOp pMulW (eVar 6) (eC (.int 48271))) (eC (.int 999983))) (eC (.int 7919))) (eC (.int 524287))) (eVar 2)))))))
noncomputable def d__law_draw : Df := ⟨["_law_script", "_law_k", "_law_many"], 4, b__law_draw⟩
noncomputable def b__law_pick : MS :=
    (sSeq (sPut pPut (eVar 0) (eC (.str "k")) (eOp pAdd (eOp pIx (eVar 0) (eC (.str "k"))) (eC (.int 1))))
    (sRet (eCall "_law_draw" (aCons (eOp pIx (eVar 0) (eC (.str "script"))) (aCons (eOp pIx (eVar 0) (eC (.str "k"))) (aCons (eVar 1) aNil))))))
noncomputable def d__law_pick : Df := ⟨["_law_state", "_law_many"], 0, b__law_pick⟩
noncomputable def b__law_names : MS :=
    (sSeq (sAsg (eLst (aCons (eC (.str "a")) (aCons (eC (.str "ab")) (aCons (eC (.str "abc")) (aCons (eC (.str "lets")) (aCons (eC (.str "leaper")) (aCons (eC (.str "getit")) (aCons (eC (.str "puts")) (aCons (eC (.str "taken")) (aCons (eC (.str "freed")) (aCons (eC (.str "sender")) (aCons (eC (.str "fetched")) (aCons (eC (.str "says")) aNil))))))))))))) (gN 1))
    (sSeq (sAsg (eOp pAdd (eVar 1) (eLst (aCons (eC (.str "clocks")) (aCons (eC (.str "lots")) (aCons (eC (.str "hearth")) (aCons (eC (.str "added")) (aCons (eC (.str "subway")) (aCons (eC (.str "mulled")) (aCons (eC (.str "lesser")) (aCons (eC (.str "samey")) (aCons (eC (.str "nothing")) aNil))))))))))) (gN 1))
    (sSeq (sAsg (eOp pAdd (eVar 1) (eLst (aCons (eC (.str "boxes")) (aCons (eC (.str "locker")) (aCons (eC (.str "lanes")) (aCons (eC (.str "doors")) (aCons (eC (.str "hands")) (aCons (eC (.str "b")) (aCons (eC (.str "zzzzzzzz")) (aCons (eC (.str "of")) (aCons (eC (.str "num")) aNil))))))))))) (gN 1))
    (sSeq (sAsg (eCall "_law_pick" (aCons (eVar 0) (aCons (eB pLen (aCons (eVar 1) aNil)) aNil))) (gN 2))
    (sRet (eOp pAdd (eSl (eVar 1) (oSome (eVar 2)) oNone) (eSl (eVar 1) oNone (oSome (eVar 2)))))))))
noncomputable def d__law_names : Df := ⟨["_law_state"], 2, b__law_names⟩
noncomputable def b__law_sum_in : MS :=
    (sSeq (sAsg (eCall "_law_pick" (aCons (eVar 0) (aCons (eC (.int 9)) aNil))) (gN 3))
    (sSeq (sIf (mAnd (mVal (eOp pLt (eVar 2) (eC (.int 5)))) (mAnd (mVal (eOp pGt (eVar 3) (eC (.int 2)))) (mVal (eOp pGt (eOp pIx (eVar 0) (eC (.str "left"))) (eC (.int 1)))))) (sSeq (sPut pPut (eVar 0) (eC (.str "left")) (eOp pSub (eOp pIx (eVar 0) (eC (.str "left"))) (eC (.int 2))))
    (sSeq (sAsg (eOp pIx (eLst (aCons (eC (.str "add")) (aCons (eC (.str "sub")) (aCons (eC (.str "mul")) (aCons (eC (.str "less")) (aCons (eC (.str "same")) aNil)))))) (eCall "_law_pick" (aCons (eVar 0) (aCons (eC (.int 5)) aNil)))) (gN 4))
    (sSeq (sAsg (eCall "_law_sum_in" (aCons (eVar 0) (aCons (eVar 1) (aCons (eOp pAdd (eVar 2) (eC (.int 1))) aNil)))) (gN 5))
    (sRet (eTup (aCons (eVar 4) (aCons (eVar 5) (aCons (eCall "_law_sum_in" (aCons (eVar 0) (aCons (eVar 1) (aCons (eOp pAdd (eVar 2) (eC (.int 1))) aNil)))) aNil)))))))) sNx)
    (sSeq (sIf (mAnd (mVal (eOp pLt (eVar 2) (eC (.int 5)))) (mAnd (mVal (eOp pEq (eVar 3) (eC (.int 2)))) (mVal (eOp pGt (eOp pIx (eVar 0) (eC (.str "left"))) (eC (.int 0)))))) (sSeq (sPut pPut (eVar 0) (eC (.str "left")) (eOp pSub (eOp pIx (eVar 0) (eC (.str "left"))) (eC (.int 1))))
    (sRet (eTup (aCons (eC (.str "not")) (aCons (eCall "_law_sum_in" (aCons (eVar 0) (aCons (eVar 1) (aCons (eOp pAdd (eVar 2) (eC (.int 1))) aNil)))) aNil))))) sNx)
    (sSeq (sIf (mVal (eOp pEq (eOp pMod (eVar 3) (eC (.int 2))) (eC (.int 0)))) (sRet (eTup (aCons (eC (.str "num")) (aCons (eOp pIx (eLst (aCons (eC (.int 0)) (aCons (eC (.int 1)) (aCons (eC (.int 2)) (aCons (eC (.int 999)) (aCons (eCall "_law_pick" (aCons (eVar 0) (aCons (eC (.int 1000)) aNil))) aNil)))))) (eCall "_law_pick" (aCons (eVar 0) (aCons (eC (.int 5)) aNil)))) aNil)))) sNx)
    (sRet (eTup (aCons (eC (.str "of")) (aCons (eOp pIx (eVar 1) (eCall "_law_pick" (aCons (eVar 0) (aCons (eB pLen (aCons (eVar 1) aNil)) aNil)))) aNil))))))))
noncomputable def d__law_sum_in : Df := ⟨["_law_state", "_law_pockets", "_law_deep"], 3, b__law_sum_in⟩
noncomputable def b__law_sum : MS :=
    (sSeq (sPut pPut (eVar 0) (eC (.str "left")) (eOp pIx (eLst (aCons (eC (.int 0)) (aCons (eC (.int 2)) (aCons (eC (.int 5)) (aCons (eC (.int 11)) aNil))))) (eCall "_law_pick" (aCons (eVar 0) (aCons (eC (.int 4)) aNil)))))
    (sRet (eCall "_law_sum_in" (aCons (eVar 0) (aCons (eVar 1) (aCons (eC (.int 1)) aNil))))))
noncomputable def d__law_sum : Df := ⟨["_law_state", "_law_pockets"], 0, b__law_sum⟩
noncomputable def b__law_row : MS :=
    (sSeq (sAsg (eLst (aCons (eC (.str "let")) (aCons (eC (.str "let")) (aCons (eC (.str "leap")) (aCons (eC (.str "clock")) (aCons (eC (.str "lot")) aNil)))))) (gN 4))
    (sSeq (sFor (iIn (eLst (aCons (eTup (aCons (eC (.str "box")) (aCons (eLst (aCons (eC (.str "get")) (aCons (eC (.str "put")) aNil))) aNil))) (aCons (eTup (aCons (eC (.str "lock")) (aCons (eLst (aCons (eC (.str "take")) (aCons (eC (.str "free")) aNil))) aNil))) (aCons (eTup (aCons (eC (.str "lane")) (aCons (eLst (aCons (eC (.str "send")) (aCons (eC (.str "fetch")) aNil))) aNil))) aNil))))) (gT 2 (gsCons (gN 5) (gsCons (gN 6) gsNil))) (sIf (mVal (eOp pNe (eOp pIx (eVar 1) (eVar 5)) (eLst aNil))) (sAsg (eOp pAdd (eOp pAdd (eVar 4) (eVar 6)) (eVar 6)) (gN 4)) sNx))
    (sSeq (sIf (mVal (eOp pNe (eOp pIx (eVar 1) (eC (.str "door"))) (eLst aNil))) (sAsg (eOp pAdd (eVar 4) (eLst (aCons (eC (.str "say")) (aCons (eC (.str "hear")) (aCons (eC (.str "say")) aNil))))) (gN 4)) sNx)
    (sSeq (sAsg (eOp pIx (eVar 4) (eCall "_law_pick" (aCons (eVar 0) (aCons (eB pLen (aCons (eVar 4) aNil)) aNil)))) (gN 7))
    (sSeq (sAsg (eOp pIx (eVar 2) (eCall "_law_pick" (aCons (eVar 0) (aCons (eB pLen (aCons (eVar 2) aNil)) aNil)))) (gN 8))
    (sSeq (sAsg (eDict (dCons (eC (.str "get")) (eC (.str "box")) (dCons (eC (.str "put")) (eC (.str "box")) (dCons (eC (.str "take")) (eC (.str "lock")) (dCons (eC (.str "free")) (eC (.str "lock")) (dCons (eC (.str "send")) (eC (.str "lane")) (dCons (eC (.str "fetch")) (eC (.str "lane")) dNil))))))) (gN 9))
    (sSeq (sDrop (eM pUpdate isDctR (eVar 9) (aCons (eDict (dCons (eC (.str "say")) (eC (.str "door")) (dCons (eC (.str "hear")) (eC (.str "door")) dNil))) aNil)))
    (sSeq (sIf (mVal (eOp pEq (eVar 7) (eC (.str "let")))) (sRet (eTup (aCons (eC (.str "let")) (aCons (eVar 8) (aCons (eCall "_law_sum" (aCons (eVar 0) (aCons (eVar 2) aNil))) aNil))))) sNx)
    (sSeq (sIf (mVal (eOp pEq (eVar 7) (eC (.str "leap")))) (sRet (eTup (aCons (eC (.str "leap")) (aCons (eCall "_law_pick" (aCons (eVar 0) (aCons (eOp pAdd (eVar 3) (eC (.int 1))) aNil))) (aCons (eCall "_law_sum" (aCons (eVar 0) (aCons (eVar 2) aNil))) aNil))))) sNx)
    (sSeq (sIf (mVal (eOp pEq (eVar 7) (eC (.str "clock")))) (sRet (eTup (aCons (eC (.str "clock")) (aCons (eVar 8) aNil)))) sNx)
    (sSeq (sIf (mVal (eOp pEq (eVar 7) (eC (.str "lot")))) (sRet (eTup (aCons (eC (.str "lot")) (aCons (eVar 8) (aCons (eOp pIx (eLst (aCons (eC (.int 2)) (aCons (eC (.int 3)) (aCons (eC (.int 1000)) (aCons (eOp pAdd (eC (.int 2)) (eCall "_law_pick" (aCons (eVar 0) (aCons (eC (.int 999)) aNil)))) aNil))))) (eCall "_law_pick" (aCons (eVar 0) (aCons (eC (.int 4)) aNil)))) aNil))))) sNx)
    (sSeq (sAsg (eOp pIx (eVar 1) (eOp pIx (eVar 9) (eVar 7))) (gN 6))
    (sSeq (sAsg (eOp pIx (eVar 6) (eCall "_law_pick" (aCons (eVar 0) (aCons (eB pLen (aCons (eVar 6) aNil)) aNil)))) (gN 10))
    (sSeq (sIf (mVal (eOp pIn (eVar 7) (eTup (aCons (eC (.str "take")) (aCons (eC (.str "free")) aNil))))) (sRet (eTup (aCons (eVar 7) (aCons (eVar 10) aNil)))) sNx)
    (sSeq (sIf (mVal (eOp pIn (eVar 7) (eTup (aCons (eC (.str "get")) (aCons (eC (.str "fetch")) (aCons (eC (.str "hear")) aNil)))))) (sRet (eTup (aCons (eVar 7) (aCons (eVar 8) (aCons (eVar 10) aNil))))) sNx)
    (sRet (eTup (aCons (eVar 7) (aCons (eVar 10) (aCons (eCall "_law_sum" (aCons (eVar 0) (aCons (eVar 2) aNil))) aNil))))))))))))))))))))
noncomputable def d__law_row : Df := ⟨["_law_state", "_law_named", "_law_pockets", "_law_many"], 7, b__law_row⟩
noncomputable def b__law_program : MS :=
    (sSeq (sAsg (eCall "_law_names" (aCons (eVar 0) aNil)) (gN 1))
    (sSeq (sAsg eDict0 (gN 2))
    (sSeq (sFor (iIn (eLst (aCons (eC (.str "box")) (aCons (eC (.str "lock")) (aCons (eC (.str "lane")) (aCons (eC (.str "door")) (aCons (eC (.str "hand")) aNil))))))) (gN 3) (sSeq (sAsg (eCall "_law_pick" (aCons (eVar 0) (aCons (eC (.int 5)) aNil))) (gN 4))
    (sSeq (sIf (mVal (eOp pEq (eVar 3) (eC (.str "hand")))) (sAsg (eOp pAdd (eC (.int 1)) (eOp pMod (eVar 4) (eC (.int 4)))) (gN 4)) sNx)
    (sSeq (sPut pPut (eVar 2) (eVar 3) (eSl (eVar 1) oNone (oSome (eVar 4))))
    (sAsg (eSl (eVar 1) (oSome (eVar 4)) oNone) (gN 1))))))
    (sSeq (sAsg (eOp pAdd (eOp pAdd (eOp pAdd (eSl (eVar 1) oNone (oSome (eC (.int 2)))) (eSl (eOp pIx (eVar 2) (eC (.str "box"))) oNone (oSome (eC (.int 1))))) (eSl (eOp pIx (eVar 2) (eC (.str "hand"))) oNone (oSome (eC (.int 1))))) (eLst (aCons (eOp pIx (eLst (aCons (eC (.str "a")) (aCons (eC (.str "ab")) (aCons (eC (.str "boxes")) aNil)))) (eCall "_law_pick" (aCons (eVar 0) (aCons (eC (.int 3)) aNil)))) aNil))) (gN 5))
    (sSeq (sAsg (eLst aNil) (gN 6))
    (sSeq (sFor (iIn (eOp pIx (eVar 2) (eC (.str "hand")))) (gN 7) (sSeq (sAsg (eOp pIx (eLst (aCons (eCall "_law_pick" (aCons (eVar 0) (aCons (eC (.int 4)) aNil))) (aCons (eOp pAdd (eC (.int 3)) (eCall "_law_pick" (aCons (eVar 0) (aCons (eC (.int 6)) aNil)))) (aCons (eOp pAdd (eC (.int 3)) (eCall "_law_pick" (aCons (eVar 0) (aCons (eC (.int 6)) aNil)))) (aCons (eC (.int 30)) aNil))))) (eCall "_law_pick" (aCons (eVar 0) (aCons (eC (.int 4)) aNil)))) (gN 4))
    (sDrop (eM pAppend isLst (eVar 6) (aCons (eTup (aCons (eVar 7) (aCons (eB pTuple (aCons (eLC 1 (iRange1 (aCons (eVar 4) aNil)) (gN 9) mTrue (eCall "_law_row" (aCons (eVar 0) (aCons (eVar 2) (aCons (eVar 5) (aCons (eVar 4) aNil)))))) aNil)) aNil))) aNil)))))
    (sSeq (sAsg (eB pTuple (aCons (eLC 1 (iIn (eOp pIx (eVar 2) (eC (.str "box")))) (gN 9) mTrue (eTup (aCons (eVar 9) (aCons (eOp pIx (eLst (aCons (eC (.int 0)) (aCons (eC (.int 1)) (aCons (eC (.int 999)) (aCons (eCall "_law_pick" (aCons (eVar 0) (aCons (eC (.int 1000)) aNil))) aNil))))) (eCall "_law_pick" (aCons (eVar 0) (aCons (eC (.int 4)) aNil)))) aNil)))) aNil)) (gN 8))
    (sRet (eTup (aCons (eVar 8) (aCons (eB pTuple (aCons (eOp pIx (eVar 2) (eC (.str "lock"))) aNil)) (aCons (eB pTuple (aCons (eOp pIx (eVar 2) (eC (.str "lane"))) aNil)) (aCons (eB pTuple (aCons (eOp pIx (eVar 2) (eC (.str "door"))) aNil)) (aCons (eB pTuple (aCons (eVar 6) aNil)) aNil))))))))))))))
noncomputable def d__law_program : Df := ⟨["_law_state"], 8, b__law_program⟩
noncomputable def b__law_worth : MS :=
    (sSeq (sIf (mVal (eOp pEq (eOp pIx (eVar 0) (eC (.int 0))) (eC (.str "num")))) (sRet (eOp pIx (eVar 0) (eC (.int 1)))) sNx)
    (sSeq (sIf (mVal (eOp pEq (eOp pIx (eVar 0) (eC (.int 0))) (eC (.str "of")))) (sRet (eGet2 (eVar 1) (eOp pIx (eVar 0) (eC (.int 1))) (eC (.int 0)))) sNx)
    (sSeq (sAsg (eLC 1 (iIn (eSl (eVar 0) (oSome (eC (.int 1))) oNone)) (gN 6) mTrue (eCall "_law_worth" (aCons (eVar 6) (aCons (eVar 1) aNil)))) (gN 2))
    (sSeq (sIf (mVal (eOp pEq (eOp pIx (eVar 0) (eC (.int 0))) (eC (.str "not")))) (sRet (eIf (mVal (eOp pEq (eOp pIx (eVar 2) (eC (.int 0))) (eC (.int 0)))) (eC (.int 1)) (eC (.int 0)))) sNx)
    (sSeq (sAsg (eVar 2) (gTW 2 (gsCons (gN 3) (gsCons (gN 4) gsNil))))
    (sSeq (sAsg (eDict (dCons (eC (.str "add")) (eOp pMod (eOp pAdd (eVar 3) (eVar 4)) (eC (.int 1000))) (dCons (eC (.str "sub")) (eOp pMod (eOp pSub (eVar 3) (eVar 4)) (eC (.int 1000))) (dCons (eC (.str "mul")) (eOp pMod (eOp pMulW (eVar 3) (eVar 4)) (eC (.int 1000))) dNil)))) (gN 5))
    (sSeq (sPut pPut (eVar 5) (eC (.str "less")) (eIf (mVal (eOp pLt (eVar 3) (eVar 4))) (eC (.int 1)) (eC (.int 0))))
    (sSeq (sPut pPut (eVar 5) (eC (.str "same")) (eIf (mVal (eOp pEq (eVar 3) (eVar 4))) (eC (.int 1)) (eC (.int 0))))
    (sRet (eOp pIx (eVar 5) (eOp pIx (eVar 0) (eC (.int 0)))))))))))))
noncomputable def d__law_worth : Df := ⟨["_law_thing", "_law_pockets"], 4, b__law_worth⟩
noncomputable def b__law_own : MS :=
    (sSeq (sIf (mVal (eOp pEq (eVar 1) (eB pLen (aCons (eVar 0) aNil)))) (sRet (eC .non)) sNx)
    (sSeq (sAsg (eOp pIx (eVar 0) (eVar 1)) (gN 4))
    (sSeq (sIf (mVal (eOp pEq (eOp pIx (eVar 4) (eC (.int 0))) (eC (.str "let")))) (sSeq (sPut pPut (eVar 2) (eOp pIx (eVar 4) (eC (.int 1))) (eCall "_law_worth" (aCons (eOp pIx (eVar 4) (eC (.int 2))) (aCons (eVar 2) aNil))))
    (sRet (eOp pAdd (eVar 1) (eC (.int 1))))) sNx)
    (sSeq (sIf (mVal (eOp pEq (eOp pIx (eVar 4) (eC (.int 0))) (eC (.str "leap")))) (sRet (eIf (mVal (eOp pGt (eCall "_law_worth" (aCons (eOp pIx (eVar 4) (eC (.int 2))) (aCons (eVar 2) aNil))) (eC (.int 0)))) (eOp pIx (eVar 4) (eC (.int 1))) (eOp pAdd (eVar 1) (eC (.int 1))))) sNx)
    (sSeq (sIf (mAnd (mVal (eOp pEq (eOp pIx (eVar 4) (eC (.int 0))) (eC (.str "take")))) (mVal (eOp pIn (eOp pIx (eVar 4) (eC (.int 1))) (eVar 3)))) (sRet (eOp pAdd (eVar 1) (eC (.int 1)))) sNx)
    (sSeq (sIf (mAnd (mVal (eOp pEq (eOp pIx (eVar 4) (eC (.int 0))) (eC (.str "free")))) (mVal (eOp pNotIn (eOp pIx (eVar 4) (eC (.int 1))) (eVar 3)))) (sRet (eOp pAdd (eVar 1) (eC (.int 1)))) sNx)
    (sRet (eC .non))))))))
noncomputable def d__law_own : Df := ⟨["_law_rows", "_law_at", "_law_pockets", "_law_held"], 1, b__law_own⟩
noncomputable def b__law_rested : MS :=
    (sSeq (sAsg (eB pDict (aCons (eOp pIx (eVar 1) (eC (.int 1))) aNil)) (gN 2))
    (sSeq (sAsg (eOp pIx (eVar 1) (eC (.int 0))) (gN 3))
    (sSeq (sAsg (eC (.int 0)) (gN 4))
    (sSeq (sAsg (eCall "_law_own" (aCons (eVar 0) (aCons (eVar 3) (aCons (eVar 2) (aCons (eOp pIx (eVar 1) (eC (.int 2))) aNil))))) (gN 5))
    (sSeq (sWhile (mVal (eUn (pIsN true) (eVar 5))) (sSeq (sAsg (eVar 5) (gN 3))
    (sSeq (sAsg (eOp pAdd (eVar 4) (eC (.int 1))) (gN 4))
    (sSeq (sAsg (eB pDict (aCons (eVar 2) aNil)) (gN 6))
    (sSeq (sAsg (eCall "_law_own" (aCons (eVar 0) (aCons (eVar 3) (aCons (eVar 2) (aCons (eOp pIx (eVar 1) (eC (.int 2))) aNil))))) (gN 5))
    (sIf (mAnd (mVal (eOp pEq (eVar 4) (eC (.int 200)))) (mVal (eUn (pIsN true) (eVar 5)))) (sSeq (sAsg (eVar 6) (gN 2))
    (sSeq (sAsg (eB pLen (aCons (eVar 0) aNil)) (gN 3))
    (sAsg (eC .non) (gN 5)))) sNx))))))
    (sRet (eTup (aCons (eVar 3) (aCons (eB pTuple (aCons (eLC 1 (iIn (eB pSortedW (aCons (eVar 2) aNil))) (gN 7) (mVal (eOp pGt (eOp pIx (eVar 2) (eVar 7)) (eC (.int 0)))) (eTup (aCons (eVar 7) (aCons (eOp pIx (eVar 2) (eVar 7)) aNil)))) aNil)) (aCons (eOp pIx (eVar 1) (eC (.int 2))) aNil))))))))))
noncomputable def d__law_rested : Df := ⟨["_law_rows", "_law_seat_here"], 5, b__law_rested⟩
noncomputable def b__law_seat : MS :=
    (sSeq (sAsg (eOp pIx (eOp pIx (eOp pIx (eVar 1) (eC (.int 4))) (eVar 2)) (eC (.int 1))) (gN 3))
    (sSeq (sAsg (eB pSortedW (aCons (eLst (aCons (eC (.str "a")) (aCons (eC (.str "ab")) (aCons (eC (.str "boxes")) (aCons (eC (.str "b")) (aCons (eC (.str "lets")) aNil)))))) aNil)) (gN 4))
    (sSeq (sAsg (eB pTuple (aCons (eLC 1 (iIn (eVar 4)) (gN 7) (mVal (eOp pEq (eCall "_law_pick" (aCons (eVar 0) (aCons (eC (.int 3)) aNil))) (eC (.int 0)))) (eTup (aCons (eVar 7) (aCons (eOp pAdd (eC (.int 1)) (eCall "_law_pick" (aCons (eVar 0) (aCons (eC (.int 999)) aNil)))) aNil)))) aNil)) (gN 5))
    (sSeq (sAsg (eB pTuple (aCons (eB pSortedW (aCons (eLC 1 (iIn (eOp pIx (eVar 1) (eC (.int 1)))) (gN 7) (mVal (eOp pEq (eCall "_law_pick" (aCons (eVar 0) (aCons (eC (.int 2)) aNil))) (eC (.int 0)))) (eVar 7)) aNil)) aNil)) (gN 6))
    (sRet (eTup (aCons (eCall "_law_pick" (aCons (eVar 0) (aCons (eOp pAdd (eB pLen (aCons (eVar 3) aNil)) (eC (.int 1))) aNil))) (aCons (eVar 5) (aCons (eVar 6) aNil)))))))))
noncomputable def d__law_seat : Df := ⟨["_law_state", "_law_program_here", "_law_hand"], 4, b__law_seat⟩
noncomputable def b__law_same : MS :=
    (sSeq (sIf (mVal (eB pIsi (aCons (eVar 1) (aCons (eTup (aCons (eC (.ty "tuple")) (aCons (eC (.ty "list")) aNil))) aNil)))) (sSeq (sIf (mOr (mVal (eOp pNe (eB pIsi (aCons (eVar 0) (aCons (eC (.ty "tuple")) aNil))) (eB pIsi (aCons (eVar 1) (aCons (eC (.ty "tuple")) aNil))))) (mVal (eOp pNe (eB pIsi (aCons (eVar 0) (aCons (eC (.ty "list")) aNil))) (eB pIsi (aCons (eVar 1) (aCons (eC (.ty "list")) aNil)))))) (sRet (eC (.bl false))) sNx)
    (sRet (eAnd (eOp pEq (eB pLen (aCons (eVar 0) aNil)) (eB pLen (aCons (eVar 1) aNil))) (eB pAll (aCons (eLC 1 (iRange1 (aCons (eB pLen (aCons (eVar 1) aNil)) aNil)) (gN 2) mTrue (eCall "_law_same" (aCons (eOp pIx (eVar 0) (eVar 2)) (aCons (eOp pIx (eVar 1) (eVar 2)) aNil)))) aNil))))) sNx)
    (sSeq (sIf (mVal (eUn (pIsN false) (eVar 1))) (sRet (eUn (pIsN false) (eVar 0))) sNx)
    (sSeq (sIf (mOr (mVal (eB pIsi (aCons (eVar 1) (aCons (eC (.ty "bool")) aNil)))) (mVal (eB pIsi (aCons (eVar 0) (aCons (eC (.ty "bool")) aNil))))) (sRet (eAnd (eB pIsi (aCons (eVar 1) (aCons (eC (.ty "bool")) aNil))) (eAnd (eB pIsi (aCons (eVar 0) (aCons (eC (.ty "bool")) aNil))) (eOp pEq (eVar 0) (eVar 1))))) sNx)
    (sSeq (sIf (mVal (eB pIsi (aCons (eVar 1) (aCons (eC (.ty "int")) aNil)))) (sRet (eAnd (eB pIsi (aCons (eVar 0) (aCons (eC (.ty "int")) aNil))) (eOp pEq (eVar 0) (eVar 1)))) sNx)
    (sRet (eAnd (eB pIsi (aCons (eVar 0) (aCons (eC (.ty "str")) aNil))) (eOp pEq (eVar 0) (eVar 1))))))))
noncomputable def d__law_same : Df := ⟨["_law_found", "_law_due"], 0, b__law_same⟩
noncomputable def b_law : MS :=
    (sSeq (sAsg (eDict (dCons (eC (.str "script")) (eVar 0) (dCons (eC (.str "k")) (eC (.int 0)) dNil))) (gN 1))
    (sSeq (sAsg (eLst (aCons (eCall "_law_program" (aCons (eVar 1) aNil)) (aCons (eCall "_law_program" (aCons (eVar 1) aNil)) aNil))) (gN 2))
    (sSeq (sFor (iRange1 (aCons (eC (.int 10)) aNil)) (gN 3) (sSeq (sAsg (eOp pIx (eVar 2) (eOp pMod (eVar 3) (eC (.int 2)))) (gN 4))
    (sFor (iRange1 (aCons (eB pLen (aCons (eOp pIx (eVar 4) (eC (.int 4))) aNil)) aNil)) (gN 5) (sSeq (sAsg (eOp pIx (eOp pIx (eOp pIx (eVar 4) (eC (.int 4))) (eVar 5)) (eC (.int 1))) (gN 6))
    (sSeq (sIf (mNot (mVal (eCall "_law_same" (aCons (eCall "first_seat" (aCons (eVar 4) (aCons (eVar 5) aNil))) (aCons (eCall "_law_rested" (aCons (eVar 6) (aCons (eTup (aCons (eC (.int 0)) (aCons (eTup aNil) (aCons (eTup aNil) aNil)))) aNil))) aNil))))) (sRet (eC (.bl false))) sNx)
    (sSeq (sAsg (eCall "_law_seat" (aCons (eVar 1) (aCons (eVar 4) (aCons (eVar 5) aNil)))) (gN 7))
    (sSeq (sAsg (eCall "_law_rested" (aCons (eVar 6) (aCons (eVar 7) aNil))) (gN 8))
    (sSeq (sIf (mNot (mVal (eCall "_law_same" (aCons (eCall "rested" (aCons (eVar 4) (aCons (eVar 5) (aCons (eVar 7) aNil)))) (aCons (eVar 8) aNil))))) (sRet (eC (.bl false))) sNx)
    (sIf (mNot (mVal (eCall "_law_same" (aCons (eCall "rested" (aCons (eVar 4) (aCons (eVar 5) (aCons (eVar 8) aNil)))) (aCons (eVar 8) aNil))))) (sRet (eC (.bl false))) sNx)))))))))
    (sRet (eC (.bl true))))))
noncomputable def d_law : Df := ⟨["_law_script"], 8, b_law⟩
structure Has (pg : Tb) : Prop where
  f_worth : pg.fns "worth" = some d_worth
  f_joined_worth : pg.fns "joined_worth" = some d_joined_worth
  f_rows_of : pg.fns "rows_of" = some d_rows_of
  f_first_seat : pg.fns "first_seat" = some d_first_seat
  f_rested : pg.fns "rested" = some d_rested
  f_is_rested : pg.fns "is_rested" = some d_is_rested
  f_is_own_row : pg.fns "is_own_row" = some d_is_own_row
  f_behind_own_row : pg.fns "behind_own_row" = some d_behind_own_row
  f_laid : pg.fns "laid" = some d_laid
  f__law_draw : pg.fns "_law_draw" = some d__law_draw
  f__law_pick : pg.fns "_law_pick" = some d__law_pick
  f__law_names : pg.fns "_law_names" = some d__law_names
  f__law_sum_in : pg.fns "_law_sum_in" = some d__law_sum_in
  f__law_sum : pg.fns "_law_sum" = some d__law_sum
  f__law_row : pg.fns "_law_row" = some d__law_row
  f__law_program : pg.fns "_law_program" = some d__law_program
  f__law_worth : pg.fns "_law_worth" = some d__law_worth
  f__law_own : pg.fns "_law_own" = some d__law_own
  f__law_rested : pg.fns "_law_rested" = some d__law_rested
  f__law_seat : pg.fns "_law_seat" = some d__law_seat
  f__law_same : pg.fns "_law_same" = some d__law_same
  f_law : pg.fns "law" = some d_law
  c_WORTHS : pg.con "WORTHS" = some (.int 1000)
  c_MOST_OWN_ROWS : pg.con "MOST_OWN_ROWS" = some (.int 200)
noncomputable def fnT : List (String × Df) := [("worth", d_worth), ("joined_worth", d_joined_worth), ("rows_of", d_rows_of), ("first_seat", d_first_seat), ("rested", d_rested), ("is_rested", d_is_rested), ("is_own_row", d_is_own_row), ("behind_own_row", d_behind_own_row), ("laid", d_laid), ("_law_draw", d__law_draw), ("_law_pick", d__law_pick), ("_law_names", d__law_names), ("_law_sum_in", d__law_sum_in), ("_law_sum", d__law_sum), ("_law_row", d__law_row), ("_law_program", d__law_program), ("_law_worth", d__law_worth), ("_law_own", d__law_own), ("_law_rested", d__law_rested), ("_law_seat", d__law_seat), ("_law_same", d__law_same), ("law", d_law)]
noncomputable def conT : List (Str × PV) := [("WORTHS", (.int 1000)), ("MOST_OWN_ROWS", (.int 200))]
noncomputable def dcT : List (Str × List (Key × PV)) := []
noncomputable def tb : Tb := ⟨fun f => (fnT.find? fun p => p.1 == f).map (·.2), fun x => (conT.find? fun p => decide (p.1 = x)).map (·.2), fun x => (dcT.find? fun p => decide (p.1 = x)).map (·.2)⟩
theorem has : Has tb := ⟨by simp [tb, fnT], by simp [tb, fnT], by simp [tb, fnT], by simp [tb, fnT], by simp [tb, fnT], by simp [tb, fnT], by simp [tb, fnT], by simp [tb, fnT], by simp [tb, fnT], by simp [tb, fnT], by simp [tb, fnT], by simp [tb, fnT], by simp [tb, fnT], by simp [tb, fnT], by simp [tb, fnT], by simp [tb, fnT], by simp [tb, fnT], by simp [tb, fnT], by simp [tb, fnT], by simp [tb, fnT], by simp [tb, fnT], by simp [tb, fnT], rfl, rfl⟩
local macro_rules
  | `(tactic| array_get_dec) => `(tactic| repeat' first | (show JE _ _ _ _ _; first | exact je_var _ | exact je_int | exact je_str | exact je_non | exact je_bl | refine je_ix i_ix ?_ ?_ (fun _ _ => rfl) | refine je_call (by assumption) rfl ?_ | refine je_op ?_ ?_ ?_ | refine je_tup ?_ | refine je_lst ?_ | refine je_cmp ?_ ?_ ?_ (nomark _) | refine je_cmp ?_ ?_ ?_ rfl | refine je_isN ?_ | refine je_not ?_ | refine je_and ?_ ?_ | refine je_or ?_ ?_ | refine je_one ?_ | refine je_ifExp ?_ ?_ ?_ | refine je_slice ?_ ?_ ?_ | exact je_dict0 | refine je_dict ?_ rfl rfl (by intro z; cases z) (by decide) | refine je_get2 ?_ ?_ ?_ ⟨rfl, rfl, rfl, rfl⟩ | refine je_lc1 ?_ (fun _ _ _ _ _ _ => ⟨fun _ => ?_, ?_, ?_⟩) | refine je_lc2 ?_ (fun _ _ _ _ _ _ => ⟨fun _ => ?_, ?_, ?_⟩) | exact je_con (by assumption) rfl | refine je_B b_len rfl (by decide +kernel) PySem.boot_len ?_ | refine je_B b_isi rfl (by decide +kernel) boot_isinstance ?_ | refine je_B b_all rfl (by decide +kernel) boot_all ?_ | refine je_B b_sortedW rfl (by decide +kernel) boot_sorted ?_ | refine je_T b_tuple rfl (by decide +kernel) boot_tuple ?_ | refine je_T b_dict rfl (by decide +kernel) boot_dict ?_ | exact je_ty rfl (by decide +kernel) boot_int | exact je_ty rfl (by decide +kernel) boot_bool | exact je_ty rfl (by decide +kernel) boot_str | exact je_ty rfl (by decide +kernel) boot_list | exact je_ty rfl (by decide +kernel) boot_tuple | exact je_ty rfl (by decide +kernel) boot_dict | refine je_M PySem.F.plainAttrs_list PySem.F.slot_list_append PySem.F.type_list_append m_append ?_ ?_ | refine je_M PySem.F.plainAttrs_dict PySem.F.slot_dict_update PySem.F.type_dict_update m_update ?_ ?_) | (show JA _ _ _ _ _; first | exact ja_nil | refine ja_cons ?_ ?_) | (show JSs _ _ _ _ _; first | exact jss_nil | refine jss_one ?_ | refine jss_cons ?_ ?_) | (show JS _ _ _ _ _; first | refine js_lc1 (by assumption) ?_ (fun _ _ _ _ _ _ => ⟨fun _ => ?_, ?_, ?_⟩) | refine js_lc2 (by assumption) ?_ (fun _ _ _ _ _ _ => ⟨fun _ => ?_, ?_, ?_⟩) | refine js_set (by assumption) rfl (by first | exact Or.inl rfl | exact Or.inr rfl) ?_ | refine js_if ?_ ?_ ?_ | refine js_ret ?_ | refine js_expr ?_ | refine js_put b_put ?_ ?_ ?_ | refine js_asg ?_ ?_ | refine js_for ?_ ?_ ?_ PassesOwn.never | refine js_while ?_ ?_ PassesOwn.never) | (show JT _ _ _ _ _; first | refine jt_cmp ?_ ?_ ?_ (nomark _) | refine jt_cmp ?_ ?_ ?_ rfl | refine jt_isN ?_ | refine jt_notN ?_ | refine JW.pt (jw_and ?_ ?_) | refine JW.pt (jw_or ?_ ?_) | refine jt_not ?_ | refine jt_val ?_) | (show JW _ _ _ _ _; first | refine jw_and ?_ ?_ | refine jw_or ?_ ?_ | refine jw_and1 ?_ | refine jw_or1 ?_) | (show JO _ _ _ _ _; first | exact jo_none | refine jo_some ?_) | (show JP _ _ _ _ _ _ _; first | exact jp_nil | refine jp_cons ?_ ?_ ?_) | (show JG _ _ _ _ _; first | exact jg_name (by assumption) rfl (by first | exact Or.inl rfl | exact Or.inr rfl) | refine jg_tup ?_ | refine jg_tupW ?_) | (show JGs _ _ _ _ _; first | exact jgs_nil | refine jgs_cons ?_ ?_) | (show JI _ _ _ _ _ _; first | refine ji_range1 rfl ?_ | refine ji_any ?_) | (show JF _ _ _ _ _; first | exact jf_nil | refine jf_one ?_) | (show QG _ _ _; first | exact qg_name (by assumption) rfl (by first | exact Or.inl rfl | exact Or.inr rfl)) | exact o_add | exact o_fdiv | exact o_mod | exact o_mulW | exact o_pow | exact o_sub | exact c_eq | exact c_ge | exact c_gt | exact c_in | exact c_lt | exact c_ne | exact c_notIn)
section
variable {P : Program} {w : World} {K : PySem.W.Frag} {mg : Str → Option Value} {pg : Tb}
abbrev n_worth : List Str := ["tree", "pockets", "word", "one"]
theorem g_worth (T : Has pg) (a : At K mg "worth" (top 2)) : DefG P w K mg pg "worth" d_worth (top 2) n_worth := by
  have S : FnScope n_worth d_worth.ps (defScope (top 2)) := ⟨rfl, rfl, rfl, by decide +kernel, rfl, by decide +kernel, by decide +kernel⟩
  have z := S.nd
  obtain ⟨⟩ := T
  refine DefG.of b_worth rfl a S rfl (fun _ _ _ _ _ _ => us2 fun _ _ => rfl) fun _ _ _ _ _ _ _ _ _ => ?_
  array_get_dec
abbrev n_joined_worth : List Str := ["word", "one", "other"]
theorem g_joined_worth (T : Has pg) (a : At K mg "joined_worth" (top 3)) : DefG P w K mg pg "joined_worth" d_joined_worth (top 3) n_joined_worth := by
  have S : FnScope n_joined_worth d_joined_worth.ps (defScope (top 3)) := ⟨rfl, rfl, rfl, by decide +kernel, rfl, by decide +kernel, by decide +kernel⟩
  have z := S.nd
  obtain ⟨⟩ := T
  refine DefG.of b_joined_worth rfl a S rfl (fun _ _ _ _ _ _ => us3 fun _ _ _ => rfl) fun _ _ _ _ _ _ _ _ _ => ?_
  array_get_dec
abbrev n_rows_of : List Str := ["program", "hand"]
theorem g_rows_of (T : Has pg) (a : At K mg "rows_of" (top 5)) : DefG P w K mg pg "rows_of" d_rows_of (top 5) n_rows_of := by
  have S : FnScope n_rows_of d_rows_of.ps (defScope (top 5)) := ⟨rfl, rfl, rfl, by decide +kernel, rfl, by decide +kernel, by decide +kernel⟩
  have z := S.nd
  obtain ⟨⟩ := T
  refine DefG.of b_rows_of rfl a S rfl (fun _ _ _ _ _ _ => us2 fun _ _ => rfl) fun _ _ _ _ _ _ _ _ _ => ?_
  array_get_dec
abbrev n_first_seat : List Str := ["program", "hand"]
theorem g_first_seat (T : Has pg) (a : At K mg "first_seat" (top 8)) : DefG P w K mg pg "first_seat" d_first_seat (top 8) n_first_seat := by
  have S : FnScope n_first_seat d_first_seat.ps (defScope (top 8)) := ⟨rfl, rfl, rfl, by decide +kernel, rfl, by decide +kernel, by decide +kernel⟩
  have z := S.nd
  obtain ⟨⟩ := T
  refine DefG.of b_first_seat rfl a S rfl (fun _ _ _ _ _ _ => us2 fun _ _ => rfl) fun _ _ _ _ _ _ _ _ _ => ?_
  array_get_dec
abbrev n_rested : List Str := ["program", "hand", "seat", "rows", "here", "turn"]
theorem g_rested (T : Has pg) (a : At K mg "rested" (top 9)) : DefG P w K mg pg "rested" d_rested (top 9) n_rested := by
  have S : FnScope n_rested d_rested.ps (defScope (top 9)) := ⟨rfl, rfl, rfl, by decide +kernel, rfl, by decide +kernel, by decide +kernel⟩
  have z := S.nd
  obtain ⟨⟩ := T
  refine DefG.of b_rested rfl a S rfl (fun _ _ _ _ _ _ => us3 fun _ _ _ => rfl) fun _ _ _ _ _ _ _ _ _ => ?_
  array_get_dec
abbrev n_is_rested : List Str := ["rows", "seat"]
theorem g_is_rested (T : Has pg) (a : At K mg "is_rested" (top 10)) : DefG P w K mg pg "is_rested" d_is_rested (top 10) n_is_rested := by
  have S : FnScope n_is_rested d_is_rested.ps (defScope (top 10)) := ⟨rfl, rfl, rfl, by decide +kernel, rfl, by decide +kernel, by decide +kernel⟩
  have z := S.nd
  obtain ⟨⟩ := T
  refine DefG.of b_is_rested rfl a S rfl (fun _ _ _ _ _ _ => us2 fun _ _ => rfl) fun _ _ _ _ _ _ _ _ _ => ?_
  array_get_dec
abbrev n_is_own_row : List Str := ["row", "held"]
theorem g_is_own_row (T : Has pg) (a : At K mg "is_own_row" (top 11)) : DefG P w K mg pg "is_own_row" d_is_own_row (top 11) n_is_own_row := by
  have S : FnScope n_is_own_row d_is_own_row.ps (defScope (top 11)) := ⟨rfl, rfl, rfl, by decide +kernel, rfl, by decide +kernel, by decide +kernel⟩
  have z := S.nd
  obtain ⟨⟩ := T
  refine DefG.of b_is_own_row rfl a S rfl (fun _ _ _ _ _ _ => us2 fun _ _ => rfl) fun _ _ _ _ _ _ _ _ _ => ?_
  array_get_dec
abbrev n_behind_own_row : List Str := ["row", "seat", "onward"]
theorem g_behind_own_row (T : Has pg) (a : At K mg "behind_own_row" (top 12)) : DefG P w K mg pg "behind_own_row" d_behind_own_row (top 12) n_behind_own_row := by
  have S : FnScope n_behind_own_row d_behind_own_row.ps (defScope (top 12)) := ⟨rfl, rfl, rfl, by decide +kernel, rfl, by decide +kernel, by decide +kernel⟩
  have z := S.nd
  obtain ⟨⟩ := T
  refine DefG.of b_behind_own_row rfl a S rfl (fun _ _ _ _ _ _ => us2 fun _ _ => rfl) fun _ _ _ _ _ _ _ _ _ => ?_
  array_get_dec
abbrev n_laid : List Str := ["pockets", "name", "value", "others"]
theorem g_laid (T : Has pg) (a : At K mg "laid" (top 13)) : DefG P w K mg pg "laid" d_laid (top 13) n_laid := by
  have S : FnScope n_laid d_laid.ps (defScope (top 13)) := ⟨rfl, rfl, rfl, by decide +kernel, rfl, by decide +kernel, by decide +kernel⟩
  have z := S.nd
  have z0 : (lcN n_laid ["pocket"]).Nodup := by decide +kernel
  obtain ⟨⟩ := T
  refine DefG.of b_laid rfl a S rfl (fun _ _ _ _ _ _ => us3 fun _ _ _ => rfl) fun _ _ _ _ _ _ _ _ _ => ?_
  array_get_dec
abbrev n__law_draw : List Str := ["_law_script", "_law_k", "_law_many", "_law_cell", "_law_left", "_law_j", "_law_seed"]
theorem g__law_draw (T : Has pg) (a : At K mg "_law_draw" (top 15)) : DefG P w K mg pg "_law_draw" d__law_draw (top 15) n__law_draw := by
  have S : FnScope n__law_draw d__law_draw.ps (defScope (top 15)) := ⟨rfl, rfl, rfl, by decide +kernel, rfl, by decide +kernel, by decide +kernel⟩
  have z := S.nd
  obtain ⟨⟩ := T
  refine DefG.of b__law_draw rfl a S rfl (fun _ _ _ _ _ _ => us3 fun _ _ _ => rfl) fun _ _ _ _ _ _ _ _ _ => ?_
  array_get_dec
abbrev n__law_pick : List Str := ["_law_state", "_law_many"]
theorem g__law_pick (T : Has pg) (a : At K mg "_law_pick" (top 16)) : DefG P w K mg pg "_law_pick" d__law_pick (top 16) n__law_pick := by
  have S : FnScope n__law_pick d__law_pick.ps (defScope (top 16)) := ⟨rfl, rfl, rfl, by decide +kernel, rfl, by decide +kernel, by decide +kernel⟩
  have z := S.nd
  obtain ⟨⟩ := T
  refine DefG.of b__law_pick rfl a S rfl (fun _ _ _ _ _ _ => us2 fun _ _ => rfl) fun _ _ _ _ _ _ _ _ _ => ?_
  array_get_dec
abbrev n__law_names : List Str := ["_law_state", "_law_some", "_law_turn"]
theorem g__law_names (T : Has pg) (a : At K mg "_law_names" (top 17)) : DefG P w K mg pg "_law_names" d__law_names (top 17) n__law_names := by
  have S : FnScope n__law_names d__law_names.ps (defScope (top 17)) := ⟨rfl, rfl, rfl, by decide +kernel, rfl, by decide +kernel, by decide +kernel⟩
  have z := S.nd
  obtain ⟨⟩ := T
  refine DefG.of b__law_names rfl a S rfl (fun _ _ _ _ _ _ => us1 fun _ => rfl) fun _ _ _ _ _ _ _ _ _ => ?_
  array_get_dec
abbrev n__law_sum_in : List Str := ["_law_state", "_law_pockets", "_law_deep", "_law_way", "_law_word", "_law_one"]
theorem g__law_sum_in (T : Has pg) (a : At K mg "_law_sum_in" (top 18)) : DefG P w K mg pg "_law_sum_in" d__law_sum_in (top 18) n__law_sum_in := by
  have S : FnScope n__law_sum_in d__law_sum_in.ps (defScope (top 18)) := ⟨rfl, rfl, rfl, by decide +kernel, rfl, by decide +kernel, by decide +kernel⟩
  have z := S.nd
  obtain ⟨⟩ := T
  refine DefG.of b__law_sum_in rfl a S rfl (fun _ _ _ _ _ _ => us3 fun _ _ _ => rfl) fun _ _ _ _ _ _ _ _ _ => ?_
  array_get_dec
abbrev n__law_sum : List Str := ["_law_state", "_law_pockets"]
theorem g__law_sum (T : Has pg) (a : At K mg "_law_sum" (top 19)) : DefG P w K mg pg "_law_sum" d__law_sum (top 19) n__law_sum := by
  have S : FnScope n__law_sum d__law_sum.ps (defScope (top 19)) := ⟨rfl, rfl, rfl, by decide +kernel, rfl, by decide +kernel, by decide +kernel⟩
  have z := S.nd
  obtain ⟨⟩ := T
  refine DefG.of b__law_sum rfl a S rfl (fun _ _ _ _ _ _ => us2 fun _ _ => rfl) fun _ _ _ _ _ _ _ _ _ => ?_
  array_get_dec
abbrev n__law_row : List Str := ["_law_state", "_law_named", "_law_pockets", "_law_many", "_law_kinds", "_law_sort", "_law_some", "_law_kind", "_law_pocket", "_law_sorts", "_law_thing"]
theorem g__law_row (T : Has pg) (a : At K mg "_law_row" (top 20)) : DefG P w K mg pg "_law_row" d__law_row (top 20) n__law_row := by
  have S : FnScope n__law_row d__law_row.ps (defScope (top 20)) := ⟨rfl, rfl, rfl, by decide +kernel, rfl, by decide +kernel, by decide +kernel⟩
  have z := S.nd
  obtain ⟨⟩ := T
  refine DefG.of b__law_row rfl a S rfl (fun _ _ _ _ _ _ => us4 fun _ _ _ _ => rfl) fun _ _ _ _ _ _ _ _ _ => ?_
  array_get_dec
abbrev n__law_program : List Str := ["_law_state", "_law_names_here", "_law_named", "_law_sort", "_law_many", "_law_pockets", "_law_hands", "_law_name", "_law_boxes"]
theorem g__law_program (T : Has pg) (a : At K mg "_law_program" (top 21)) : DefG P w K mg pg "_law_program" d__law_program (top 21) n__law_program := by
  have S : FnScope n__law_program d__law_program.ps (defScope (top 21)) := ⟨rfl, rfl, rfl, by decide +kernel, rfl, by decide +kernel, by decide +kernel⟩
  have z := S.nd
  have z0 : (lcN n__law_program ["_law_name"]).Nodup := by decide +kernel
  have z1 : (lcN n__law_program ["_law_k"]).Nodup := by decide +kernel
  obtain ⟨⟩ := T
  refine DefG.of b__law_program rfl a S rfl (fun _ _ _ _ _ _ => us1 fun _ => rfl) fun _ _ _ _ _ _ _ _ _ => ?_
  array_get_dec
abbrev n__law_worth : List Str := ["_law_thing", "_law_pockets", "_law_some", "_law_one", "_law_other", "_law_table"]
theorem g__law_worth (T : Has pg) (a : At K mg "_law_worth" (top 22)) : DefG P w K mg pg "_law_worth" d__law_worth (top 22) n__law_worth := by
  have S : FnScope n__law_worth d__law_worth.ps (defScope (top 22)) := ⟨rfl, rfl, rfl, by decide +kernel, rfl, by decide +kernel, by decide +kernel⟩
  have z := S.nd
  have z0 : (lcN n__law_worth ["_law_part"]).Nodup := by decide +kernel
  obtain ⟨⟩ := T
  refine DefG.of b__law_worth rfl a S rfl (fun _ _ _ _ _ _ => us2 fun _ _ => rfl) fun _ _ _ _ _ _ _ _ _ => ?_
  array_get_dec
abbrev n__law_own : List Str := ["_law_rows", "_law_at", "_law_pockets", "_law_held", "_law_row_here"]
theorem g__law_own (T : Has pg) (a : At K mg "_law_own" (top 23)) : DefG P w K mg pg "_law_own" d__law_own (top 23) n__law_own := by
  have S : FnScope n__law_own d__law_own.ps (defScope (top 23)) := ⟨rfl, rfl, rfl, by decide +kernel, rfl, by decide +kernel, by decide +kernel⟩
  have z := S.nd
  obtain ⟨⟩ := T
  refine DefG.of b__law_own rfl a S rfl (fun _ _ _ _ _ _ => us4 fun _ _ _ _ => rfl) fun _ _ _ _ _ _ _ _ _ => ?_
  array_get_dec
abbrev n__law_rested : List Str := ["_law_rows", "_law_seat_here", "_law_pockets", "_law_at", "_law_passed", "_law_behind", "_law_former"]
theorem g__law_rested (T : Has pg) (a : At K mg "_law_rested" (top 24)) : DefG P w K mg pg "_law_rested" d__law_rested (top 24) n__law_rested := by
  have S : FnScope n__law_rested d__law_rested.ps (defScope (top 24)) := ⟨rfl, rfl, rfl, by decide +kernel, rfl, by decide +kernel, by decide +kernel⟩
  have z := S.nd
  have z0 : (lcN n__law_rested ["_law_name"]).Nodup := by decide +kernel
  obtain ⟨⟩ := T
  refine DefG.of b__law_rested rfl a S rfl (fun _ _ _ _ _ _ => us2 fun _ _ => rfl) fun _ _ _ _ _ _ _ _ _ => ?_
  array_get_dec
abbrev n__law_seat : List Str := ["_law_state", "_law_program_here", "_law_hand", "_law_rows", "_law_names_here", "_law_pockets", "_law_held"]
theorem g__law_seat (T : Has pg) (a : At K mg "_law_seat" (top 25)) : DefG P w K mg pg "_law_seat" d__law_seat (top 25) n__law_seat := by
  have S : FnScope n__law_seat d__law_seat.ps (defScope (top 25)) := ⟨rfl, rfl, rfl, by decide +kernel, rfl, by decide +kernel, by decide +kernel⟩
  have z := S.nd
  have z0 : (lcN n__law_seat ["_law_name"]).Nodup := by decide +kernel
  have z1 : (lcN n__law_seat ["_law_lock"]).Nodup := by decide +kernel
  obtain ⟨⟩ := T
  refine DefG.of b__law_seat rfl a S rfl (fun _ _ _ _ _ _ => us3 fun _ _ _ => rfl) fun _ _ _ _ _ _ _ _ _ => ?_
  array_get_dec
abbrev n__law_same : List Str := ["_law_found", "_law_due"]
theorem g__law_same (T : Has pg) (a : At K mg "_law_same" (top 26)) : DefG P w K mg pg "_law_same" d__law_same (top 26) n__law_same := by
  have S : FnScope n__law_same d__law_same.ps (defScope (top 26)) := ⟨rfl, rfl, rfl, by decide +kernel, rfl, by decide +kernel, by decide +kernel⟩
  have z := S.nd
  have z0 : (lcN n__law_same ["_law_k"]).Nodup := by decide +kernel
  obtain ⟨⟩ := T
  refine DefG.of b__law_same rfl a S rfl (fun _ _ _ _ _ _ => us2 fun _ _ => rfl) fun _ _ _ _ _ _ _ _ _ => ?_
  array_get_dec
abbrev n_law : List Str := ["_law_script", "_law_state", "_law_programs", "_law_turn", "_law_program_here", "_law_hand", "_law_rows", "_law_seat_here", "_law_due"]
theorem g_law (T : Has pg) (a : At K mg "law" (top 27)) : DefG P w K mg pg "law" d_law (top 27) n_law := by
  have S : FnScope n_law d_law.ps (defScope (top 27)) := ⟨rfl, rfl, rfl, by decide +kernel, rfl, by decide +kernel, by decide +kernel⟩
  have z := S.nd
  obtain ⟨⟩ := T
  refine DefG.of b_law rfl a S rfl (fun _ _ _ _ _ _ => us1 fun _ => rfl) fun _ _ _ _ _ _ _ _ _ => ?_
  array_get_dec
end
end K07
end
section
open PySem L2 P3
local macro_rules
  | `(tactic| simp? (disch := $t) only [$ls,*]) => `(tactic| simp (disch := $t) only [$ls,*, ↓ev_op, ev_op1, ↓ev_un, ↓ev_var, ev_var1, ↓ev_c, ev_asB, ↓ev_and, ev_andT, ↓ev_or, ev_orT, ev_orF, ↓ev_not, ev_not1, ↓ev_if, ev_ifT, ev_ifF, ev_ifD, ↓ev_val, ↓ev_mand, ev_mandT, ev_mandF, ↓ev_mor, ev_morT, ev_morF, ↓ev_mnot, ev_mnot1, ↓ev_true, ↓ev_anil, ↓ev_acons, ev_acons1, ev_acons2, ↓ev_tup, ev_tup0, ↓ev_lst, ev_lst0, few_of, ↓ev_call, ↓ev_b, ↓ev_m, ↓ev_seq, ev_seqN, ev_seqR, ↓ev_nx, ↓ev_drop, ev_drop1, ↓ev_ret, ev_ret1, ↓ev_sif, ev_sifT, ev_sifF, ev_sifN, ↓ev_asg, ev_asgN, ev_env, ev_gN, ev_gT2, ev_gsN, ev_gsC, ↓ev_put, ev_put1, ev_put2, ev_put3, ev_unk, ↓ev_for, ev_for1, ev_fstep, ↓ev_iIn, ev_itT, ev_itR, ev_itL, ↓ev_rg1, ev_rg1k, ↓ev_lc, ev_lc1, ev_lc2, ev_ls, ev_ls1, ev_ls2T, ev_ls2F, ev_ls2D, ev_ls2N, ev_ls3, bd_ok, bind_ite, fin_rt, fin_ite, settle_self, List.getElem?_cons_zero, List.getElem?_cons_succ, List.set_cons_zero, List.set_cons_succ, List.map_cons, List.map_nil, List.cons_append, List.nil_append, List.replicate_succ, List.replicate_zero, List.length_cons, List.length_nil, op_sub', op_addI, op_mod', op_fdiv', op_pow', op_mulL, op_lt', op_gt', op_ge', op_eqSS, op_eqII, op_eqBB, op_neSS, op_neII, op_neBB, ix_0, ix_1, ix_2, ix_4, ix_R, ix_D, ix_L, ix_F, ov_some, val_hit, put_R, ap_R, len_T, ↓ev_get, ev_get1, ev_get1D, ev_get2, ev_get3, ev_get3D, ev_ml, ev_mlL, ap_L, dict_T, dict_S, ↓ev_dict0, hp_new, hp_newk, hp_setnew, hp_setnewk, tuple_R, tuple_RL, len_R, len_RL, len_RF, ↓ev_sl, ev_sl1, ev_sl2, ↓ev_oN, ↓ev_oS, ev_oS1, sl_T, sl_R, sl_RL, List.append_assoc, List.length_append, in_T, notin_T, isN_N, isN_I, isN_S, isN_B, notN_N, notN_I, ofString_inj, decide_true, decide_false, Bool.not_true, Bool.not_false, if_true, if_false, reduceIte, ite_self, Bool.false_eq_true, String.reduceEq, String.reduceNe, reduceCtorEq, Int.reduceEq, Int.reduceNe, Int.reduceLT, Int.reduceLE, Int.reduceSub, Int.reduceAdd, Int.reduceMul, Int.reduceToNat, Int.reduceNeg])
section
open PySem L2 P3
set_option maxHeartbeats 1000000
namespace K07
inductive Bo where | add | sub | mul | less | same
  deriving DecidableEq
noncomputable def Bo.w : Bo → Str
  | .add => "add" | .sub => "sub" | .mul => "mul" | .less => "less" | .same => "same"
noncomputable def Bo.f : Bo → Int → Int → Int
  | .add, a, b => (a + b) % 1000
  | .sub, a, b => (a - b) % 1000
  | .mul, a, b => a * b % 1000
  | .less, a, b => if a < b then 1 else 0
  | .same, a, b => if a = b then 1 else 0
inductive Sm where
  | num (n : Int) | of (x : Str) | un (a : Sm) | bin (o : Bo) (a b : Sm)
noncomputable def smV : Sm → PV
  | .num n => .tup [.str "num", .int n]
  | .of x => .tup [.str "of", .str x]
  | .un a => .tup [.str "not", smV a]
  | .bin o a b => .tup [.str o.w, smV a, smV b]
noncomputable def Sm.dp : Sm → Nat
  | .num _ => 1 | .of _ => 1 | .un a => a.dp + 1 | .bin _ a b => max a.dp b.dp + 1
noncomputable def Sm.ok : Sm → Prop
  | .num n => 0 ≤ n ∧ n ≤ 999 | .of _ => True | .un a => a.ok | .bin _ a b => a.ok ∧ b.ok
noncomputable def Sm.val (f : Str → Int) : Sm → Int
  | .num n => n
  | .of x => f x
  | .un a => if a.val f = 0 then 1 else 0
  | .bin o a b => o.f (a.val f) (b.val f)
theorem Sm.val_in {f : Str → Int} (hf : ∀ x, 0 ≤ f x ∧ f x ≤ 999) : ∀ e : Sm, e.ok → 0 ≤ e.val f ∧ e.val f ≤ 999
  | .num n, h => h
  | .of x, _ => hf x
  | .un a, _ => by unfold Sm.val; split <;> omega
  | .bin o a b, _ => by
    unfold Sm.val Bo.f
    cases o <;> simp only <;> first
      | (split <;> omega)
      | exact ⟨Int.emod_nonneg _ (by decide), by have := Int.emod_lt_of_pos (Sm.val f a + Sm.val f b) (show (0 : Int) < 1000 by decide); omega⟩
      | exact ⟨Int.emod_nonneg _ (by decide), by have := Int.emod_lt_of_pos (Sm.val f a - Sm.val f b) (show (0 : Int) < 1000 by decide); omega⟩
      | exact ⟨Int.emod_nonneg _ (by decide), by have := Int.emod_lt_of_pos (Sm.val f a * Sm.val f b) (show (0 : Int) < 1000 by decide); omega⟩
theorem smV_flat : ∀ e : Sm, (smV e).flat = true
  | .num n => rfl
  | .of x => rfl
  | .un a => by simp [smV, PV.flat, PV.flatL, smV_flat a]
  | .bin o a b => by simp [smV, PV.flat, PV.flatL, smV_flat a, smV_flat b]
abbrev Pk := List (Str × Int)
noncomputable def pkV (ps : Pk) : PV := .tup (ps.map prV)
noncomputable def fP : Pk → Str → Int
  | [], _ => 0
  | q :: r, x => if q.1 = x then q.2 else fP r x
structure PkOk (ps : Pk) : Prop where
  srt : (ps.map (·.1)).Pairwise ltS
  mem : ∀ q ∈ ps, 1 ≤ q.2 ∧ q.2 ≤ 999
  len : ps.length ≤ 20
theorem fP_in : ∀ {ps : Pk}, (∀ q ∈ ps, 1 ≤ q.2 ∧ q.2 ≤ 999) → ∀ x, 0 ≤ fP ps x ∧ fP ps x ≤ 999
  | [], _, x => by simp [fP]
  | q :: r, h, x => by
    unfold fP; split
    · have := h q List.mem_cons_self; omega
    · exact fP_in (fun z hz => h z (List.mem_cons_of_mem _ hz)) x
theorem prV_flat : ∀ (ps : Pk), PV.flatL (ps.map prV) = true
  | [] => rfl
  | q :: r => by simp [PV.flatL, prV, PV.flat, prV_flat r]
noncomputable def kvS (ps : Pk) : List (Key × PV) := ps.map fun q => (.inr q.1, .int q.2)
theorem pairs_kv : ∀ (ps : Pk), pairsP (ps.map prV) = some (kvS ps)
  | [] => rfl
  | q :: r => by simp [pairsP, prV, pairP?, keyP, pairs_kv r, kvS]
theorem val_kv : ∀ (ps : Pk) (x : Str), (valP (kvS ps) (.inr x)).getD (.int 0) = .int (fP ps x)
  | [], x => rfl
  | q :: r, x => by
    unfold fP kvS
    rw [List.map_cons]
    by_cases e : q.1 = x
    · rw [if_pos e, e, val_hit]; rfl
    · rw [if_neg e, val_miss (by simpa using e)]; exact val_kv r x
theorem put_new : ∀ {kvs : List (Key × PV)} {k : Key} {v : PV}, k ∉ kvs.map (fun kv : Key × PV => kv.1) → putP kvs k v = kvs ++ [(k, v)] := by
  intro kvs k v h
  unfold putP
  rw [if_neg]
  simp only [List.any_eq_true, decide_eq_true_eq, not_exists, not_and]
  exact fun x hx e => h (List.mem_map.mpr ⟨x, hx, e⟩)
theorem merge_nd : ∀ (more acc : List (Key × PV)), ((acc ++ more).map (fun kv : Key × PV => kv.1)).Nodup → mergeP acc more = acc ++ more
  | [], acc, _ => by simp [mergeP]
  | p :: r, acc, h => by
    have h2 : p.1 ∉ acc.map (fun kv : Key × PV => kv.1) := by
      rw [List.map_append, List.nodup_append] at h
      intro m
      exact h.2.2 p.1 m p.1 (by simp) rfl
    show mergeP (putP acc p.1 p.2) r = _
    rw [put_new h2, merge_nd r _ (by simpa using h)]
    simp
theorem kv_merge {ps : Pk} (nd : (ps.map (·.1)).Nodup) : mergeP [] (kvS ps) = kvS ps := by
  rw [merge_nd _ _ ?_]; · rfl
  have e : ([] ++ kvS ps).map (fun kv : Key × PV => kv.1) = (ps.map (·.1)).map (Sum.inr (α := Int)) := by unfold kvS; rw [List.nil_append, List.map_map, List.map_map]; rfl
  rw [e]
  exact List.Pairwise.map _ (fun a b z e => z (Sum.inr.inj e)) nd
section
variable {pg : Tb} (T : Has pg)
include T
theorem jw_eq (k : Nat) (o : Bo) (a b : Int) (h : PH) (ha : 0 ≤ a ∧ a ≤ 999) : run pg (k + 1) "joined_worth" [.str o.w, .int a, .int b] h = .ok (.int (o.f a b)) h := by
  rw [run_eq T.f_joined_worth rfl]
  cases o <;> simp? (disch := omega) only [d_joined_worth, b_joined_worth, Bo.w, Bo.f]
  all_goals split <;> rfl
theorem worth_eq (h : PH) {ps : Pk} (nd : (ps.map (·.1)).Nodup) (hm : ∀ q ∈ ps, 1 ≤ q.2 ∧ q.2 ≤ 999) (hl : ps.length ≤ 1000) : ∀ (e : Sm) (k : Nat), e.ok → e.dp ≤ k → run pg (k + 1) "worth" [smV e, pkV ps] h = .ok (.int (e.val (fP ps))) h
  | .num n, k, ho, hk => by
    rw [run_eq T.f_worth rfl]
    simp? (disch := omega) only [d_worth, b_worth, smV, Sm.val]
  | .of x, k, ho, hk => by
    rw [run_eq T.f_worth rfl]
    have hz : (ps.map prV).length < 16777216 := by rw [List.length_map]; omega
    simp? (disch := omega) only [d_worth, b_worth, smV, pkV, Sm.val, pairs_kv, kv_merge nd, val_kv, dict_S hz]
    exact settle_app rfl
  | .un a, k, ho, hk => by
    obtain ⟨k, rfl⟩ : ∃ j, k = j + 1 := ⟨k - 1, by unfold Sm.dp at hk; omega⟩
    have ih := worth_eq h nd hm hl a k ho (by unfold Sm.dp at hk; omega)
    rw [run_eq T.f_worth rfl]
    simp? (disch := omega) only [d_worth, b_worth, smV, Sm.val, ih]
    split <;> rfl
  | .bin o a b, k, ho, hk => by
    obtain ⟨k, rfl⟩ : ∃ j, k = j + 1 := ⟨k - 1, by unfold Sm.dp at hk; omega⟩
    have ih1 := worth_eq h nd hm hl a k ho.1 (by unfold Sm.dp at hk; omega)
    have ih2 := worth_eq h nd hm hl b k ho.2 (by unfold Sm.dp at hk; omega)
    have ij := jw_eq T k o (a.val (fP ps)) (b.val (fP ps)) h (Sm.val_in (fP_in hm) a ho.1)
    rw [run_eq T.f_worth rfl]
    cases o <;> (simp only [Bo.w] at ij; simp? (disch := omega) only [d_worth, b_worth, smV, Sm.val, ih1, ih2, ij, Bo.w])
end
end K07
end
section
open PySem L2 P3
set_option maxHeartbeats 1000000
namespace K07
theorem sorted_prs {h : PH} {n : Nat} {os : Pk} (e : h[n]? = some (.lst (os.map prV))) (hl : os.length < 64) (nd : (os.map (·.1)).Nodup) : pSortedW [.ref n] h = .ok (.ref h.length) (h ++ [.lst ((sortP os).map prV)]) := by
  have hi : itemsOf h (.ref n) = some (os.map prV) := by simp [itemsOf, lstOf, e]
  show pSorted [.ref n] h = _
  unfold pSorted
  simp only [hi]
  cases os with
  | nil => simp [strsP, sortS, sortP]
  | cons q r =>
    have e1 : strsP ((q :: r).map prV) = none := rfl
    rw [e1]
    simp only [prsP_map]
    rw [if_pos ⟨hl, nd⟩]
noncomputable def lay (ps : Pk) (x : Str) (v : Int) : Pk := sortP (ps.filter (fun q => !decide (q.1 = x)) ++ if v = 0 then [] else [(x, v)])
theorem sortP_perm (ps : Pk) : (sortP ps).Perm ps := List.mergeSort_perm ps _
theorem sortP_srt {ps : Pk} (nd : (ps.map (·.1)).Nodup) : ((sortP ps).map (·.1)).Pairwise ltS := by
  have h1 : (sortP ps).Pairwise fun a b => leS a.1 b.1 = true := List.pairwise_mergeSort (fun a b c => leS_trans a.1 b.1 c.1) (fun a b => by simpa using leS_total a.1 b.1) ps
  have h2 : ((sortP ps).map (·.1)).Nodup := ((sortP_perm ps).map _).nodup_iff.mpr nd
  rw [List.pairwise_map]
  rw [List.nodup_iff_pairwise_ne, List.pairwise_map] at h2
  refine h1.imp₂ (fun a b z1 z2 => ?_) h2
  rcases ltS_or z2 with z | z
  · exact z
  · unfold leS at z1; simp [z] at z1
theorem fP_mem {ps : Pk} (nd : (ps.map (·.1)).Nodup) : ∀ q ∈ ps, fP ps q.1 = q.2 := by
  induction ps with
  | nil => intro q m; cases m
  | cons p r ih =>
    intro q m
    rw [List.map_cons] at nd; rw [List.nodup_cons] at nd
    unfold fP
    rcases List.mem_cons.mp m with e | m
    · rw [if_pos (by rw [e]), e]
    · rw [if_neg (fun z => nd.1 (by rw [z]; exact List.mem_map.mpr ⟨q, m, rfl⟩))]
      exact ih nd.2 q m
theorem fP_out {ps : Pk} {x : Str} (h : x ∉ ps.map (·.1)) : fP ps x = 0 := by
  induction ps with
  | nil => rfl
  | cons p r ih =>
    rw [List.map_cons, List.mem_cons, not_or] at h
    unfold fP
    rw [if_neg (fun z => h.1 z.symm)]
    exact ih h.2
theorem fP_perm {ps qs : Pk} (p : ps.Perm qs) (nd : (qs.map (·.1)).Nodup) (x : Str) : fP ps x = fP qs x := by
  by_cases hx : x ∈ qs.map (·.1)
  · obtain ⟨q, m, rfl⟩ := List.mem_map.mp hx
    rw [fP_mem nd q m, fP_mem ((p.map (·.1)).nodup_iff.mpr nd) q (p.mem_iff.mpr m)]
  · rw [fP_out hx, fP_out fun z => hx ((p.map (·.1)).mem_iff.mp z)]
theorem lay_nd {ps : Pk} (nd : (ps.map (·.1)).Nodup) (x : Str) (v : Int) : ((ps.filter (fun q => !decide (q.1 = x)) ++ if v = 0 then [] else [(x, v)]).map (·.1)).Nodup := by
  rw [List.map_append]
  refine List.nodup_append.mpr ⟨(List.Sublist.map _ List.filter_sublist).nodup nd, ?_, fun a ha b hb e => ?_⟩
  · split <;> simp
  · split at hb
    · cases hb
    · obtain ⟨q, m, rfl⟩ := List.mem_map.mp ha
      have hb' : b = x := by simpa using hb
      have := (List.mem_filter.mp m).2
      simp only [Bool.not_eq_true', decide_eq_false_iff_not] at this
      exact this (e.trans hb')
theorem lay_fP {ps : Pk} (nd : (ps.map (·.1)).Nodup) (x : Str) (v : Int) (y : Str) : fP (lay ps x v) y = if y = x then v else fP ps y := by
  rw [lay, fP_perm (sortP_perm _) (lay_nd nd x v)]
  have app : ∀ (l m : Pk) (y : Str), fP (l ++ m) y = if y ∈ l.map (·.1) then fP l y else fP m y := by
    intro l m y
    induction l with
    | nil => rfl
    | cons q r ih =>
      rw [List.cons_append, fP, fP, ih]
      by_cases e : q.1 = y
      · rw [if_pos e, if_pos e, if_pos (by rw [List.map_cons, e]; exact List.mem_cons_self)]
      · have e' : ¬ y = q.1 := fun z => e z.symm
        rw [if_neg e, if_neg e]
        simp only [List.map_cons, List.mem_cons, e', false_or]
  have fil : ∀ l : Pk, ¬ y = x → fP (l.filter fun q => !decide (q.1 = x)) y = fP l y := by
    intro l ne
    induction l with
    | nil => rfl
    | cons q r ih =>
      by_cases e : q.1 = x
      · rw [List.filter_cons_of_neg (by simp [e]), fP, if_neg (fun z => ne (z.symm.trans e)), ih]
      · rw [List.filter_cons_of_pos (by simp [e]), fP, fP, ih]
  rw [app]
  by_cases e : y = x
  · rw [if_pos e, if_neg]
    · split
      · rename_i z; rw [z]; rfl
      · rw [fP, if_pos e.symm]
    · intro z
      obtain ⟨q, m, rfl⟩ := List.mem_map.mp z
      have := (List.mem_filter.mp m).2
      simp [e] at this
  · rw [if_neg e, fil ps e]
    split
    · rfl
    · rename_i z
      have h0 : fP ps y = 0 := by
        rw [← fil ps e]; exact fP_out z
      rw [h0]
      split
      · rfl
      · rw [fP, if_neg (fun z => e z.symm)]; rfl
structure PkIn (L : List Str) (ps : Pk) : Prop where
  srt : (ps.map (·.1)).Pairwise ltS
  mem : ∀ q ∈ ps, q.1 ∈ L ∧ 1 ≤ q.2 ∧ q.2 ≤ 999
theorem PkIn.nd {L : List Str} {ps : Pk} (h : PkIn L ps) : (ps.map (·.1)).Nodup := h.srt.imp fun {a b} z e => by subst e; exact ltS_irrefl _ z
theorem PkIn.len {L : List Str} {ps : Pk} (h : PkIn L ps) : ps.length ≤ L.length := by
  have := List.Nodup.length_le_of_subset h.nd (l₂ := L) (fun x hx => by obtain ⟨q, hq, rfl⟩ := List.mem_map.mp hx; exact (h.mem q hq).1)
  simpa using this
theorem PkIn.nil {L : List Str} : PkIn L [] := ⟨.nil, fun q m => by cases m⟩
theorem lay_in {L : List Str} {ps : Pk} {x : Str} {v : Int} (h : PkIn L ps) (hx : x ∈ L) (h0 : 0 ≤ v) (h9 : v ≤ 999) : PkIn L (lay ps x v) := by
  refine ⟨sortP_srt (lay_nd h.nd x v), fun q m => ?_⟩
  rcases List.mem_append.mp ((sortP_perm _).mem_iff.mp m) with m | m
  · exact h.mem q (List.mem_filter.mp m).1
  · split at m
    · cases m
    · rw [List.mem_singleton.mp m]; exact ⟨hx, show 1 ≤ v by omega, h9⟩
theorem pk_ext {L : List Str} {ps qs : Pk} (h1 : PkIn L ps) (h2 : PkIn L qs) (e : ∀ x, fP ps x = fP qs x) : ps = qs := by
  have key : ∀ {ps qs : Pk}, PkIn L ps → PkIn L qs → (∀ x, fP ps x = fP qs x) → ∀ q ∈ ps, q ∈ qs := fun {ps qs} h1 h2 e q m => by
    have h := fP_mem h1.nd q m
    have hx : q.1 ∈ qs.map (·.1) := Decidable.byContradiction fun z => by
      have := (h1.mem q m).2.1
      rw [e, fP_out z] at h; omega
    obtain ⟨q', m', e'⟩ := List.mem_map.mp hx
    have h' := fP_mem h2.nd q' m'
    rw [e', ← e, h] at h'
    have : q' = q := Prod.ext e' h'.symm
    rw [← this]; exact m'
  refine sort_uniq (le := fun a b => ltS a.1 b.1) (fun a _ b _ z1 z2 => absurd z2 (ltS_asymm z1)) ?_ (by simpa [List.pairwise_map] using h1.srt) (by simpa [List.pairwise_map] using h2.srt)
  have n1 : ps.Nodup := List.Pairwise.of_map (R := (· ≠ ·)) (·.1) (fun a b z e => z (by rw [e])) h1.nd
  have n2 : qs.Nodup := List.Pairwise.of_map (R := (· ≠ ·)) (·.1) (fun a b z e => z (by rw [e])) h2.nd
  exact (List.perm_ext_iff_of_nodup n1 n2).mpr fun q => ⟨key h1 h2 e q, key h2 h1 (fun x => (e x).symm) q⟩
theorem pk_filter (x : Str) : ∀ ps : Pk, (ps.filterMap fun q => if q.1 = x then none else some (prV q)) = (ps.filter (fun q => !decide (q.1 = x))).map prV
  | [] => rfl
  | q :: r => by
    by_cases z : q.1 = x
    · rw [List.filterMap_cons_none (by simp [z]), List.filter_cons_of_neg (by simp [z]), pk_filter x r]
    · rw [List.filterMap_cons_some (by rw [if_neg z]), List.filter_cons_of_pos (by simp [z]), List.map_cons, pk_filter x r]
section
variable {pg : Tb} (T : Has pg)
include T
theorem laid_eq (k : Nat) (h : PH) {ps : Pk} (nd : (ps.map (·.1)).Nodup) (x : Str) (v : Int) (hl : (lay ps x v).length ≤ 20) (hp : ps.length ≤ 1000) : run pg (k + 1) "laid" [pkV ps, .str x, .int v] h = .ok (pkV (lay ps x v)) h := by
  rw [run_eq T.f_laid rfl]
  have e1 : lcS ⟨none, ps.map prV⟩ (lcStep 1 (gN 4) (mVal (eOp pNe (eOp pIx (eVar 4) (eC (.int 0))) (eVar 1))) (eVar 4) (run pg k) [some (.tup (ps.map prV)), some (.str x), some (.int v), none]) (ps.map prV) [] h = .ok ([] ++ ps.filterMap fun q => if q.1 = x then none else some (prV q)) h := by
    refine lcS_map rfl ps [] (fun q m => ?_) (by simp; omega)
    simp? (disch := omega) only [prV]
    by_cases z : q.1 = x <;> simp [z]
  rw [pk_filter, List.nil_append] at e1
  have hl' : (ps.filter (fun q => !decide (q.1 = x)) ++ if v = 0 then [] else [(x, v)]).length ≤ 20 := by rw [← (sortP_perm _).length_eq]; exact hl
  have nd' := lay_nd nd x v
  have hz : ((ps.filter (fun q => !decide (q.1 = x))).map prV).length < 16777216 := by
    rw [List.length_map]
    have := List.length_filter_le (fun q : Str × Int => !decide (q.1 = x)) ps
    omega
  by_cases hv : v = 0
  · subst hv
    rw [if_pos rfl, List.append_nil] at hl' nd'
    have s1 := sorted_prs (h := h ++ [.lst ((ps.filter (fun q => !decide (q.1 = x))).map prV)]) (n := h.length) hp_new (Nat.lt_of_le_of_lt hl' (by decide)) nd'
    simp? (disch := omega) only [d_laid, b_laid, pkV, e1, s1]
    rw [settle_app (v := .tup _) (prV_flat _), lay, if_pos rfl, List.append_nil]
  · rw [if_neg hv] at hl' nd'
    have s1 := sorted_prs (h := h ++ [.lst ((ps.filter (fun q => !decide (q.1 = x)) ++ [(x, v)]).map prV)]) (n := h.length) hp_new (Nat.lt_of_le_of_lt hl' (by decide)) nd'
    rw [List.map_append] at s1
    simp? (disch := omega) only [d_laid, b_laid, pkV, e1, hv, ap_L hz]
    rw [show List.map prV [(x, v)] = [PV.tup [PV.str x, PV.int v]] from rfl] at s1
    simp? (disch := omega) only [s1, List.map_cons, List.map_nil]
    rw [settle_app (v := .tup _) (prV_flat _), lay, if_neg hv]
end
end K07
end
section
open PySem L2 P3
set_option maxHeartbeats 1000000
namespace K07
inductive Rw where
  | let_ (x : Str) (e : Sm) | leap (k : Int) (e : Sm) | take (l : Str) | free (l : Str) | get (x b : Str) | put (b : Str) (e : Sm)
  | send (l : Str) (e : Sm) | fetch (x l : Str) | say (d : Str) (e : Sm) | clock (x : Str) | lot (x : Str) (n : Int) | hear (x d : Str)
noncomputable def Rw.w : Rw → Str
  | .let_ _ _ => "let" | .leap _ _ => "leap" | .take _ => "take" | .free _ => "free" | .get _ _ => "get" | .put _ _ => "put"
  | .send _ _ => "send" | .fetch _ _ => "fetch" | .say _ _ => "say" | .clock _ => "clock" | .lot _ _ => "lot" | .hear _ _ => "hear"
noncomputable def Rw.ps : Rw → List PV
  | .let_ x e => [.str x, smV e] | .leap k e => [.int k, smV e] | .take l => [.str l] | .free l => [.str l] | .get x b => [.str x, .str b] | .put b e => [.str b, smV e]
  | .send l e => [.str l, smV e] | .fetch x l => [.str x, .str l] | .say d e => [.str d, smV e] | .clock x => [.str x] | .lot x n => [.str x, .int n] | .hear x d => [.str x, .str d]
noncomputable def rwV (r : Rw) : PV := .tup (.str r.w :: r.ps)
noncomputable def rowsV (rs : List Rw) : PV := .tup (rs.map rwV)
structure Seat where
  row : Nat
  ps : Pk
  held : List Str
noncomputable def heldV (hs : List Str) : PV := .tup (hs.map PV.str)
noncomputable def seatV (s : Seat) : PV := .tup [.int s.row, pkV s.ps, heldV s.held]
noncomputable def own (held : List Str) : Rw → Bool
  | .take l => decide (l ∈ held)
  | .free l => !decide (l ∈ held)
  | .let_ _ _ => true
  | .leap _ _ => true
  | _ => false
noncomputable def SmOk (e : Sm) : Prop := e.ok ∧ e.dp ≤ 7
noncomputable def RwOk (L : List Str) (n : Nat) : Rw → Prop
  | .let_ x e => x ∈ L ∧ SmOk e
  | .leap k e => 0 ≤ k ∧ k ≤ n ∧ SmOk e
  | .put _ e => SmOk e
  | .send _ e => SmOk e
  | .say _ e => SmOk e
  | .get x _ => x ∈ L
  | .fetch x _ => x ∈ L
  | .clock x => x ∈ L
  | .lot x m => x ∈ L ∧ 2 ≤ m ∧ m ≤ 1000
  | .hear x _ => x ∈ L
  | _ => True
noncomputable def behind (s : Seat) : Rw → Seat
  | .let_ x e => ⟨s.row + 1, lay s.ps x (e.val (fP s.ps)), s.held⟩
  | .leap k e => if e.val (fP s.ps) = 0 then ⟨s.row + 1, s.ps, s.held⟩ else ⟨k.toNat, s.ps, s.held⟩
  | _ => ⟨s.row + 1, s.ps, s.held⟩
structure SeatOk (L : List Str) (rs : List Rw) (s : Seat) : Prop where
  pk : PkIn L s.ps
  le : s.row ≤ rs.length
theorem held_flat : ∀ hs : List Str, PV.flatL (hs.map PV.str) = true
  | [] => rfl
  | x :: r => by rw [List.map_cons, PV.flatL, held_flat r]; rfl
theorem seatV_flat (s : Seat) : (seatV s).flat = true := by
  simp [seatV, PV.flat, PV.flatL, pkV, prV_flat, heldV, held_flat]
theorem rwV_flat (r : Rw) : (rwV r).flat = true := by
  cases r <;> simp [rwV, Rw.ps, PV.flat, PV.flatL, smV_flat]
theorem rows_flat : ∀ rs : List Rw, PV.flatL (rs.map rwV) = true
  | [] => rfl
  | x :: r => by rw [List.map_cons, PV.flatL, rows_flat r, rwV_flat]; rfl
noncomputable def rested1 (rs : List Rw) (s : Seat) : Bool := match rs[s.row]? with
  | none => true
  | some r => !own s.held r
noncomputable def restF (rs : List Rw) : Nat → Seat → Seat
  | 0, s => if rested1 rs s then s else ⟨rs.length, s.ps, s.held⟩
  | n + 1, s => if rested1 rs s then s else match rs[s.row]? with
    | none => s
    | some r => restF rs n (behind s r)
theorem behind_ok {L : List Str} {rs : List Rw} {s : Seat} {r : Rw} (h : SeatOk L rs s) (hr : RwOk L rs.length r) (e : rs[s.row]? = some r) : SeatOk L rs (behind s r) := by
  have hlt : s.row < rs.length := (List.getElem?_eq_some_iff.mp e).1
  cases r with
  | let_ x e0 =>
    have hv := Sm.val_in (fP_in fun q m => (h.pk.mem q m).2) e0 hr.2.1
    exact ⟨lay_in h.pk hr.1 hv.1 hv.2, hlt⟩
  | leap j e0 =>
    show SeatOk L rs (if e0.val (fP s.ps) = 0 then ⟨s.row + 1, s.ps, s.held⟩ else ⟨j.toNat, s.ps, s.held⟩)
    split
    · exact ⟨h.pk, hlt⟩
    · exact ⟨h.pk, by have := hr.2.1; have := hr.1; show Int.toNat _ ≤ rs.length; omega⟩
  | _ => exact ⟨h.pk, hlt⟩
theorem restF_ok {L : List Str} {rs : List Rw} (hr : ∀ r ∈ rs, RwOk L rs.length r) : ∀ (n : Nat) (s : Seat), SeatOk L rs s → SeatOk L rs (restF rs n s)
  | 0, s, h => by unfold restF; split; · exact h
                  · exact ⟨h.pk, Nat.le_refl _⟩
  | n + 1, s, h => by
    unfold restF; split
    · exact h
    · split
      · exact h
      · rename_i r e; exact restF_ok hr n _ (behind_ok h (hr r (List.mem_of_getElem? e)) e)
theorem atI_rows {rs : List Rw} {s : Seat} {r : Rw} (e : rs[s.row]? = some r) : atI (rs.map rwV) (s.row : Int) = some (rwV r) := P3.atI_nat rfl (by rw [List.getElem?_map, e]; rfl)
section
variable {pg : Tb} (T : Has pg)
include T
theorem own_eq (k : Nat) (h : PH) (r : Rw) (held : List Str) : run pg (k + 1) "is_own_row" [rwV r, heldV held] h = .ok (.bl (own held r)) h := by
  rw [run_eq T.f_is_own_row rfl]
  cases r <;> simp? (disch := omega) only [d_is_own_row, b_is_own_row, rwV, Rw.w, Rw.ps, heldV, own]
theorem behind_eq (k : Nat) (h : PH) {L : List Str} (hL : L.length ≤ 20) {rs : List Rw} {s : Seat} {r : Rw} (hs : SeatOk L rs s) (hr : RwOk L rs.length r) (hrow : rs[s.row]? = some r) : run pg (k + 9) "behind_own_row" [rwV r, seatV s] h = .ok (seatV (behind s r)) h := by
  have nd := hs.pk.nd
  have hm : ∀ q ∈ s.ps, 1 ≤ q.2 ∧ q.2 ≤ 999 := fun q m => (hs.pk.mem q m).2
  have hl := hs.pk.len
  have w : ∀ e : Sm, SmOk e → run pg (k + 8) "worth" [smV e, pkV s.ps] h = .ok (.int (e.val (fP s.ps))) h := fun e he => worth_eq T h nd hm (by omega) e (k + 7) he.1 (by have := he.2; omega)
  rw [run_eq T.f_behind_own_row rfl]
  cases r with
  | let_ x e =>
    have hb := (behind_ok hs hr hrow).pk.len
    have l1 := laid_eq T (k + 7) h nd x (e.val (fP s.ps)) (Nat.le_trans hb hL) (by omega)
    simp? (disch := omega) only [d_behind_own_row, b_behind_own_row, rwV, Rw.w, Rw.ps, seatV, behind, w e hr.2, l1]
    rfl
  | leap j e =>
    simp? (disch := omega) only [d_behind_own_row, b_behind_own_row, rwV, Rw.w, Rw.ps, seatV, behind, w e hr.2.2]
    by_cases z : e.val (fP s.ps) = 0
    · simp only [z, if_true]; rfl
    · have : ((j.toNat : Nat) : Int) = j := by have := hr.1; omega
      simp only [z, if_false, this]
  | _ =>
    simp? (disch := omega) only [d_behind_own_row, b_behind_own_row, rwV, Rw.w, Rw.ps, seatV, behind]
    rfl
theorem is_rested_eq (k : Nat) (h : PH) {rs : List Rw} {s : Seat} (hs : s.row ≤ rs.length) : run pg (k + 2) "is_rested" [rowsV rs, seatV s] h = .ok (.bl (rested1 rs s)) h := by
  rw [run_eq T.f_is_rested rfl]
  cases e : rs[s.row]? with
  | none =>
    have : s.row = rs.length := by have := List.getElem?_eq_none_iff.mp e; omega
    have r1 : rested1 rs s = true := by unfold rested1; rw [e]
    simp? (disch := omega) only [d_is_rested, b_is_rested, rowsV, seatV, r1, this, List.length_map]
  | some r =>
    have hlt : s.row < rs.length := (List.getElem?_eq_some_iff.mp e).1
    have ne : ¬ (s.row : Int) = (rs.length : Int) := by omega
    have ix := ix_T (h := h) (atI_rows e)
    have o1 := own_eq T k h r s.held
    simp? (disch := omega) only [d_is_rested, b_is_rested, rowsV, seatV, rested1, e, ne, ix, o1, List.length_map]
noncomputable def HandAt (p : PV) (j : Int) (rs : List Rw) : Prop := ∃ a b c d hs nm, p = .tup [a, b, c, d, .tup hs] ∧ atI hs j = some (.tup [nm, rowsV rs])
theorem rows_of_eq (k : Nat) (h : PH) {p : PV} {j : Int} {rs : List Rw} (hp : HandAt p j rs) : run pg (k + 1) "rows_of" [p, .int j] h = .ok (rowsV rs) h := by
  obtain ⟨a, b, c, d, hs, nm, rfl, e⟩ := hp
  rw [run_eq T.f_rows_of rfl]
  simp? (disch := omega) only [d_rows_of, b_rows_of, ix_T e]
theorem rested_eq (k : Nat) (h : PH) {L : List Str} (hL : L.length ≤ 20) {p : PV} {j : Int} {rs : List Rw} (hp : HandAt p j rs) (hr : ∀ r ∈ rs, RwOk L rs.length r) {s : Seat} (hs : SeatOk L rs s) : run pg (k + 10) "rested" [p, .int j, seatV s] h = .ok (seatV (restF rs 200 s)) h := by
  have rest : ∀ (xs xs0 : List PV) (s0 s : Seat) (tv : Option PV), SeatOk L rs s →
      ((loopS ⟨none, xs0⟩ (fstep (gN 5) (sSeq (sIf (mVal (eCall "is_rested" (aCons (eVar 3) (aCons (eVar 4) aNil)))) (sRet (eVar 4)) sNx) (sAsg (eCall "behind_own_row" (aCons (eOp pIx (eVar 3) (eOp pIx (eVar 4) (eC (.int 0)))) (aCons (eVar 4) aNil))) (gN 4))) (run pg (k + 9))) xs
        [some p, some (.int j), some (seatV s0), some (rowsV rs), some (seatV s), tv] h).bind
        (seqk (sSeq (sIf (mVal (eCall "is_rested" (aCons (eVar 3) (aCons (eVar 4) aNil)))) (sRet (eVar 4)) sNx) (sRet (eTup (aCons (eB pLen (aCons (eVar 3) aNil)) (aCons (eOp pIx (eVar 4) (eC (.int 1))) (aCons (eOp pIx (eVar 4) (eC (.int 2))) aNil)))))) (run pg (k + 9)))) = .ok (.rt (seatV (restF rs xs.length s))) h := by
    intro xs xs0 s0
    induction xs with
    | nil =>
      intro s tv hs
      have q := is_rested_eq T (k + 7) h hs.le
      simp? (disch := omega) only [ev_lpN, restF, List.length_nil, q]
      cases rested1 rs s <;> simp? (disch := omega) only [seatV, rowsV, List.length_map, restF]
    | cons x xs ih =>
      intro s tv hs
      have q := is_rested_eq T (k + 7) h hs.le
      rw [ev_lpC]
      simp? (disch := omega) only [restF, List.length_cons, q]
      cases e : rs[s.row]? with
      | none =>
        have r1 : rested1 rs s = true := by unfold rested1; rw [e]
        simp? (disch := omega) only [r1, ev_lpkR]
      | some r =>
        cases r1 : rested1 rs s with
        | true => simp? (disch := omega) only [r1, ev_lpkR]
        | false =>
          have hm := hr r (List.mem_of_getElem? e)
          have ix := ix_T (h := h) (atI_rows e)
          have be := behind_eq T k h hL hs hm e
          have i0 : pIx (seatV s) (.int 0) h = .ok (.int s.row) h := rfl
          have ix' : pIx (rowsV rs) (.int s.row) h = .ok (rwV r) h := ix
          simp? (disch := omega) only [r1, i0, ix', be, ev_lpkN, ih _ _ (behind_ok hs hm e)]
  rw [run_eq T.f_rested rfl]
  have ro := rows_of_eq T (k + 8) h hp
  simp? (disch := omega) only [d_rested, b_rested, ro]
  have hh := rest (rangeP 0 200) (rangeP 0 200) s s none hs
  have len : (rangeP 0 200).length = 200 := rfl
  rw [len] at hh
  exact (congrArg (fin h) hh).trans (by rw [fin_rt, settle_self])
end
end K07
end
section
open PySem L2 P3
set_option maxHeartbeats 1000000
namespace K07
section
variable {pg : Tb} (T : Has pg)
include T
theorem first_seat_eq (k : Nat) (h : PH) {L : List Str} (hL : L.length ≤ 20) {p : PV} {j : Int} {rs : List Rw} (hp : HandAt p j rs) (hr : ∀ r ∈ rs, RwOk L rs.length r) : run pg (k + 11) "first_seat" [p, .int j] h = .ok (seatV (restF rs 200 ⟨0, [], []⟩)) h := by
  have := rested_eq T k h hL hp hr (s := ⟨0, [], []⟩) ⟨.nil, Nat.zero_le _⟩
  rw [run_eq T.f_first_seat rfl]
  have e : PV.tup [.int 0, .tup [], .tup []] = seatV ⟨0, [], []⟩ := rfl
  simp? (disch := omega) only [d_first_seat, b_first_seat, e, this]
end
end K07
end
section
open PySem L2 P3
set_option maxHeartbeats 1000000
namespace K07
noncomputable def frO (ns : List Int) : PO := .fro (ns.map PV.int)
theorem ten18 : (10 : Int) ^ Int.toNat 18 = 1000000000000000000 := by decide +kernel
theorem ten18b : (10 : Int) ^ 18 = 1000000000000000000 := by decide +kernel
theorem atI_ints {ns : List Int} {i : Int} (h0 : 0 ≤ i) (h1 : i < ns.length) : ∃ v : Int, atI (ns.map PV.int) i = some (.int v) := by
  obtain ⟨n, en⟩ := Int.eq_ofNat_of_zero_le h0; subst en
  have hn : n < ns.length := by omega
  exact ⟨ns[n], P3.atI_nat rfl (by rw [List.getElem?_map, List.getElem?_eq_getElem hn]; rfl)⟩
section
variable {pg : Tb} (T : Has pg)
include T
theorem draw_ok (j : Nat) {h : PH} {r : Nat} {ns : List Int} (hr : h[r]? = some (frO ns)) (hn : ns.length ≤ 63) {k m : Int} (k0 : 0 ≤ k) (k9 : k ≤ 1000000) (m0 : 0 < m) (m9 : m ≤ 1000000000) : ∃ v : Int, 0 ≤ v ∧ v < m ∧ run pg (j + 1) "_law_draw" [.ref r, .int k, .int m] h = .ok (.int v) h := by
  have fin1 : ∀ v : Int, run pg (j + 1) "_law_draw" [.ref r, .int k, .int m] h = .ok (.int (v % m)) h → ∃ v : Int, 0 ≤ v ∧ v < m ∧ run pg (j + 1) "_law_draw" [.ref r, .int k, .int m] h = .ok (.int v) h := fun v e => ⟨_, Int.emod_nonneg _ (by omega), Int.emod_lt_of_pos _ m0, e⟩
  have key : ∃ v : Int, run pg (j + 1) "_law_draw" [.ref r, .int k, .int m] h = .ok (.int (v % m)) h := by
    rw [run_eq T.f__law_draw rfl]
    by_cases z : ns.length = 0
    · have hz : ¬ (0 : Int) < (ns.length : Int) := by omega
      have z18 : ¬ (1000000000000000000 : Int) ≤ 0 := by omega
      simp? (disch := omega) only [d__law_draw, b__law_draw, hr, frO, List.length_map, hz, ten18, ten18b, z18, op_mulR]
      exact ⟨_, rfl⟩
    · have hz : (0 : Int) < (ns.length : Int) := by omega
      obtain ⟨v, hv⟩ := atI_ints (ns := ns) (i := k % ns.length) (Int.emod_nonneg _ (by omega)) (Int.emod_lt_of_pos _ hz)
      have loop : ∀ (xs xs0 : List PV) (a : Int) (o : Option PV), ∃ (b : Int) (o' : Option PV), loopS ⟨none, xs0⟩ (fstep (gN 5) (sAsg (eOp pFdiv (eVar 4) (eC (.int 1000003))) (gN 4)) (run pg j)) xs [some (.ref r), some (.int k), some (.int m), some (.int v), some (.int a), o, none] h = .ok (.nx [some (.ref r), some (.int k), some (.int m), some (.int v), some (.int b), o', none]) h := by
        intro xs xs0
        induction xs with
        | nil => intro a o; exact ⟨a, o, rfl⟩
        | cons x xs ih =>
          intro a o
          obtain ⟨b, o', e⟩ := ih (a / 1000003) (some x)
          refine ⟨b, o', ?_⟩
          rw [ev_lpC]
          simp? (disch := omega) only [ev_lpkN, e]
      have hm60 : 0 ≤ k / (ns.length : Int) % 60 ∧ k / (ns.length : Int) % 60 < 60 := ⟨Int.emod_nonneg _ (by omega), Int.emod_lt_of_pos _ (by omega)⟩
      by_cases z18 : (1000000000000000000 : Int) ≤ v
      · obtain ⟨b, o', e⟩ := loop (rangeP 0 (Int.toNat (k / (ns.length : Int) % 60))) (rangeP 0 (Int.toNat (k / (ns.length : Int) % 60))) v none
        by_cases b0 : 0 < b
        · simp? (disch := omega) only [d__law_draw, b__law_draw, hr, frO, List.length_map, hz, hv, ten18, ten18b, z18, e, b0, op_mulR]
          exact ⟨_, rfl⟩
        · simp? (disch := omega) only [d__law_draw, b__law_draw, hr, frO, List.length_map, hz, hv, ten18, ten18b, z18, e, b0, op_mulR]
          exact ⟨_, rfl⟩
      · simp? (disch := omega) only [d__law_draw, b__law_draw, hr, frO, List.length_map, hz, hv, ten18, ten18b, z18, op_mulR]
        exact ⟨_, rfl⟩
  obtain ⟨v, e⟩ := key
  exact fin1 v e
end
end K07
end
section
open PySem L2 P3
set_option maxHeartbeats 1000000
namespace K07
noncomputable def stL (k : Int) (o : Option Int) : PO := .dct ((.inr "script", .ref 0) :: (.inr "k", .int k) :: (match o with | none => [] | some l => [(.inr "left", .int l)]))
theorem stL_und {k : Int} {o : Option Int} {n : Nat} (hn : 0 < n) : (stL k o).und n = true := by cases o <;> simp [stL, PO.und, PV.undL, PV.und, hn]
theorem settleL {ns : List Int} {k k' : Int} {o o' : Option Int} {g g' : PH} {v : PV} (hv : v.flat = true) : settle (frO ns :: stL k o :: g) v (frO ns :: stL k' o' :: (g ++ g')) = .ok v (frO ns :: stL k' o' :: g) :=
  settle_set (h := frO ns :: stL k o :: g) (g := g') (i := 1) (o := stL k o) (o' := stL k' o') hv rfl rfl (stL_und (by simp))
theorem settleL0 {ns : List Int} {k k' : Int} {o o' : Option Int} {g : PH} {v : PV} : settle (frO ns :: stL k o :: g) v (frO ns :: stL k' o' :: g) = .ok v (frO ns :: stL k' o' :: g) :=
  settle_set0 (h := frO ns :: stL k o :: g) (i := 1) (o := stL k o) (o' := stL k' o')
section
variable {ns : List Int} {k l v : Int} {o : Option Int} {g : PH}
theorem k_get {h : PH} : ixk (.str "k") h (some (stL k o)) = .ok (.int k) h := by cases o <;> simp [stL, ix_D, valP, ofString_inj, ov_some]
theorem script_get {h : PH} : ixk (.str "script") h (some (stL k o)) = .ok (.ref 0) h := by cases o <;> simp [stL, ix_D, valP, ofString_inj, ov_some]
theorem left_get {h : PH} : ixk (.str "left") h (some (stL k (some l))) = .ok (.int l) h := by simp [stL, ix_D, valP, ofString_inj, ov_some]
theorem k_put {h : PH} {n : Nat} : putk n (.str "k") (.int v) h (some (stL k o)) = .ok () (h.set n (stL v o)) := by
  unfold stL
  rw [put_D (by cases o <;> simp)]
  cases o <;> simp [putP, ofString_inj]
theorem left_put {h : PH} {n : Nat} : putk n (.str "left") (.int v) h (some (stL k o)) = .ok () (h.set n (stL k (some v))) := by
  unfold stL
  rw [put_D (by cases o <;> simp)]
  cases o <;> simp [putP, ofString_inj]
end
section
variable {pg : Tb} (T : Has pg)
include T
theorem pickL (j : Nat) (g : PH) {ns : List Int} (hn : ns.length ≤ 63) (o : Option Int) {k : Int} (m : Int) (k0 : 0 ≤ k) (k9 : k < 1000000) (m0 : 0 < m) (m9 : m ≤ 1000000000) : ∃ v : Int, 0 ≤ v ∧ v < m ∧ run pg (j + 2) "_law_pick" [.ref 1, .int m] (frO ns :: stL k o :: g) = .ok (.int v) (frO ns :: stL (k + 1) o :: g) := by
  obtain ⟨v, h0, h1, e⟩ := draw_ok T j (h := frO ns :: stL (k + 1) o :: g) (r := 0) rfl hn (k := k + 1) (by omega) (by omega) m0 m9
  refine ⟨v, h0, h1, ?_⟩
  rw [run_eq T.f__law_pick rfl]
  simp? (disch := omega) only [d__law_pick, b__law_pick, k_get, k_put, script_get, e, settleL0]
end
noncomputable def bS : Nat → Int
  | 0 => 3
  | d + 1 => 2 + 2 * bS d
theorem bS_pos : ∀ d, 3 ≤ bS d
  | 0 => by decide
  | d + 1 => by have := bS_pos d; unfold bS; omega
theorem at_word {v : Int} (h0 : 0 ≤ v) (h1 : v < 5) : ∃ o : Bo, atI [PV.str "add", .str "sub", .str "mul", .str "less", .str "same"] v = some (.str o.w) := by
  have : v = 0 ∨ v = 1 ∨ v = 2 ∨ v = 3 ∨ v = 4 := by omega
  rcases this with rfl | rfl | rfl | rfl | rfl
  · exact ⟨.add, rfl⟩
  · exact ⟨.sub, rfl⟩
  · exact ⟨.mul, rfl⟩
  · exact ⟨.less, rfl⟩
  · exact ⟨.same, rfl⟩
theorem at_num {v w : Int} (h0 : 0 ≤ v) (h1 : v < 5) (w0 : 0 ≤ w) (w1 : w < 1000) : ∃ n : Int, 0 ≤ n ∧ n ≤ 999 ∧ atI [PV.int 0, .int 1, .int 2, .int 999, .int w] v = some (.int n) := by
  have : v = 0 ∨ v = 1 ∨ v = 2 ∨ v = 3 ∨ v = 4 := by omega
  rcases this with rfl | rfl | rfl | rfl | rfl
  · exact ⟨0, by decide, by decide, rfl⟩
  · exact ⟨1, by decide, by decide, rfl⟩
  · exact ⟨2, by decide, by decide, rfl⟩
  · exact ⟨999, by decide, by decide, rfl⟩
  · exact ⟨w, w0, by omega, rfl⟩
theorem at_str {ss : List Str} {v : Int} (h0 : 0 ≤ v) (h1 : v < ss.length) : ∃ x ∈ ss, atI (ss.map PV.str) v = some (.str x) := by
  obtain ⟨n, en⟩ := Int.eq_ofNat_of_zero_le h0; subst en
  have hn : n < ss.length := by omega
  exact ⟨ss[n], List.getElem_mem hn, P3.atI_nat rfl (by rw [List.getElem?_map, List.getElem?_eq_getElem hn]; rfl)⟩
section
variable {pg : Tb} (T : Has pg)
include T
theorem leaf_ok (j : Nat) {ns : List Int} (hn : ns.length ≤ 63) {np : Nat} {ps : List Str} (p0 : 0 < ps.length) (p9 : ps.length ≤ 1000) (deep w k : Int) (o : Option Int) (g : PH) (k0 : 0 ≤ k) (k9 : k + 2 ≤ 1000000) (hp : g[np]? = some (.lst (ps.map PV.str))) (u v : Option PV) :
    ∃ (e : Sm) (k' : Int) (g' : PH), e.ok ∧ e.dp = 1 ∧ k ≤ k' ∧ k' ≤ k + 2 ∧ sSeq (sIf (mVal (eOp pEq (eOp pMod (eVar 3) (eC (.int 2))) (eC (.int 0)))) (sRet (eTup (aCons (eC (.str "num")) (aCons (eOp pIx (eLst (aCons (eC (.int 0)) (aCons (eC (.int 1)) (aCons (eC (.int 2)) (aCons (eC (.int 999)) (aCons (eCall "_law_pick" (aCons (eVar 0) (aCons (eC (.int 1000)) aNil))) aNil)))))) (eCall "_law_pick" (aCons (eVar 0) (aCons (eC (.int 5)) aNil)))) aNil)))) sNx)
    (sRet (eTup (aCons (eC (.str "of")) (aCons (eOp pIx (eVar 1) (eCall "_law_pick" (aCons (eVar 0) (aCons (eB pLen (aCons (eVar 1) aNil)) aNil)))) aNil)))) (run pg (j + 2)) [some (.ref 1), some (.ref (np + 1 + 1)), some (.int deep), some (.int w), u, v] (frO ns :: stL k o :: g) = .ok (.rt (smV e)) (frO ns :: stL k' o :: (g ++ g')) := by
  by_cases z : w % 2 = 0
  · obtain ⟨a, a0, a1, ea⟩ := pickL T j g hn o (k := k) 1000 k0 (by omega) (by decide) (by decide)
    obtain ⟨b, b0, b1, eb⟩ := pickL T j (g ++ [.lst [.int 0, .int 1, .int 2, .int 999, .int a]]) hn o (k := k + 1) 5 (by omega) (by omega) (by decide) (by decide)
    obtain ⟨n, n0, n1, en⟩ := at_num b0 b1 a0 a1
    refine ⟨.num n, k + 1 + 1, [.lst [.int 0, .int 1, .int 2, .int 999, .int a]], ⟨n0, n1⟩, rfl, by omega, by omega, ?_⟩
    simp? (disch := omega) only [z, ea, eb, en, smV]
  · obtain ⟨a, a0, a1, ea⟩ := pickL T j g hn o (k := k) ps.length k0 (by omega) (by omega) (by omega)
    obtain ⟨x, hx, ex⟩ := at_str a0 a1
    refine ⟨.of x, k + 1, [], trivial, rfl, by omega, by omega, ?_⟩
    simp? (disch := omega) only [z, ea, hp, ex, smV, List.length_map, List.append_nil]
theorem sum_in_ok (j : Nat) {ns : List Int} (hn : ns.length ≤ 63) {np : Nat} {ps : List Str} (p0 : 0 < ps.length) (p9 : ps.length ≤ 1000) : ∀ (d : Nat) (deep : Int), deep + d = 5 → ∀ (k l : Int) (g : PH), 0 ≤ k → k + bS d ≤ 1000000 → g[np]? = some (.lst (ps.map PV.str)) →
    ∃ (e : Sm) (k' l' : Int), e.ok ∧ e.dp ≤ d + 1 ∧ k ≤ k' ∧ k' ≤ k + bS d ∧ run pg (j + d + 3) "_law_sum_in" [.ref 1, .ref (np + 1 + 1), .int deep] (frO ns :: stL k (some l) :: g) = .ok (smV e) (frO ns :: stL k' (some l') :: g) := by
  intro d
  induction d with
  | zero =>
    intro deep hd k l g k0 k9 hp
    have hd5 : ¬ deep < 5 := by omega
    simp only [bS] at k9
    obtain ⟨w, w0, w1, ew⟩ := pickL T j g hn (some l) (k := k) 9 k0 (by omega) (by decide) (by decide)
    obtain ⟨e, k', g', h1, h2, h3, h4, h5⟩ := leaf_ok T j hn p0 p9 deep w (k + 1) (some l) g (by omega) (by omega) hp none none
    refine ⟨e, k', l, h1, by omega, by omega, by simp only [bS]; omega, ?_⟩
    rw [run_eq T.f__law_sum_in rfl]
    simp? (disch := omega) only [d__law_sum_in, b__law_sum_in, Nat.add_zero, ew, hd5, ↓h5, settleL (smV_flat e)]
  | succ d ih =>
    intro deep hd k l g k0 k9 hp
    have hd5 : deep < 5 := by omega
    have b3 := bS_pos d
    simp only [bS] at k9
    have hlt := hp_lt hp
    obtain ⟨w, w0, w1, ew⟩ := pickL T (j + d + 1) g hn (some l) (k := k) 9 k0 (by omega) (by decide) (by decide)
    by_cases c1 : 2 < w ∧ 1 < l
    · obtain ⟨a, a0, a1, ea⟩ := pickL T (j + d + 1) (g ++ [.lst [.str "add", .str "sub", .str "mul", .str "less", .str "same"]]) hn (some (l - 2)) (k := k + 1) 5 (by omega) (by omega) (by decide) (by decide)
      obtain ⟨o, eo⟩ := at_word a0 a1
      have hp' : (g ++ [.lst [.str "add", .str "sub", .str "mul", .str "less", .str "same"]])[np]? = some (.lst (ps.map PV.str)) := by rw [hp_old hlt]; exact hp
      obtain ⟨e1, k1, l1, q1, q2, q3, q4, q5⟩ := ih (deep + 1) (by omega) (k + 1 + 1) (l - 2) _ (by omega) (by omega) hp'
      obtain ⟨e2, k2, l2, r1, r2, r3, r4, r5⟩ := ih (deep + 1) (by omega) k1 l1 _ (by omega) (by omega) hp'
      refine ⟨.bin o e1 e2, k2, l2, ⟨q1, r1⟩, by unfold Sm.dp; omega, by omega, by simp only [bS]; omega, ?_⟩
      rw [show j + (d + 1) + 3 = (j + d + 3) + 1 by omega, run_eq T.f__law_sum_in rfl]
      have c11 := c1.1
      have c12 := c1.2
      simp? (disch := omega) only [d__law_sum_in, b__law_sum_in, ew, hd5, c11, c12, left_get, left_put, ea, eo, q5, r5]
      exact settleL (v := smV (.bin o e1 e2)) (smV_flat _)
    · by_cases c2 : w = 2 ∧ 0 < l
      · obtain ⟨c21, c22⟩ := c2
        subst c21
        obtain ⟨e1, k1, l1, q1, q2, q3, q4, q5⟩ := ih (deep + 1) (by omega) (k + 1) (l - 1) g (by omega) (by omega) hp
        refine ⟨.un e1, k1, l1, q1, by unfold Sm.dp; omega, by omega, by simp only [bS]; omega, ?_⟩
        rw [show j + (d + 1) + 3 = (j + d + 3) + 1 by omega, run_eq T.f__law_sum_in rfl]
        simp? (disch := omega) only [d__law_sum_in, b__law_sum_in, ew, hd5, c22, left_get, left_put, q5]
        exact settleL0 (v := smV (.un e1))
      · obtain ⟨e, k', g', h1, h2, h3, h4, h5⟩ := leaf_ok T (j + d + 1) hn p0 p9 deep w (k + 1) (some l) g (by omega) (by omega) hp none none
        refine ⟨e, k', l, h1, by omega, by omega, by simp only [bS]; omega, ?_⟩
        rw [show j + (d + 1) + 3 = (j + d + 3) + 1 by omega, run_eq T.f__law_sum_in rfl]
        by_cases d1 : 2 < w
        · have d2 : ¬ 1 < l := fun z => c1 ⟨d1, z⟩
          have d3 : ¬ w = 2 := by omega
          simp? (disch := omega) only [d__law_sum_in, b__law_sum_in, ew, hd5, d1, d2, d3, left_get, ↓h5, settleL (smV_flat e)]
        · by_cases d3 : w = 2
          · subst d3
            have d2 : ¬ 0 < l := fun z => c2 ⟨rfl, z⟩
            simp? (disch := omega) only [d__law_sum_in, b__law_sum_in, ew, hd5, d1, d2, left_get, ↓h5, settleL (smV_flat e)]
          · simp? (disch := omega) only [d__law_sum_in, b__law_sum_in, ew, hd5, d1, d3, left_get, ↓h5, settleL (smV_flat e)]
omit T in
theorem at_left {v : Int} (h0 : 0 ≤ v) (h1 : v < 4) : ∃ n : Int, atI [PV.int 0, .int 2, .int 5, .int 11] v = some (.int n) := by
  have : v = 0 ∨ v = 1 ∨ v = 2 ∨ v = 3 := by omega
  rcases this with rfl | rfl | rfl | rfl <;> exact ⟨_, rfl⟩
theorem sum_ok (j : Nat) {ns : List Int} (hn : ns.length ≤ 63) {np : Nat} {ps : List Str} (p0 : 0 < ps.length) (p9 : ps.length ≤ 1000) (k : Int) (o : Option Int) (g : PH) (k0 : 0 ≤ k) (k9 : k + 80 ≤ 1000000) (hp : g[np]? = some (.lst (ps.map PV.str))) :
    ∃ (e : Sm) (k' : Int) (o' : Option Int), SmOk e ∧ k ≤ k' ∧ k' ≤ k + 80 ∧ run pg (j + 8) "_law_sum" [.ref 1, .ref (np + 1 + 1)] (frO ns :: stL k o :: g) = .ok (smV e) (frO ns :: stL k' o' :: g) := by
  obtain ⟨a, a0, a1, ea⟩ := pickL T (j + 5) (g ++ [.lst [.int 0, .int 2, .int 5, .int 11]]) hn o (k := k) 4 k0 (by omega) (by decide) (by decide)
  obtain ⟨l, el⟩ := at_left a0 a1
  have hp' : (g ++ [.lst [.int 0, .int 2, .int 5, .int 11]])[np]? = some (.lst (ps.map PV.str)) := by rw [hp_old (hp_lt hp)]; exact hp
  have b4 : bS 4 = 78 := by decide
  obtain ⟨e, k', l', q1, q2, q3, q4, q5⟩ := sum_in_ok T j hn p0 p9 4 1 (by decide) (k + 1) l _ (by omega) (by omega) hp'
  refine ⟨e, k', some l', ⟨q1, by omega⟩, by omega, by omega, ?_⟩
  rw [run_eq T.f__law_sum rfl]
  simp? (disch := omega) only [d__law_sum, b__law_sum, ea, el, left_put, q5, settleL (smV_flat e)]
end
end K07
end
section
open PySem L2 P3
set_option maxHeartbeats 1000000
namespace K07
theorem datWs_strs {f : Nat → Option PyData} : ∀ ss : List Str, datWs f (ss.map PV.str) = some (ss.map PyData.str)
  | [] => rfl
  | x :: r => by rw [List.map_cons, datWs, datWs_strs r]; rfl
theorem dat_strs {h : PH} {n k : Nat} {ss : List Str} (e : h[n]? = some (.lst (ss.map PV.str))) : dat (k + 1) h (.ref n) = some (.list (ss.map PyData.str)) := by
  unfold dat
  simp only [datW, e, datWs_strs, Option.map_some]
theorem ne_nil {h : PH} {n m : Nat} {ss : List Str} (e1 : h[n]? = some (.lst (ss.map PV.str))) (e2 : h[m]? = some (.lst [])) (ok : ∀ x ∈ ss, PyData.strOk x = true) : pNe (.ref n) (.ref m) h = .ok (.bl (!decide (ss = []))) h := by
  have d1 := dat_strs (k := 5) e1
  have d2 := dat_strs (k := 5) (ss := []) (n := m) e2
  have sc : pScal (.ref n) (.ref m) = false := rfl
  have dp : ∀ xs : List Str, PyData.canLay0 (.list (xs.map PyData.str)) = xs.all PyData.strOk := fun xs => by
    rw [PyData.canLay0, PyProof.Rows.canLayAll_strs']
  have al : alike (.ref n) (.ref m) h = some (decide (ss = [])) := by
    unfold alike
    rw [sc, d1, d2]
    have c1 : (PyData.list (ss.map PyData.str)).canLay0 = true := by rw [dp]; exact List.all_eq_true.mpr ok
    have c2 : (PyData.list (([] : List Str).map PyData.str)).canLay0 = true := by rw [dp]; rfl
    have c3 : min (PyData.list (ss.map PyData.str)).depth (PyData.list (([] : List Str).map PyData.str)).depth ≤ 64 := Nat.le_trans (Nat.min_le_right _ _) (by decide)
    simp only [Bool.false_eq_true, if_false, c1, c2, c3, and_self, if_true]
    cases ss with
    | nil => rfl
    | cons x r => rfl
  have nd : isDct h (.ref n) = false := by simp only [isDct, e1]
  unfold pNe
  rw [al, nd]
  rfl
noncomputable def KindOk (s1 s2 s3 s4 : List Str) (x : Str) : Prop := x = "let" ∨ x = "leap" ∨ x = "clock" ∨ x = "lot" ∨ (s1 ≠ [] ∧ (x = "get" ∨ x = "put")) ∨ (s2 ≠ [] ∧ (x = "take" ∨ x = "free")) ∨ (s3 ≠ [] ∧ (x = "send" ∨ x = "fetch")) ∨ (s4 ≠ [] ∧ (x = "say" ∨ x = "hear"))
theorem kstep (c : CF) {H : PH} {nd cc q b : Nat} {nm : List (Key × PV)} {ks qs ss : List Str} {sort : Str} (e1 : H[nd]? = some (.dct nm)) (e2 : valP nm (.inr sort) = some (.ref b)) (e3 : H[b]? = some (.lst (ss.map PV.str))) (e4 : H[cc]? = some (.lst (ks.map PV.str))) (e5 : H[q]? = some (.lst (qs.map PV.str)))
    (hs : ∀ x ∈ ss, PyData.strOk x = true) (hl : ks.length + qs.length + qs.length ≤ 1000) (a0 a2 a3 u5 u6 n7 n8 n9 n10 : Option PV) :
    ∃ g' c', (H ++ g')[c']? = some (.lst ((if ss = [] then ks else ks ++ qs ++ qs).map PV.str)) ∧ fstep (gT 2 (gsCons (gN 5) (gsCons (gN 6) gsNil))) (sIf (mVal (eOp pNe (eOp pIx (eVar 1) (eVar 5)) (eLst aNil))) (sAsg (eOp pAdd (eOp pAdd (eVar 4) (eVar 6)) (eVar 6)) (gN 4)) sNx) c (.tup [.str sort, .ref q]) [a0, some (.ref nd), a2, a3, some (.ref cc), u5, u6, n7, n8, n9, n10] H =
      .ok (.nx [a0, some (.ref nd), a2, a3, some (.ref c'), some (.str sort), some (.ref q), n7, n8, n9, n10]) (H ++ g') := by
  have l3 := hp_lt e3
  have l4 := hp_lt e4
  have l5 := hp_lt e5
  have ne := ne_nil (h := H ++ [.lst []]) (n := b) (m := H.length) (ss := ss) (by rw [hp_old l3]; exact e3) hp_new hs
  by_cases z : ss = []
  · refine ⟨[.lst []], cc, by rw [if_pos z, hp_old l4]; exact e4, ?_⟩
    simp? (disch := omega) only [e1, e2, ne, z]
  · have ad1 := op_addL (h := H ++ [.lst []]) (n := cc) (m := q) (by rw [hp_old l4]; exact e4) (by rw [hp_old l5]; exact e5) (by rw [List.length_map, List.length_map]; omega)
    have ad2 : pAdd (.ref (H.length + (0 + 1))) (.ref q) (H ++ [.lst [], .lst (ks.map PV.str ++ qs.map PV.str)]) = .ok (.ref (H.length + (0 + 1 + 1))) (H ++ [.lst [], .lst (ks.map PV.str ++ qs.map PV.str), .lst (ks.map PV.str ++ qs.map PV.str ++ qs.map PV.str)]) := by
      have := op_addL (h := H ++ [.lst [], .lst (ks.map PV.str ++ qs.map PV.str)]) (n := H.length + (0 + 1)) (m := q) (xs := ks.map PV.str ++ qs.map PV.str) (ys := qs.map PV.str) (by rw [hp_newk]; rfl) (by rw [hp_old l5]; exact e5) (by rw [List.length_append, List.length_map, List.length_map]; omega)
      simpa using this
    refine ⟨[.lst [], .lst (ks.map PV.str ++ qs.map PV.str), .lst (ks.map PV.str ++ qs.map PV.str ++ qs.map PV.str)], H.length + (0 + 1 + 1), by rw [if_neg z, hp_newk, List.map_append, List.map_append]; rfl, ?_⟩
    simp? (disch := omega) only [e1, e2, ne, z, ad1, ad2]
end K07
end
section
open PySem L2 P3
set_option maxHeartbeats 1000000
namespace K07
structure Named (H : PH) (nd : Nat) (s1 s2 s3 s4 s5 : List Str) : Prop where
  at_ : ∃ b1 b2 b3 b4 b5 : Nat, H[nd]? = some (.dct [(.inr "box", .ref b1), (.inr "lock", .ref b2), (.inr "lane", .ref b3), (.inr "door", .ref b4), (.inr "hand", .ref b5)]) ∧
    H[b1]? = some (.lst (s1.map PV.str)) ∧ H[b2]? = some (.lst (s2.map PV.str)) ∧ H[b3]? = some (.lst (s3.map PV.str)) ∧ H[b4]? = some (.lst (s4.map PV.str)) ∧ H[b5]? = some (.lst (s5.map PV.str))
  ok : (∀ x ∈ s1, PyData.strOk x = true) ∧ (∀ x ∈ s2, PyData.strOk x = true) ∧ (∀ x ∈ s3, PyData.strOk x = true) ∧ (∀ x ∈ s4, PyData.strOk x = true)
  le : s1.length ≤ 10 ∧ s2.length ≤ 10 ∧ s3.length ≤ 10 ∧ s4.length ≤ 10 ∧ s5.length ≤ 10
theorem named_val {b1 b2 b3 b4 b5 : Nat} : valP [((.inr "box" : Key), PV.ref b1), (.inr "lock", .ref b2), (.inr "lane", .ref b3), (.inr "door", .ref b4), (.inr "hand", .ref b5)] (.inr "box") = some (.ref b1) ∧
    valP [((.inr "box" : Key), PV.ref b1), (.inr "lock", .ref b2), (.inr "lane", .ref b3), (.inr "door", .ref b4), (.inr "hand", .ref b5)] (.inr "lock") = some (.ref b2) ∧
    valP [((.inr "box" : Key), PV.ref b1), (.inr "lock", .ref b2), (.inr "lane", .ref b3), (.inr "door", .ref b4), (.inr "hand", .ref b5)] (.inr "lane") = some (.ref b3) ∧
    valP [((.inr "box" : Key), PV.ref b1), (.inr "lock", .ref b2), (.inr "lane", .ref b3), (.inr "door", .ref b4), (.inr "hand", .ref b5)] (.inr "door") = some (.ref b4) ∧
    valP [((.inr "box" : Key), PV.ref b1), (.inr "lock", .ref b2), (.inr "lane", .ref b3), (.inr "door", .ref b4), (.inr "hand", .ref b5)] (.inr "hand") = some (.ref b5) := by
  refine ⟨?_, ?_, ?_, ?_, ?_⟩ <;> simp [valP, ofString_inj]
theorem ite_len {p : Prop} [Decidable p] {ks qs : List Str} {n : Nat} (h : ks.length + qs.length + qs.length ≤ n) : (if p then ks else ks ++ qs ++ qs).length ≤ n := by
  split
  · omega
  · simp only [List.length_append]; omega
theorem ite_mem {p : Prop} [Decidable p] {ks qs : List Str} {x : Str} (h : x ∈ (if p then ks else ks ++ qs ++ qs)) : x ∈ ks ∨ (¬ p ∧ x ∈ qs) := by
  split at h
  · exact .inl h
  · rename_i z
    rcases List.mem_append.1 h with h | h
    · rcases List.mem_append.1 h with h | h
      · exact .inl h
      · exact .inr ⟨z, h⟩
    · exact .inr ⟨z, h⟩
theorem kinds_ok (c : CF) {H : PH} {nd : Nat} {s1 s2 s3 s4 s5 : List Str} (hn : Named H nd s1 s2 s3 s4 s5) (a0 a2 a3 n7 n8 n9 n10 : Option PV) :
    ∃ (g' : PH) (c' : Nat) (ks : List Str) (u5 u6 : PV), (H ++ g')[c']? = some (.lst (ks.map PV.str)) ∧ 0 < ks.length ∧ ks.length ≤ 100 ∧ (∀ x ∈ ks, KindOk s1 s2 s3 s4 x) ∧ ∀ rest : MS,
    sSeq (sAsg (eLst (aCons (eC (.str "let")) (aCons (eC (.str "let")) (aCons (eC (.str "leap")) (aCons (eC (.str "clock")) (aCons (eC (.str "lot")) aNil)))))) (gN 4))
    (sSeq (sFor (iIn (eLst (aCons (eTup (aCons (eC (.str "box")) (aCons (eLst (aCons (eC (.str "get")) (aCons (eC (.str "put")) aNil))) aNil))) (aCons (eTup (aCons (eC (.str "lock")) (aCons (eLst (aCons (eC (.str "take")) (aCons (eC (.str "free")) aNil))) aNil))) (aCons (eTup (aCons (eC (.str "lane")) (aCons (eLst (aCons (eC (.str "send")) (aCons (eC (.str "fetch")) aNil))) aNil))) aNil))))) (gT 2 (gsCons (gN 5) (gsCons (gN 6) gsNil))) (sIf (mVal (eOp pNe (eOp pIx (eVar 1) (eVar 5)) (eLst aNil))) (sAsg (eOp pAdd (eOp pAdd (eVar 4) (eVar 6)) (eVar 6)) (gN 4)) sNx))
    (sSeq (sIf (mVal (eOp pNe (eOp pIx (eVar 1) (eC (.str "door"))) (eLst aNil))) (sAsg (eOp pAdd (eVar 4) (eLst (aCons (eC (.str "say")) (aCons (eC (.str "hear")) (aCons (eC (.str "say")) aNil))))) (gN 4)) sNx)
    rest)) c [a0, some (.ref nd), a2, a3, none, none, none, n7, n8, n9, n10] H = rest c [a0, some (.ref nd), a2, a3, some (.ref c'), some u5, some u6, n7, n8, n9, n10] (H ++ g') := by
  obtain ⟨b1, b2, b3, b4, b5, e0, e1, e2, e3, e4, e5⟩ := hn.at_
  obtain ⟨o1, o2, o3, o4⟩ := hn.ok
  obtain ⟨w1, w2, w3, w4, w5⟩ := named_val (b1 := b1) (b2 := b2) (b3 := b3) (b4 := b4) (b5 := b5)
  let k0 : List Str := ["let", "let", "leap", "clock", "lot"]
  let G : PH := [.lst (k0.map PV.str), .lst [.str "get", .str "put"], .lst [.str "take", .str "free"], .lst [.str "send", .str "fetch"],
    .lst [.tup [.str "box", .ref (H.length + 1)], .tup [.str "lock", .ref (H.length + 2)], .tup [.str "lane", .ref (H.length + 3)]]]
  have old : ∀ {n : Nat} {o : PO} (g : PH), H[n]? = some o → (H ++ g)[n]? = some o := fun g e => (hp_old (hp_lt e)).trans e
  have oldG : ∀ {n : Nat} {o : PO} (g : PH), (H ++ G)[n]? = some o → (H ++ (G ++ g))[n]? = some o := fun g e => by rw [← List.append_assoc]; exact (hp_old (hp_lt e)).trans e
  have G0 : (H ++ G)[H.length]? = some (.lst (k0.map PV.str)) := hp_new
  have G1 : (H ++ G)[H.length + 1]? = some (.lst ((["get", "put"] : List Str).map PV.str)) := hp_newk
  have G2 : (H ++ G)[H.length + 2]? = some (.lst ((["take", "free"] : List Str).map PV.str)) := hp_newk
  have G3 : (H ++ G)[H.length + 3]? = some (.lst ((["send", "fetch"] : List Str).map PV.str)) := hp_newk
  have G4 : (H ++ G)[H.length + 4]? = some (.lst [.tup [.str "box", .ref (H.length + 1)], .tup [.str "lock", .ref (H.length + 2)], .tup [.str "lane", .ref (H.length + 3)]]) := hp_newk
  have fin1 : ∀ g : PH, PIt.fine ⟨some (H.length + 4), [.tup [.str "box", .ref (H.length + 1)], .tup [.str "lock", .ref (H.length + 2)], .tup [.str "lane", .ref (H.length + 3)]]⟩ (H ++ (G ++ g)) = true := fun g => by
    unfold PIt.fine
    simp only [oldG g G4, true_or, decide_true]
  obtain ⟨g1, c1, f1, st1⟩ := kstep c (H := H ++ G) (nd := nd) (cc := H.length) (q := H.length + 1) (ks := k0) (qs := ["get", "put"]) (sort := "box") (old G e0) w1 (old G e1) G0 G1 o1 (by decide) a0 a2 a3 none none n7 n8 n9 n10
  generalize hk1 : (if s1 = [] then k0 else k0 ++ (["get", "put"] : List Str) ++ (["get", "put"] : List Str)) = k1 at f1
  have l1 : k1.length ≤ 20 := by rw [← hk1]; exact ite_len (by decide)
  obtain ⟨g2, c2, f2, st2⟩ := kstep c (H := H ++ G ++ g1) (nd := nd) (cc := c1) (q := H.length + 2) (ks := k1) (qs := ["take", "free"]) (sort := "lock") (by rw [List.append_assoc]; exact old _ e0) w2 (by rw [List.append_assoc]; exact old _ e2) f1 (by rw [List.append_assoc]; exact oldG g1 G2) o2 (by show k1.length + 2 + 2 ≤ 1000; omega) a0 a2 a3 (some (.str "box")) (some (.ref (H.length + 1))) n7 n8 n9 n10
  generalize hk2 : (if s2 = [] then k1 else k1 ++ (["take", "free"] : List Str) ++ (["take", "free"] : List Str)) = k2 at f2
  have l2 : k2.length ≤ 30 := by rw [← hk2]; exact ite_len (by show k1.length + 2 + 2 ≤ 30; omega)
  obtain ⟨g3, c3, f3, st3⟩ := kstep c (H := H ++ G ++ g1 ++ g2) (nd := nd) (cc := c2) (q := H.length + 3) (ks := k2) (qs := ["send", "fetch"]) (sort := "lane") (by rw [List.append_assoc, List.append_assoc]; exact old _ e0) w3 (by rw [List.append_assoc, List.append_assoc]; exact old _ e3) f2 (by rw [List.append_assoc, List.append_assoc]; exact oldG _ G3) o3 (by show k2.length + 2 + 2 ≤ 1000; omega) a0 a2 a3 (some (.str "lock")) (some (.ref (H.length + 2))) n7 n8 n9 n10
  generalize hk3 : (if s3 = [] then k2 else k2 ++ (["send", "fetch"] : List Str) ++ (["send", "fetch"] : List Str)) = k3 at f3
  have l3 : k3.length ≤ 40 := by rw [← hk3]; exact ite_len (by show k2.length + 2 + 2 ≤ 40; omega)
  have in0 : ∀ x ∈ k0, KindOk s1 s2 s3 s4 x := fun x m => by
    rcases List.mem_cons.mp m with e | m
    · exact .inl e
    rcases List.mem_cons.mp m with e | m
    · exact .inl e
    rcases List.mem_cons.mp m with e | m
    · exact .inr (.inl e)
    rcases List.mem_cons.mp m with e | m
    · exact .inr (.inr (.inl e))
    rcases List.mem_cons.mp m with e | m
    · exact .inr (.inr (.inr (.inl e)))
    · cases m
  have two : ∀ {x a b : Str}, x ∈ [a, b] → x = a ∨ x = b := fun m => by simpa using m
  have in1 : ∀ x ∈ k1, KindOk s1 s2 s3 s4 x := fun x m => by
    rw [← hk1] at m
    rcases ite_mem m with m | ⟨z, m⟩
    · exact in0 x m
    · exact .inr (.inr (.inr (.inr (.inl ⟨z, two m⟩))))
  have in2 : ∀ x ∈ k2, KindOk s1 s2 s3 s4 x := fun x m => by
    rw [← hk2] at m
    rcases ite_mem m with m | ⟨z, m⟩
    · exact in1 x m
    · exact .inr (.inr (.inr (.inr (.inr (.inl ⟨z, two m⟩)))))
  have in3 : ∀ x ∈ k3, KindOk s1 s2 s3 s4 x := fun x m => by
    rw [← hk3] at m
    rcases ite_mem m with m | ⟨z, m⟩
    · exact in2 x m
    · exact .inr (.inr (.inr (.inr (.inr (.inr (.inl ⟨z, two m⟩))))))
  have p1 : 0 < k1.length := by rw [← hk1]; split <;> simp [k0]
  have p2 : 0 < k2.length := by
                                   rw [← hk2]; split
                                   · exact p1
                                   · simp only [List.length_append, List.length_cons]; omega
  have p3 : 0 < k3.length := by
                                   rw [← hk3]; split
                                   · exact p2
                                   · simp only [List.length_append, List.length_cons]; omega
  have lp : loopS ⟨some (H.length + 4), [.tup [.str "box", .ref (H.length + 1)], .tup [.str "lock", .ref (H.length + 2)], .tup [.str "lane", .ref (H.length + 3)]]⟩ (fstep (gT 2 (gsCons (gN 5) (gsCons (gN 6) gsNil))) (sIf (mVal (eOp pNe (eOp pIx (eVar 1) (eVar 5)) (eLst aNil))) (sAsg (eOp pAdd (eOp pAdd (eVar 4) (eVar 6)) (eVar 6)) (gN 4)) sNx) c) [.tup [.str "box", .ref (H.length + 1)], .tup [.str "lock", .ref (H.length + 2)], .tup [.str "lane", .ref (H.length + 3)]]
      [a0, some (.ref nd), a2, a3, some (.ref H.length), none, none, n7, n8, n9, n10] (H ++ G) = .ok (.nx [a0, some (.ref nd), a2, a3, some (.ref c3), some (.str "lane"), some (.ref (H.length + 3)), n7, n8, n9, n10]) (H ++ (G ++ (g1 ++ (g2 ++ g3)))) := by
    have z0 := fin1 []
    rw [List.append_nil] at z0
    rw [ev_lpC' z0, st1, bd_ok, ev_lpkN, List.append_assoc, ev_lpC' (fin1 g1)]
    rw [List.append_assoc] at st2 st3
    rw [st2, bd_ok, ev_lpkN, List.append_assoc, List.append_assoc, ev_lpC' (fin1 (g1 ++ g2))]
    simp only [List.append_assoc] at st3
    rw [st3, bd_ok, ev_lpkN]
    try simp only [List.append_assoc]
    rw [ev_lpN' (fin1 (g1 ++ (g2 ++ g3)))]
  simp only [List.append_assoc] at f3
  have l4 := hp_lt e4
  have ev0 : ∀ rest' : MS, sSeq (sAsg (eLst (aCons (eC (.str "let")) (aCons (eC (.str "let")) (aCons (eC (.str "leap")) (aCons (eC (.str "clock")) (aCons (eC (.str "lot")) aNil)))))) (gN 4))
    (sSeq (sFor (iIn (eLst (aCons (eTup (aCons (eC (.str "box")) (aCons (eLst (aCons (eC (.str "get")) (aCons (eC (.str "put")) aNil))) aNil))) (aCons (eTup (aCons (eC (.str "lock")) (aCons (eLst (aCons (eC (.str "take")) (aCons (eC (.str "free")) aNil))) aNil))) (aCons (eTup (aCons (eC (.str "lane")) (aCons (eLst (aCons (eC (.str "send")) (aCons (eC (.str "fetch")) aNil))) aNil))) aNil))))) (gT 2 (gsCons (gN 5) (gsCons (gN 6) gsNil))) (sIf (mVal (eOp pNe (eOp pIx (eVar 1) (eVar 5)) (eLst aNil))) (sAsg (eOp pAdd (eOp pAdd (eVar 4) (eVar 6)) (eVar 6)) (gN 4)) sNx))
    rest') c [a0, some (.ref nd), a2, a3, none, none, none, n7, n8, n9, n10] H = rest' c [a0, some (.ref nd), a2, a3, some (.ref c3), some (.str "lane"), some (.ref (H.length + 3)), n7, n8, n9, n10] (H ++ (G ++ (g1 ++ (g2 ++ g3)))) := fun rest' => by
    simp? (disch := omega) only [List.map_nil]
    exact (congrArg (fun r => RV.bind r (seqk rest' c)) lp).trans rfl
  generalize hJ : H ++ (G ++ (g1 ++ (g2 ++ g3))) = J at f3 ev0
  have oJ : ∀ {n : Nat} {o : PO}, H[n]? = some o → J[n]? = some o := fun e => by rw [← hJ]; exact old _ e
  have ne := ne_nil (h := J ++ [.lst []]) (n := b4) (m := J.length) (ss := s4) (by rw [hp_old (hp_lt (oJ e4))]; exact oJ e4) hp_new o4
  by_cases z : s4 = []
  · refine ⟨G ++ (g1 ++ (g2 ++ g3)) ++ [.lst []], c3, k3, .str "lane", .ref (H.length + 3), ?_, p3, by omega, in3, fun rest => ?_⟩
    · rw [← List.append_assoc, hJ, hp_old (hp_lt f3)]; exact f3
    · rw [ev0, ← List.append_assoc, hJ]
      simp? (disch := omega) only [oJ e0, w4, ne, z]
  · have ad : pAdd (.ref c3) (.ref (J.length + (0 + 1))) (J ++ [.lst [], .lst [.str "say", .str "hear", .str "say"]]) = .ok (.ref (J.length + (0 + 1 + 1))) (J ++ [.lst [], .lst [.str "say", .str "hear", .str "say"], .lst (k3.map PV.str ++ [.str "say", .str "hear", .str "say"])]) := by
      have := op_addL (h := J ++ [.lst [], .lst [.str "say", .str "hear", .str "say"]]) (n := c3) (m := J.length + (0 + 1)) (xs := k3.map PV.str) (ys := [.str "say", .str "hear", .str "say"]) (by rw [hp_old (hp_lt f3)]; exact f3) (by rw [hp_newk]; rfl) (by rw [List.length_map]; simp only [List.length_cons, List.length_nil]; omega)
      simpa using this
    refine ⟨G ++ (g1 ++ (g2 ++ g3)) ++ [.lst [], .lst [.str "say", .str "hear", .str "say"], .lst (k3.map PV.str ++ [.str "say", .str "hear", .str "say"])], J.length + (0 + 1 + 1), k3 ++ (["say", "hear", "say"] : List Str), .str "lane", .ref (H.length + 3), ?_, by simp, by simp; omega, fun x m => ?_, fun rest => ?_⟩
    · rw [← List.append_assoc, hJ, hp_newk, List.map_append]; rfl
    · rcases List.mem_append.mp m with m | m
      · exact in3 x m
      · refine .inr (.inr (.inr (.inr (.inr (.inr (.inr ⟨z, ?_⟩))))))
        rcases List.mem_cons.mp m with e | m
        · exact .inl e
        rcases List.mem_cons.mp m with e | m
        · exact .inr e
        rcases List.mem_cons.mp m with e | m
        · exact .inl e
        · cases m
    · rw [ev0, ← List.append_assoc, hJ]
      simp? (disch := omega) only [oJ e0, w4, ne, z, ad]
end K07
end
section
open PySem L2 P3
set_option maxHeartbeats 1000000
namespace K07
noncomputable def NamedG (g : PH) (nd : Nat) (s1 s2 s3 s4 s5 : List Str) : Prop :=
  (∃ b1 b2 b3 b4 b5 : Nat, g[nd]? = some (.dct [(.inr "box", .ref (b1 + 1 + 1)), (.inr "lock", .ref (b2 + 1 + 1)), (.inr "lane", .ref (b3 + 1 + 1)), (.inr "door", .ref (b4 + 1 + 1)), (.inr "hand", .ref (b5 + 1 + 1))]) ∧
    g[b1]? = some (.lst (s1.map PV.str)) ∧ g[b2]? = some (.lst (s2.map PV.str)) ∧ g[b3]? = some (.lst (s3.map PV.str)) ∧ g[b4]? = some (.lst (s4.map PV.str)) ∧ g[b5]? = some (.lst (s5.map PV.str))) ∧
  ((∀ x ∈ s1, PyData.strOk x = true) ∧ (∀ x ∈ s2, PyData.strOk x = true) ∧ (∀ x ∈ s3, PyData.strOk x = true) ∧ (∀ x ∈ s4, PyData.strOk x = true)) ∧
  (s1.length ≤ 10 ∧ s2.length ≤ 10 ∧ s3.length ≤ 10 ∧ s4.length ≤ 10 ∧ s5.length ≤ 10)
theorem NamedG.app {g g' : PH} {nd : Nat} {s1 s2 s3 s4 s5 : List Str} (h : NamedG g nd s1 s2 s3 s4 s5) : NamedG (g ++ g') nd s1 s2 s3 s4 s5 := by
  obtain ⟨⟨b1, b2, b3, b4, b5, e0, e1, e2, e3, e4, e5⟩, h2, h3⟩ := h
  exact ⟨⟨b1, b2, b3, b4, b5, (hp_old (hp_lt e0)).trans e0, (hp_old (hp_lt e1)).trans e1, (hp_old (hp_lt e2)).trans e2, (hp_old (hp_lt e3)).trans e3, (hp_old (hp_lt e4)).trans e4, (hp_old (hp_lt e5)).trans e5⟩, h2, h3⟩
theorem NamedG.up {g : PH} {nd : Nat} {s1 s2 s3 s4 s5 : List Str} (h : NamedG g nd s1 s2 s3 s4 s5) (x y : PO) : Named (x :: y :: g) (nd + 1 + 1) s1 s2 s3 s4 s5 := by
  obtain ⟨⟨b1, b2, b3, b4, b5, e0, e1, e2, e3, e4, e5⟩, h2, h3⟩ := h
  exact ⟨⟨_, _, _, _, _, e0, e1, e2, e3, e4, e5⟩, h2, h3⟩
theorem up_any {ns : List Int} {k : Int} {o : Option Int} {J : PH} {c : Nat} {xs : List PV} (h : (frO ns :: stL k o :: J)[c]? = some (.lst xs)) : ∃ c', c = c' + 1 + 1 ∧ J[c']? = some (.lst xs) := by
  match c, h with
  | 0, h => exact nomatch h
  | 1, h => exact nomatch h
  | c + 2, h => exact ⟨c, rfl, h⟩
noncomputable def sorts8 : List (Key × PV) := [(.inr "get", .str "box"), (.inr "put", .str "box"), (.inr "take", .str "lock"), (.inr "free", .str "lock"), (.inr "send", .str "lane"), (.inr "fetch", .str "lane"), (.inr "say", .str "door"), (.inr "hear", .str "door")]
theorem sorts_val : valP sorts8 (.inr "get") = some (.str "box") ∧ valP sorts8 (.inr "put") = some (.str "box") ∧ valP sorts8 (.inr "take") = some (.str "lock") ∧ valP sorts8 (.inr "free") = some (.str "lock") ∧
    valP sorts8 (.inr "send") = some (.str "lane") ∧ valP sorts8 (.inr "fetch") = some (.str "lane") ∧ valP sorts8 (.inr "say") = some (.str "door") ∧ valP sorts8 (.inr "hear") = some (.str "door") := by
  refine ⟨?_, ?_, ?_, ?_, ?_, ?_, ?_, ?_⟩ <;> simp [sorts8, valP, ofString_inj]
theorem in_2 {a b c : Str} {h : PH} : pIn (.str a) (.tup [.str b, .str c]) h = .ok (.bl (decide (a = b ∨ a = c))) h := by
  have := in_T (h := h) (a := a) (ss := [b, c])
  simpa using this
theorem in_3 {a b c d : Str} {h : PH} : pIn (.str a) (.tup [.str b, .str c, .str d]) h = .ok (.bl (decide (a = b ∨ a = c ∨ a = d))) h := by
  have := in_T (h := h) (a := a) (ss := [b, c, d])
  simpa using this
theorem at_lot {v w : Int} (h0 : 0 ≤ v) (h1 : v < 4) (w0 : 0 ≤ w) (w1 : w < 999) : ∃ n : Int, 2 ≤ n ∧ n ≤ 1000 ∧ atI [PV.int 2, .int 3, .int 1000, .int (2 + w)] v = some (.int n) := by
  have : v = 0 ∨ v = 1 ∨ v = 2 ∨ v = 3 := by omega
  rcases this with rfl | rfl | rfl | rfl
  · exact ⟨2, by decide, by decide, rfl⟩
  · exact ⟨3, by decide, by decide, rfl⟩
  · exact ⟨1000, by decide, by decide, rfl⟩
  · exact ⟨2 + w, by omega, by omega, rfl⟩
section
variable {pg : Tb} (T : Has pg)
include T
theorem row_tail (j : Nat) {ns : List Int} (hn : ns.length ≤ 63) {np nd sd : Nat} {ps L : List Str} (p0 : 0 < ps.length) (p9 : ps.length ≤ 1000) (hL : ∀ x ∈ ps, x ∈ L) {s1 s2 s3 s4 s5 : List Str} {J : PH} (hN : NamedG J nd s1 s2 s3 s4 s5) (hp : J[np]? = some (.lst (ps.map PV.str))) (hs : J[sd]? = some (.dct sorts8))
    (k many : Int) (o : Option Int) (k0 : 0 ≤ k) (k9 : k + 82 ≤ 1000000) (m0 : 0 ≤ many) (m9 : many ≤ 1000) {x y : Str} (hx : KindOk s1 s2 s3 s4 x) (hy : y ∈ ps) (u4 u5 u6 : Option PV) :
    ∃ (r : Rw) (k' : Int) (o' : Option Int) (g' : PH), RwOk L many.toNat r ∧ k ≤ k' ∧ k' ≤ k + 82 ∧
    sSeq (sIf (mVal (eOp pEq (eVar 7) (eC (.str "let")))) (sRet (eTup (aCons (eC (.str "let")) (aCons (eVar 8) (aCons (eCall "_law_sum" (aCons (eVar 0) (aCons (eVar 2) aNil))) aNil))))) sNx)
    (sSeq (sIf (mVal (eOp pEq (eVar 7) (eC (.str "leap")))) (sRet (eTup (aCons (eC (.str "leap")) (aCons (eCall "_law_pick" (aCons (eVar 0) (aCons (eOp pAdd (eVar 3) (eC (.int 1))) aNil))) (aCons (eCall "_law_sum" (aCons (eVar 0) (aCons (eVar 2) aNil))) aNil))))) sNx)
    (sSeq (sIf (mVal (eOp pEq (eVar 7) (eC (.str "clock")))) (sRet (eTup (aCons (eC (.str "clock")) (aCons (eVar 8) aNil)))) sNx)
    (sSeq (sIf (mVal (eOp pEq (eVar 7) (eC (.str "lot")))) (sRet (eTup (aCons (eC (.str "lot")) (aCons (eVar 8) (aCons (eOp pIx (eLst (aCons (eC (.int 2)) (aCons (eC (.int 3)) (aCons (eC (.int 1000)) (aCons (eOp pAdd (eC (.int 2)) (eCall "_law_pick" (aCons (eVar 0) (aCons (eC (.int 999)) aNil)))) aNil))))) (eCall "_law_pick" (aCons (eVar 0) (aCons (eC (.int 4)) aNil)))) aNil))))) sNx)
    (sSeq (sAsg (eOp pIx (eVar 1) (eOp pIx (eVar 9) (eVar 7))) (gN 6))
    (sSeq (sAsg (eOp pIx (eVar 6) (eCall "_law_pick" (aCons (eVar 0) (aCons (eB pLen (aCons (eVar 6) aNil)) aNil)))) (gN 10))
    (sSeq (sIf (mVal (eOp pIn (eVar 7) (eTup (aCons (eC (.str "take")) (aCons (eC (.str "free")) aNil))))) (sRet (eTup (aCons (eVar 7) (aCons (eVar 10) aNil)))) sNx)
    (sSeq (sIf (mVal (eOp pIn (eVar 7) (eTup (aCons (eC (.str "get")) (aCons (eC (.str "fetch")) (aCons (eC (.str "hear")) aNil)))))) (sRet (eTup (aCons (eVar 7) (aCons (eVar 8) (aCons (eVar 10) aNil))))) sNx)
    (sRet (eTup (aCons (eVar 7) (aCons (eVar 10) (aCons (eCall "_law_sum" (aCons (eVar 0) (aCons (eVar 2) aNil))) aNil))))))))))))
    (run pg (j + 8)) [some (.ref 1), some (.ref (nd + 1 + 1)), some (.ref (np + 1 + 1)), some (.int many), u4, u5, u6, some (.str x), some (.str y), some (.ref (sd + 1 + 1)), none] (frO ns :: stL k o :: J) = .ok (.rt (rwV r)) (frO ns :: stL k' o' :: (J ++ g')) := by
  obtain ⟨⟨b1, b2, b3, b4, b5, e0, e1, e2, e3, e4, e5⟩, _, ⟨l1, l2, l3, l4, l5⟩⟩ := hN
  obtain ⟨w1, w2, w3, w4, w5⟩ := named_val (b1 := b1 + 1 + 1) (b2 := b2 + 1 + 1) (b3 := b3 + 1 + 1) (b4 := b4 + 1 + 1) (b5 := b5 + 1 + 1)
  obtain ⟨v1, v2, v3, v4, v5, v6, v7, v8⟩ := sorts_val
  have yL := hL y hy
  have len0 : ∀ {s : List Str}, s ≠ [] → 0 < s.length := fun h => List.length_pos_iff.mpr h
  rcases hx with rfl | rfl | rfl | rfl | ⟨z, hx⟩ | ⟨z, hx⟩ | ⟨z, hx⟩ | ⟨z, hx⟩
  · obtain ⟨e, k', o', q1, q2, q3, q4⟩ := sum_ok T j hn p0 p9 k o J k0 (by omega) hp
    refine ⟨.let_ y e, k', o', [], ⟨yL, q1⟩, q2, by omega, ?_⟩
    simp? (disch := omega) only [q4, rwV, Rw.w, Rw.ps, List.append_nil]
  · obtain ⟨a, a0, a1, ea⟩ := pickL T (j + 6) J hn o (k := k) (many + 1) k0 (by omega) (by omega) (by omega)
    obtain ⟨e, k', o', q1, q2, q3, q4⟩ := sum_ok T j hn p0 p9 (k + 1) o J (by omega) (by omega) hp
    refine ⟨.leap a e, k', o', [], ⟨a0, by omega, q1⟩, by omega, by omega, ?_⟩
    simp? (disch := omega) only [ea, q4, rwV, Rw.w, Rw.ps, List.append_nil]
  · refine ⟨.clock y, k, o, [], yL, by omega, by omega, ?_⟩
    simp? (disch := omega) only [rwV, Rw.w, Rw.ps, List.append_nil]
  · obtain ⟨a, a0, a1, ea⟩ := pickL T (j + 6) J hn o (k := k) 999 k0 (by omega) (by decide) (by decide)
    obtain ⟨b, b0, b1, eb⟩ := pickL T (j + 6) (J ++ [.lst [.int 2, .int 3, .int 1000, .int (2 + a)]]) hn o (k := k + 1) 4 (by omega) (by omega) (by decide) (by decide)
    obtain ⟨n, n0, n1, en⟩ := at_lot b0 b1 a0 a1
    refine ⟨.lot y n, k + 1 + 1, o, [.lst [.int 2, .int 3, .int 1000, .int (2 + a)]], ⟨yL, n0, n1⟩, by omega, by omega, ?_⟩
    simp? (disch := omega) only [ea, eb, en, rwV, Rw.w, Rw.ps]
  · have zl := len0 z
    obtain ⟨a, a0, a1, ea⟩ := pickL T (j + 6) J hn o (k := k) s1.length k0 (by omega) (by omega) (by omega)
    obtain ⟨t, ht, et⟩ := at_str a0 a1
    rcases hx with rfl | rfl
    · refine ⟨.get y t, k + 1, o, [], yL, by omega, by omega, ?_⟩
      simp? (disch := omega) only [e0, hs, v1, w1, e1, List.length_map, ea, et, in_2, in_3, rwV, Rw.w, Rw.ps, List.append_nil, true_or, or_true, or_false, false_or]
    · obtain ⟨e, k', o', q1, q2, q3, q4⟩ := sum_ok T j hn p0 p9 (k + 1) o J (by omega) (by omega) hp
      refine ⟨.put t e, k', o', [], q1, by omega, by omega, ?_⟩
      simp? (disch := omega) only [e0, hs, v2, w1, e1, List.length_map, ea, et, in_2, in_3, q4, rwV, Rw.w, Rw.ps, List.append_nil, true_or, or_true, or_false, false_or]
  · have zl := len0 z
    obtain ⟨a, a0, a1, ea⟩ := pickL T (j + 6) J hn o (k := k) s2.length k0 (by omega) (by omega) (by omega)
    obtain ⟨t, ht, et⟩ := at_str a0 a1
    rcases hx with rfl | rfl
    · refine ⟨.take t, k + 1, o, [], trivial, by omega, by omega, ?_⟩
      simp? (disch := omega) only [e0, hs, v3, w2, e2, List.length_map, ea, et, in_2, in_3, rwV, Rw.w, Rw.ps, List.append_nil, true_or, or_true, or_false, false_or]
    · refine ⟨.free t, k + 1, o, [], trivial, by omega, by omega, ?_⟩
      simp? (disch := omega) only [e0, hs, v4, w2, e2, List.length_map, ea, et, in_2, in_3, rwV, Rw.w, Rw.ps, List.append_nil, true_or, or_true, or_false, false_or]
  · have zl := len0 z
    obtain ⟨a, a0, a1, ea⟩ := pickL T (j + 6) J hn o (k := k) s3.length k0 (by omega) (by omega) (by omega)
    obtain ⟨t, ht, et⟩ := at_str a0 a1
    rcases hx with rfl | rfl
    · obtain ⟨e, k', o', q1, q2, q3, q4⟩ := sum_ok T j hn p0 p9 (k + 1) o J (by omega) (by omega) hp
      refine ⟨.send t e, k', o', [], q1, by omega, by omega, ?_⟩
      simp? (disch := omega) only [e0, hs, v5, w3, e3, List.length_map, ea, et, in_2, in_3, q4, rwV, Rw.w, Rw.ps, List.append_nil, true_or, or_true, or_false, false_or]
    · refine ⟨.fetch y t, k + 1, o, [], yL, by omega, by omega, ?_⟩
      simp? (disch := omega) only [e0, hs, v6, w3, e3, List.length_map, ea, et, in_2, in_3, rwV, Rw.w, Rw.ps, List.append_nil, true_or, or_true, or_false, false_or]
  · have zl := len0 z
    obtain ⟨a, a0, a1, ea⟩ := pickL T (j + 6) J hn o (k := k) s4.length k0 (by omega) (by omega) (by omega)
    obtain ⟨t, ht, et⟩ := at_str a0 a1
    rcases hx with rfl | rfl
    · obtain ⟨e, k', o', q1, q2, q3, q4⟩ := sum_ok T j hn p0 p9 (k + 1) o J (by omega) (by omega) hp
      refine ⟨.say t e, k', o', [], q1, by omega, by omega, ?_⟩
      simp? (disch := omega) only [e0, hs, v7, w4, e4, List.length_map, ea, et, in_2, in_3, q4, rwV, Rw.w, Rw.ps, List.append_nil, true_or, or_true, or_false, false_or]
    · refine ⟨.hear y t, k + 1, o, [], yL, by omega, by omega, ?_⟩
      simp? (disch := omega) only [e0, hs, v8, w4, e4, List.length_map, ea, et, in_2, in_3, rwV, Rw.w, Rw.ps, List.append_nil, true_or, or_true, or_false, false_or]
end
end K07
end
section
open PySem L2 P3
set_option maxHeartbeats 1000000
namespace K07
noncomputable def sorts6 : List (Key × PV) := [(.inr "get", .str "box"), (.inr "put", .str "box"), (.inr "take", .str "lock"), (.inr "free", .str "lock"), (.inr "send", .str "lane"), (.inr "fetch", .str "lane")]
theorem sorts_made : mergeP [] sorts6 = sorts6 ∧ mergeP [] [((.inr "say" : Key), PV.str "door"), (.inr "hear", .str "door")] = [(.inr "say", .str "door"), (.inr "hear", .str "door")] ∧ mergeP sorts6 [((.inr "say" : Key), PV.str "door"), (.inr "hear", .str "door")] = sorts8 := by
  refine ⟨?_, ?_, ?_⟩ <;> simp [sorts6, sorts8, mergeP, putP, ofString_inj]
section
variable {pg : Tb} (T : Has pg)
include T
theorem row_ok (j : Nat) {ns : List Int} (hn : ns.length ≤ 63) {np nd : Nat} {ps L : List Str} (p0 : 0 < ps.length) (p9 : ps.length ≤ 1000) (hL : ∀ x ∈ ps, x ∈ L) {s1 s2 s3 s4 s5 : List Str} {g : PH} (hN : NamedG g nd s1 s2 s3 s4 s5) (hp : g[np]? = some (.lst (ps.map PV.str)))
    (k many : Int) (o : Option Int) (k0 : 0 ≤ k) (k9 : k + 84 ≤ 1000000) (m0 : 0 ≤ many) (m9 : many ≤ 1000) :
    ∃ (r : Rw) (k' : Int) (o' : Option Int), RwOk L many.toNat r ∧ k ≤ k' ∧ k' ≤ k + 84 ∧ run pg (j + 9) "_law_row" [.ref 1, .ref (nd + 1 + 1), .ref (np + 1 + 1), .int many] (frO ns :: stL k o :: g) = .ok (rwV r) (frO ns :: stL k' o' :: g) := by
  have kk := kinds_ok (run pg (j + 8)) (hN.up (frO ns) (stL k o)) (some (.ref 1)) (some (.ref (np + 1 + 1))) (some (.int many)) none none none none
  obtain ⟨m1, m2, m3⟩ := sorts_made
  have pre : ∃ (g' : PH) (c' : Nat) (ks : List Str) (u5 u6 : PV), (g ++ g')[c']? = some (.lst (ks.map PV.str)) ∧ 0 < ks.length ∧ ks.length ≤ 100 ∧ (∀ x ∈ ks, KindOk s1 s2 s3 s4 x) ∧ ∀ rest, 
    sSeq (sAsg (eLst (aCons (eC (.str "let")) (aCons (eC (.str "let")) (aCons (eC (.str "leap")) (aCons (eC (.str "clock")) (aCons (eC (.str "lot")) aNil)))))) (gN 4))
    (sSeq (sFor (iIn (eLst (aCons (eTup (aCons (eC (.str "box")) (aCons (eLst (aCons (eC (.str "get")) (aCons (eC (.str "put")) aNil))) aNil))) (aCons (eTup (aCons (eC (.str "lock")) (aCons (eLst (aCons (eC (.str "take")) (aCons (eC (.str "free")) aNil))) aNil))) (aCons (eTup (aCons (eC (.str "lane")) (aCons (eLst (aCons (eC (.str "send")) (aCons (eC (.str "fetch")) aNil))) aNil))) aNil))))) (gT 2 (gsCons (gN 5) (gsCons (gN 6) gsNil))) (sIf (mVal (eOp pNe (eOp pIx (eVar 1) (eVar 5)) (eLst aNil))) (sAsg (eOp pAdd (eOp pAdd (eVar 4) (eVar 6)) (eVar 6)) (gN 4)) sNx))
    (sSeq (sIf (mVal (eOp pNe (eOp pIx (eVar 1) (eC (.str "door"))) (eLst aNil))) (sAsg (eOp pAdd (eVar 4) (eLst (aCons (eC (.str "say")) (aCons (eC (.str "hear")) (aCons (eC (.str "say")) aNil))))) (gN 4)) sNx)
    rest)) (run pg (j + 8)) [some (.ref 1), some (.ref (nd + 1 + 1)), some (.ref (np + 1 + 1)), some (.int many), none, none, none, none, none, none, none] (frO ns :: stL k o :: g) =
    rest (run pg (j + 8)) [some (.ref 1), some (.ref (nd + 1 + 1)), some (.ref (np + 1 + 1)), some (.int many), some (.ref (c' + 1 + 1)), some u5, some u6, none, none, none, none] (frO ns :: stL k o :: (g ++ g')) := by
    obtain ⟨g', c, ks, u5, u6, h1, h2, h3, h4, h5⟩ := kk
    obtain ⟨c', rfl, h1'⟩ := up_any (J := g ++ g') h1
    exact ⟨g', c', ks, u5, u6, h1', h2, h3, h4, h5⟩
  obtain ⟨g', c', ks, u5, u6, hc, kp, kl, hk, ev⟩ := pre
  obtain ⟨v, v0, v1, ev1⟩ := pickL T (j + 6) (g ++ g') hn o (k := k) ks.length k0 (by omega) (by omega) (by omega)
  obtain ⟨x, xm, ex⟩ := at_str v0 v1
  obtain ⟨w, w0, w1, ew1⟩ := pickL T (j + 6) (g ++ g') hn o (k := k + 1) ps.length (by omega) (by omega) (by omega) (by omega)
  obtain ⟨y, ym, ey⟩ := at_str w0 w1
  have hp' : (g ++ g')[np]? = some (.lst (ps.map PV.str)) := (hp_old (hp_lt hp)).trans hp
  have dk1 : dck ((g ++ g').length + 1 + 1) sorts6 (frO ns :: stL (k + 1 + 1) o :: (g ++ g' ++ [.dct []])) = .ok (.ref ((g ++ g').length + 1 + 1)) (frO ns :: stL (k + 1 + 1) o :: (g ++ g' ++ [.dct sorts6])) := by
    have := ev_dckN (h := frO ns :: stL (k + 1 + 1) o :: (g ++ g')) (kvs := sorts6) (by decide)
    rw [m1] at this; exact this
  have dk2 : dck ((g ++ g' ++ [PO.dct sorts6]).length + 1 + 1) [((.inr "say" : Key), PV.str "door"), (.inr "hear", .str "door")] (frO ns :: stL (k + 1 + 1) o :: (g ++ g' ++ [PO.dct sorts6] ++ [.dct []])) = .ok (.ref ((g ++ g' ++ [PO.dct sorts6]).length + 1 + 1)) (frO ns :: stL (k + 1 + 1) o :: (g ++ g' ++ [PO.dct sorts6] ++ [.dct [(.inr "say", .str "door"), (.inr "hear", .str "door")]])) := by
    have := ev_dckN (h := frO ns :: stL (k + 1 + 1) o :: (g ++ g' ++ [PO.dct sorts6])) (kvs := [((.inr "say" : Key), PV.str "door"), (.inr "hear", .str "door")]) (by decide)
    rw [m2] at this; exact this
  generalize hJ : g ++ g' = J at *
  obtain ⟨r, k', o', g2, t1, t2, t3, t4⟩ := row_tail T j hn p0 p9 hL (J := J ++ ([.dct sorts8, .dct [(.inr "say", .str "door"), (.inr "hear", .str "door")]] : PH)) (sd := J.length) (by rw [← hJ]; exact hN.app.app) (by rw [hp_old (hp_lt hp')]; exact hp') hp_new (k + 1 + 1) many o (by omega) (by omega) m0 m9 (hk x xm) ym (some (.ref (c' + 1 + 1))) (some u5) (some u6)
  refine ⟨r, k', o', t1, by omega, by omega, ?_⟩
  rw [run_eq T.f__law_row rfl]
  unfold d__law_row b__law_row
  refine (congrArg (fin _) (ev _)).trans ?_
  have md : ∀ rr c e, mtk pUpdate isDctR rr c e (.ref (J.length + 1 + 1)) (frO ns :: stL (k + 1 + 1) o :: (J ++ [.dct sorts6])) = (rr c e (frO ns :: stL (k + 1 + 1) o :: (J ++ [.dct sorts6]))).bind (pUpdate (.ref (J.length + 1 + 1))) := fun rr c e => ev_m1 (isD_R (kvs := sorts6) hp_new)
  have up : pUpdate (.ref (J.length + 1 + 1)) [.ref (J.length + (0 + 1) + 1 + 1)] (frO ns :: stL (k + 1 + 1) o :: (J ++ [.dct sorts6, .dct [(.inr "say", .str "door"), (.inr "hear", .str "door")]])) = .ok .non (frO ns :: stL (k + 1 + 1) o :: (J ++ [.dct sorts8, .dct [(.inr "say", .str "door"), (.inr "hear", .str "door")]])) := by
    have := up_R (h := frO ns :: stL (k + 1 + 1) o :: (J ++ [.dct sorts6, .dct [(.inr "say", .str "door"), (.inr "hear", .str "door")]])) (n := J.length + 1 + 1) (m := J.length + (0 + 1) + 1 + 1) (kvs := sorts6) (more := [(.inr "say", .str "door"), (.inr "hear", .str "door")]) hp_new hp_newk (by omega) (by decide)
    rw [m3] at this
    rw [this]
    simp only [List.set_cons_succ, hp_setnew, List.set_cons_zero]
  rw [List.length_append] at dk2
  simp only [List.append_assoc, List.cons_append, List.nil_append, List.length_cons, List.length_nil] at dk2
  unfold sorts6 at dk1 md up dk2
  simp? (disch := omega) only [hc, ev1, ex, hp', ew1, ey, List.length_map, ev_dict, ev_dcC, ev_dc1S, ev_dc2, ev_dc3, ev_dcN, dk1, dk2, md, up, ↓t4, settleL (rwV_flat r)]
  rw [← hJ, List.append_assoc]
  exact settleL (rwV_flat r)
end
end K07
end
section
open PySem L2 P3
set_option maxHeartbeats 1000000
namespace K07
noncomputable def n30 : List Str := ["a", "ab", "abc", "lets", "leaper", "getit", "puts", "taken", "freed", "sender", "fetched", "says", "clocks", "lots", "hearth", "added", "subway", "mulled", "lesser", "samey", "nothing", "boxes", "locker", "lanes", "doors", "hands", "b", "zzzzzzzz", "of", "num"]
theorem n30_ok : ∀ x ∈ n30, PyData.strOk x = true := by decide +kernel
theorem add_in {x y : PO} {J : PH} {a b : Nat} {xs ys : List PV} (e1 : J[a]? = some (.lst xs)) (e2 : J[b]? = some (.lst ys)) (hl : xs.length + ys.length ≤ 10000) : pAdd (.ref (a + 1 + 1)) (.ref (b + 1 + 1)) (x :: y :: J) = .ok (.ref (J.length + 1 + 1)) (x :: y :: (J ++ [.lst (xs ++ ys)])) :=
  op_addL (h := x :: y :: J) (n := a + 1 + 1) (m := b + 1 + 1) e1 e2 (by omega)
section
variable {pg : Tb} (T : Has pg)
include T
theorem names_ok (j : Nat) {ns : List Int} (hn : ns.length ≤ 63) (k : Int) (o : Option Int) (g : PH) (k0 : 0 ≤ k) (k9 : k < 1000000) :
    ∃ (g' : PH) (n : Nat) (nm : List Str), (g ++ g')[n]? = some (.lst (nm.map PV.str)) ∧ nm.length = 30 ∧ (∀ x ∈ nm, PyData.strOk x = true) ∧ run pg (j + 3) "_law_names" [.ref 1] (frO ns :: stL k o :: g) = .ok (.ref (n + 1 + 1)) (frO ns :: stL (k + 1) o :: (g ++ g')) := by
  have ad1 : ∀ x y, pAdd (.ref (g.length + 1 + 1)) (.ref (g.length + (0 + 1) + 1 + 1)) (x :: y :: (g ++ [.lst [.str "a", .str "ab", .str "abc", .str "lets", .str "leaper", .str "getit", .str "puts", .str "taken", .str "freed", .str "sender", .str "fetched", .str "says"], .lst [.str "clocks", .str "lots", .str "hearth", .str "added", .str "subway", .str "mulled", .str "lesser", .str "samey", .str "nothing"]])) = .ok (.ref (g.length + (0 + 1 + 1) + 1 + 1)) (x :: y :: (g ++ [.lst [.str "a", .str "ab", .str "abc", .str "lets", .str "leaper", .str "getit", .str "puts", .str "taken", .str "freed", .str "sender", .str "fetched", .str "says"], .lst [.str "clocks", .str "lots", .str "hearth", .str "added", .str "subway", .str "mulled", .str "lesser", .str "samey", .str "nothing"], .lst [.str "a", .str "ab", .str "abc", .str "lets", .str "leaper", .str "getit", .str "puts", .str "taken", .str "freed", .str "sender", .str "fetched", .str "says", .str "clocks", .str "lots", .str "hearth", .str "added", .str "subway", .str "mulled", .str "lesser", .str "samey", .str "nothing"]])) := fun x y => by
    have := add_in (x := x) (y := y) (J := g ++ [.lst [.str "a", .str "ab", .str "abc", .str "lets", .str "leaper", .str "getit", .str "puts", .str "taken", .str "freed", .str "sender", .str "fetched", .str "says"], .lst [.str "clocks", .str "lots", .str "hearth", .str "added", .str "subway", .str "mulled", .str "lesser", .str "samey", .str "nothing"]]) (a := g.length) (b := g.length + (0 + 1)) hp_new hp_newk (by decide)
    simpa using this
  have ad2 : ∀ x y, pAdd (.ref (g.length + (0 + 1 + 1) + 1 + 1)) (.ref (g.length + (0 + 1 + 1 + 1) + 1 + 1)) (x :: y :: (g ++ [.lst [.str "a", .str "ab", .str "abc", .str "lets", .str "leaper", .str "getit", .str "puts", .str "taken", .str "freed", .str "sender", .str "fetched", .str "says"], .lst [.str "clocks", .str "lots", .str "hearth", .str "added", .str "subway", .str "mulled", .str "lesser", .str "samey", .str "nothing"], .lst [.str "a", .str "ab", .str "abc", .str "lets", .str "leaper", .str "getit", .str "puts", .str "taken", .str "freed", .str "sender", .str "fetched", .str "says", .str "clocks", .str "lots", .str "hearth", .str "added", .str "subway", .str "mulled", .str "lesser", .str "samey", .str "nothing"], .lst [.str "boxes", .str "locker", .str "lanes", .str "doors", .str "hands", .str "b", .str "zzzzzzzz", .str "of", .str "num"]])) = .ok (.ref (g.length + (0 + 1 + 1 + 1 + 1) + 1 + 1)) (x :: y :: (g ++ [.lst [.str "a", .str "ab", .str "abc", .str "lets", .str "leaper", .str "getit", .str "puts", .str "taken", .str "freed", .str "sender", .str "fetched", .str "says"], .lst [.str "clocks", .str "lots", .str "hearth", .str "added", .str "subway", .str "mulled", .str "lesser", .str "samey", .str "nothing"], .lst [.str "a", .str "ab", .str "abc", .str "lets", .str "leaper", .str "getit", .str "puts", .str "taken", .str "freed", .str "sender", .str "fetched", .str "says", .str "clocks", .str "lots", .str "hearth", .str "added", .str "subway", .str "mulled", .str "lesser", .str "samey", .str "nothing"], .lst [.str "boxes", .str "locker", .str "lanes", .str "doors", .str "hands", .str "b", .str "zzzzzzzz", .str "of", .str "num"], .lst [.str "a", .str "ab", .str "abc", .str "lets", .str "leaper", .str "getit", .str "puts", .str "taken", .str "freed", .str "sender", .str "fetched", .str "says", .str "clocks", .str "lots", .str "hearth", .str "added", .str "subway", .str "mulled", .str "lesser", .str "samey", .str "nothing", .str "boxes", .str "locker", .str "lanes", .str "doors", .str "hands", .str "b", .str "zzzzzzzz", .str "of", .str "num"]])) := fun x y => by
    have := add_in (x := x) (y := y) (J := g ++ [.lst [.str "a", .str "ab", .str "abc", .str "lets", .str "leaper", .str "getit", .str "puts", .str "taken", .str "freed", .str "sender", .str "fetched", .str "says"], .lst [.str "clocks", .str "lots", .str "hearth", .str "added", .str "subway", .str "mulled", .str "lesser", .str "samey", .str "nothing"], .lst [.str "a", .str "ab", .str "abc", .str "lets", .str "leaper", .str "getit", .str "puts", .str "taken", .str "freed", .str "sender", .str "fetched", .str "says", .str "clocks", .str "lots", .str "hearth", .str "added", .str "subway", .str "mulled", .str "lesser", .str "samey", .str "nothing"], .lst [.str "boxes", .str "locker", .str "lanes", .str "doors", .str "hands", .str "b", .str "zzzzzzzz", .str "of", .str "num"]]) (a := g.length + (0 + 1 + 1)) (b := g.length + (0 + 1 + 1 + 1)) hp_newk hp_newk (by decide)
    simpa using this
  obtain ⟨v, v0, v1, ev⟩ := pickL T (j) (g ++ [.lst [.str "a", .str "ab", .str "abc", .str "lets", .str "leaper", .str "getit", .str "puts", .str "taken", .str "freed", .str "sender", .str "fetched", .str "says"], .lst [.str "clocks", .str "lots", .str "hearth", .str "added", .str "subway", .str "mulled", .str "lesser", .str "samey", .str "nothing"], .lst [.str "a", .str "ab", .str "abc", .str "lets", .str "leaper", .str "getit", .str "puts", .str "taken", .str "freed", .str "sender", .str "fetched", .str "says", .str "clocks", .str "lots", .str "hearth", .str "added", .str "subway", .str "mulled", .str "lesser", .str "samey", .str "nothing"], .lst [.str "boxes", .str "locker", .str "lanes", .str "doors", .str "hands", .str "b", .str "zzzzzzzz", .str "of", .str "num"], .lst [.str "a", .str "ab", .str "abc", .str "lets", .str "leaper", .str "getit", .str "puts", .str "taken", .str "freed", .str "sender", .str "fetched", .str "says", .str "clocks", .str "lots", .str "hearth", .str "added", .str "subway", .str "mulled", .str "lesser", .str "samey", .str "nothing", .str "boxes", .str "locker", .str "lanes", .str "doors", .str "hands", .str "b", .str "zzzzzzzz", .str "of", .str "num"]]) hn o (k := k) 30 k0 k9 (by decide) (by decide)
  have c30 : (((0 + 1 + 1 + 1 + 1 + 1 + 1 + 1 + 1 + 1 + 1 + 1 + 1 + 1 + 1 + 1 + 1 + 1 + 1 + 1 + 1 + 1 + 1 + 1 + 1 + 1 + 1 + 1 + 1 + 1 + 1) : Nat) : Int) = 30 := rfl
  have c1 : cutP [.str "a", .str "ab", .str "abc", .str "lets", .str "leaper", .str "getit", .str "puts", .str "taken", .str "freed", .str "sender", .str "fetched", .str "says", .str "clocks", .str "lots", .str "hearth", .str "added", .str "subway", .str "mulled", .str "lesser", .str "samey", .str "nothing", .str "boxes", .str "locker", .str "lanes", .str "doors", .str "hands", .str "b", .str "zzzzzzzz", .str "of", .str "num"] (some v) none = (n30.drop v.toNat).map PV.str := by rw [P3.cut_from v0, List.map_drop]; rfl
  have c2 : cutP [.str "a", .str "ab", .str "abc", .str "lets", .str "leaper", .str "getit", .str "puts", .str "taken", .str "freed", .str "sender", .str "fetched", .str "says", .str "clocks", .str "lots", .str "hearth", .str "added", .str "subway", .str "mulled", .str "lesser", .str "samey", .str "nothing", .str "boxes", .str "locker", .str "lanes", .str "doors", .str "hands", .str "b", .str "zzzzzzzz", .str "of", .str "num"] none (some v) = (n30.take v.toNat).map PV.str := by rw [P3.cut_to v0, List.map_take]; rfl
  have ad3 : ∀ x y, pAdd (.ref (g.length + (0 + 1 + 1 + 1 + 1 + 1) + 1 + 1)) (.ref (g.length + (0 + 1 + 1 + 1 + 1 + 1 + 1) + 1 + 1)) (x :: y :: (g ++ [.lst [.str "a", .str "ab", .str "abc", .str "lets", .str "leaper", .str "getit", .str "puts", .str "taken", .str "freed", .str "sender", .str "fetched", .str "says"], .lst [.str "clocks", .str "lots", .str "hearth", .str "added", .str "subway", .str "mulled", .str "lesser", .str "samey", .str "nothing"], .lst [.str "a", .str "ab", .str "abc", .str "lets", .str "leaper", .str "getit", .str "puts", .str "taken", .str "freed", .str "sender", .str "fetched", .str "says", .str "clocks", .str "lots", .str "hearth", .str "added", .str "subway", .str "mulled", .str "lesser", .str "samey", .str "nothing"], .lst [.str "boxes", .str "locker", .str "lanes", .str "doors", .str "hands", .str "b", .str "zzzzzzzz", .str "of", .str "num"], .lst [.str "a", .str "ab", .str "abc", .str "lets", .str "leaper", .str "getit", .str "puts", .str "taken", .str "freed", .str "sender", .str "fetched", .str "says", .str "clocks", .str "lots", .str "hearth", .str "added", .str "subway", .str "mulled", .str "lesser", .str "samey", .str "nothing", .str "boxes", .str "locker", .str "lanes", .str "doors", .str "hands", .str "b", .str "zzzzzzzz", .str "of", .str "num"], .lst ((n30.drop v.toNat).map PV.str), .lst ((n30.take v.toNat).map PV.str)])) = .ok (.ref (g.length + (0 + 1 + 1 + 1 + 1 + 1 + 1 + 1) + 1 + 1)) (x :: y :: (g ++ [.lst [.str "a", .str "ab", .str "abc", .str "lets", .str "leaper", .str "getit", .str "puts", .str "taken", .str "freed", .str "sender", .str "fetched", .str "says"], .lst [.str "clocks", .str "lots", .str "hearth", .str "added", .str "subway", .str "mulled", .str "lesser", .str "samey", .str "nothing"], .lst [.str "a", .str "ab", .str "abc", .str "lets", .str "leaper", .str "getit", .str "puts", .str "taken", .str "freed", .str "sender", .str "fetched", .str "says", .str "clocks", .str "lots", .str "hearth", .str "added", .str "subway", .str "mulled", .str "lesser", .str "samey", .str "nothing"], .lst [.str "boxes", .str "locker", .str "lanes", .str "doors", .str "hands", .str "b", .str "zzzzzzzz", .str "of", .str "num"], .lst [.str "a", .str "ab", .str "abc", .str "lets", .str "leaper", .str "getit", .str "puts", .str "taken", .str "freed", .str "sender", .str "fetched", .str "says", .str "clocks", .str "lots", .str "hearth", .str "added", .str "subway", .str "mulled", .str "lesser", .str "samey", .str "nothing", .str "boxes", .str "locker", .str "lanes", .str "doors", .str "hands", .str "b", .str "zzzzzzzz", .str "of", .str "num"], .lst ((n30.drop v.toNat).map PV.str), .lst ((n30.take v.toNat).map PV.str), .lst ((n30.drop v.toNat ++ n30.take v.toNat).map PV.str)])) := fun x y => by
    have := add_in (x := x) (y := y) (J := g ++ [.lst [.str "a", .str "ab", .str "abc", .str "lets", .str "leaper", .str "getit", .str "puts", .str "taken", .str "freed", .str "sender", .str "fetched", .str "says"], .lst [.str "clocks", .str "lots", .str "hearth", .str "added", .str "subway", .str "mulled", .str "lesser", .str "samey", .str "nothing"], .lst [.str "a", .str "ab", .str "abc", .str "lets", .str "leaper", .str "getit", .str "puts", .str "taken", .str "freed", .str "sender", .str "fetched", .str "says", .str "clocks", .str "lots", .str "hearth", .str "added", .str "subway", .str "mulled", .str "lesser", .str "samey", .str "nothing"], .lst [.str "boxes", .str "locker", .str "lanes", .str "doors", .str "hands", .str "b", .str "zzzzzzzz", .str "of", .str "num"], .lst [.str "a", .str "ab", .str "abc", .str "lets", .str "leaper", .str "getit", .str "puts", .str "taken", .str "freed", .str "sender", .str "fetched", .str "says", .str "clocks", .str "lots", .str "hearth", .str "added", .str "subway", .str "mulled", .str "lesser", .str "samey", .str "nothing", .str "boxes", .str "locker", .str "lanes", .str "doors", .str "hands", .str "b", .str "zzzzzzzz", .str "of", .str "num"], .lst ((n30.drop v.toNat).map PV.str), .lst ((n30.take v.toNat).map PV.str)]) (a := g.length + (0 + 1 + 1 + 1 + 1 + 1)) (b := g.length + (0 + 1 + 1 + 1 + 1 + 1 + 1)) hp_newk hp_newk (by rw [List.length_map, List.length_map, List.length_drop, List.length_take]; have : n30.length = 30 := rfl; omega)
    rw [← List.map_append] at this
    rw [this]
    simp only [List.append_assoc, List.length_append, List.cons_append, List.nil_append, List.length_cons, List.length_nil]
  refine ⟨[.lst [.str "a", .str "ab", .str "abc", .str "lets", .str "leaper", .str "getit", .str "puts", .str "taken", .str "freed", .str "sender", .str "fetched", .str "says"], .lst [.str "clocks", .str "lots", .str "hearth", .str "added", .str "subway", .str "mulled", .str "lesser", .str "samey", .str "nothing"], .lst [.str "a", .str "ab", .str "abc", .str "lets", .str "leaper", .str "getit", .str "puts", .str "taken", .str "freed", .str "sender", .str "fetched", .str "says", .str "clocks", .str "lots", .str "hearth", .str "added", .str "subway", .str "mulled", .str "lesser", .str "samey", .str "nothing"], .lst [.str "boxes", .str "locker", .str "lanes", .str "doors", .str "hands", .str "b", .str "zzzzzzzz", .str "of", .str "num"], .lst [.str "a", .str "ab", .str "abc", .str "lets", .str "leaper", .str "getit", .str "puts", .str "taken", .str "freed", .str "sender", .str "fetched", .str "says", .str "clocks", .str "lots", .str "hearth", .str "added", .str "subway", .str "mulled", .str "lesser", .str "samey", .str "nothing", .str "boxes", .str "locker", .str "lanes", .str "doors", .str "hands", .str "b", .str "zzzzzzzz", .str "of", .str "num"], .lst ((n30.drop v.toNat).map PV.str), .lst ((n30.take v.toNat).map PV.str), .lst ((n30.drop v.toNat ++ n30.take v.toNat).map PV.str)], g.length + (0 + 1 + 1 + 1 + 1 + 1 + 1 + 1), n30.drop v.toNat ++ n30.take v.toNat, hp_newk, ?_, fun x m => ?_, ?_⟩
  · rw [List.length_append, List.length_drop, List.length_take]; have : n30.length = 30 := rfl; omega
  · rcases List.mem_append.mp m with m | m
    · exact n30_ok x (List.mem_of_mem_drop m)
    · exact n30_ok x (List.mem_of_mem_take m)
  · rw [run_eq T.f__law_names rfl]
    simp? (disch := omega) only [d__law_names, b__law_names, ad1, ad2, c30, ev, c1, c2, ad3]
    exact settle_ref (v := .ref _) rfl
end
end K07
end
section
open PySem L2 P3
set_option maxHeartbeats 1000000
namespace K07
noncomputable def adk (h : PH) (a b : Option PO) : RV PV := match a, b with
  | some (.lst xs), some (.lst ys) => newL (xs ++ ys) h
  | _, _ => .no
theorem add_R {n m : Nat} {h : PH} : pAdd (.ref n) (.ref m) h = adk h (h[n]?) (h[m]?) := by
  unfold pAdd adk
  first | rfl | (simp only; done) | (cases h[n]? <;> cases h[m]? <;> rfl)
theorem add_LL {h : PH} {xs ys : List PV} (hl : xs.length + ys.length ≤ 10000) : adk h (some (.lst xs)) (some (.lst ys)) = .ok (.ref h.length) (h ++ [.lst (xs ++ ys)]) := by
  unfold adk newL
  exact few_of (by rw [List.length_append]; omega)
theorem fine_of {n : Nat} {xs : List PV} {h : PH} (e : h[n]? = some (.lst xs)) : PIt.fine ⟨some n, xs⟩ h = true := by
  unfold PIt.fine
  simp only [e, true_or, decide_true]
theorem cut_toS {nm : List Str} {v : Int} (h0 : 0 ≤ v) : cutP (nm.map PV.str) none (some v) = (nm.take v.toNat).map PV.str := by rw [P3.cut_to h0, List.map_take]
theorem cut_fromS {nm : List Str} {v : Int} (h0 : 0 ≤ v) : cutP (nm.map PV.str) (some v) none = (nm.drop v.toNat).map PV.str := by rw [P3.cut_from h0, List.map_drop]
theorem puts_made {a b c d e : PV} : putP [] (.inr "box") a = [(.inr "box", a)] ∧ putP [(.inr "box", a)] (.inr "lock") b = [(.inr "box", a), (.inr "lock", b)] ∧ putP [(.inr "box", a), (.inr "lock", b)] (.inr "lane") c = [(.inr "box", a), (.inr "lock", b), (.inr "lane", c)] ∧
    putP [(.inr "box", a), (.inr "lock", b), (.inr "lane", c)] (.inr "door") d = [(.inr "box", a), (.inr "lock", b), (.inr "lane", c), (.inr "door", d)] ∧ putP [(.inr "box", a), (.inr "lock", b), (.inr "lane", c), (.inr "door", d)] (.inr "hand") e = [(.inr "box", a), (.inr "lock", b), (.inr "lane", c), (.inr "door", d), (.inr "hand", e)] := by
  refine ⟨?_, ?_, ?_, ?_, ?_⟩ <;> simp [putP, ofString_inj]
section
variable {pg : Tb} (T : Has pg)
include T
theorem sorts_ok (j : Nat) {ns : List Int} (hn : ns.length ≤ 63) (k : Int) (o : Option Int) (g : PH) {n : Nat} {nm : List Str} (hg : g[n]? = some (.lst (nm.map PV.str))) (k0 : 0 ≤ k) (k9 : k + 5 < 1000000) (nl : nm.length = 30) :
    ∃ m1 m2 m3 m4 m5 : Int, (0 ≤ m1 ∧ m1 < 5) ∧ (0 ≤ m2 ∧ m2 < 5) ∧ (0 ≤ m3 ∧ m3 < 5) ∧ (0 ≤ m4 ∧ m4 < 5) ∧ (0 ≤ m5 ∧ m5 < 5) ∧ ∀ rest : MS,
    sSeq (sAsg eDict0 (gN 2))
    (sSeq (sFor (iIn (eLst (aCons (eC (.str "box")) (aCons (eC (.str "lock")) (aCons (eC (.str "lane")) (aCons (eC (.str "door")) (aCons (eC (.str "hand")) aNil))))))) (gN 3) (sSeq (sAsg (eCall "_law_pick" (aCons (eVar 0) (aCons (eC (.int 5)) aNil))) (gN 4))
    (sSeq (sIf (mVal (eOp pEq (eVar 3) (eC (.str "hand")))) (sAsg (eOp pAdd (eC (.int 1)) (eOp pMod (eVar 4) (eC (.int 4)))) (gN 4)) sNx)
    (sSeq (sPut pPut (eVar 2) (eVar 3) (eSl (eVar 1) oNone (oSome (eVar 4))))
    (sAsg (eSl (eVar 1) (oSome (eVar 4)) oNone) (gN 1))))))
    rest) (run pg (j + 2)) [some (.ref 1), some (.ref (n + 1 + 1)), none, none, none, none, none, none, none] (frO ns :: stL k o :: g) =
    rest (run pg (j + 2)) [some (.ref 1), some (.ref (g.length + 11 + 1 + 1)), some (.ref (g.length + 1 + 1)), some (.str "hand"), some (.int (1 + m5 % 4)), none, none, none, none] (frO ns :: stL (k + 5) o :: (g ++
      [.dct [(.inr "box", .ref (g.length + 2 + 1 + 1)), (.inr "lock", .ref (g.length + 4 + 1 + 1)), (.inr "lane", .ref (g.length + 6 + 1 + 1)), (.inr "door", .ref (g.length + 8 + 1 + 1)), (.inr "hand", .ref (g.length + 10 + 1 + 1))],
       .lst [.str "box", .str "lock", .str "lane", .str "door", .str "hand"],
       .lst ((nm.take m1.toNat).map PV.str), .lst ((nm.drop m1.toNat).map PV.str),
       .lst (((nm.drop m1.toNat).take m2.toNat).map PV.str), .lst (((nm.drop m1.toNat).drop m2.toNat).map PV.str),
       .lst ((((nm.drop m1.toNat).drop m2.toNat).take m3.toNat).map PV.str), .lst ((((nm.drop m1.toNat).drop m2.toNat).drop m3.toNat).map PV.str),
       .lst (((((nm.drop m1.toNat).drop m2.toNat).drop m3.toNat).take m4.toNat).map PV.str), .lst (((((nm.drop m1.toNat).drop m2.toNat).drop m3.toNat).drop m4.toNat).map PV.str),
       .lst ((((((nm.drop m1.toNat).drop m2.toNat).drop m3.toNat).drop m4.toNat).take (1 + m5 % 4).toNat).map PV.str), .lst ((((((nm.drop m1.toNat).drop m2.toNat).drop m3.toNat).drop m4.toNat).drop (1 + m5 % 4).toNat).map PV.str)])) := by
  have lt := hp_lt hg
  have old : ∀ G : PH, (g ++ G)[n]? = some (.lst (nm.map PV.str)) := fun G => (hp_old lt).trans hg
  obtain ⟨m1, a1, b1, p1⟩ := pickL T j (g ++ [.dct [], .lst [.str "box", .str "lock", .str "lane", .str "door", .str "hand"]]) hn o (k := k) 5 k0 (by omega) (by decide) (by decide)
  let G1 : PH := [.dct [(.inr "box", .ref (g.length + (0 + 1 + 1) + 1 + 1))], .lst [.str "box", .str "lock", .str "lane", .str "door", .str "hand"], .lst ((nm.take m1.toNat).map PV.str), .lst ((nm.drop m1.toNat).map PV.str)]
  obtain ⟨m2, a2, b2, p2⟩ := pickL T j (g ++ G1) hn o (k := k + 1) 5 (by omega) (by omega) (by decide) (by decide)
  let G2 : PH := [.dct [(.inr "box", .ref (g.length + (0 + 1 + 1) + 1 + 1)), (.inr "lock", .ref (g.length + (0 + 1 + 1 + 1 + 1) + 1 + 1))], .lst [.str "box", .str "lock", .str "lane", .str "door", .str "hand"], .lst ((nm.take m1.toNat).map PV.str), .lst ((nm.drop m1.toNat).map PV.str), .lst (((nm.drop m1.toNat).take m2.toNat).map PV.str), .lst (((nm.drop m1.toNat).drop m2.toNat).map PV.str)]
  obtain ⟨m3, a3, b3, p3⟩ := pickL T j (g ++ G2) hn o (k := k + 1 + 1) 5 (by omega) (by omega) (by decide) (by decide)
  let G3 : PH := [.dct [(.inr "box", .ref (g.length + (0 + 1 + 1) + 1 + 1)), (.inr "lock", .ref (g.length + (0 + 1 + 1 + 1 + 1) + 1 + 1)), (.inr "lane", .ref (g.length + (0 + 1 + 1 + 1 + 1 + 1 + 1) + 1 + 1))], .lst [.str "box", .str "lock", .str "lane", .str "door", .str "hand"], .lst ((nm.take m1.toNat).map PV.str), .lst ((nm.drop m1.toNat).map PV.str), .lst (((nm.drop m1.toNat).take m2.toNat).map PV.str), .lst (((nm.drop m1.toNat).drop m2.toNat).map PV.str),
       .lst ((((nm.drop m1.toNat).drop m2.toNat).take m3.toNat).map PV.str), .lst ((((nm.drop m1.toNat).drop m2.toNat).drop m3.toNat).map PV.str)]
  obtain ⟨m4, a4, b4, p4⟩ := pickL T j (g ++ G3) hn o (k := k + 1 + 1 + 1) 5 (by omega) (by omega) (by decide) (by decide)
  let G4 : PH := [.dct [(.inr "box", .ref (g.length + (0 + 1 + 1) + 1 + 1)), (.inr "lock", .ref (g.length + (0 + 1 + 1 + 1 + 1) + 1 + 1)), (.inr "lane", .ref (g.length + (0 + 1 + 1 + 1 + 1 + 1 + 1) + 1 + 1)), (.inr "door", .ref (g.length + (0 + 1 + 1 + 1 + 1 + 1 + 1 + 1 + 1) + 1 + 1))], .lst [.str "box", .str "lock", .str "lane", .str "door", .str "hand"], .lst ((nm.take m1.toNat).map PV.str), .lst ((nm.drop m1.toNat).map PV.str), .lst (((nm.drop m1.toNat).take m2.toNat).map PV.str), .lst (((nm.drop m1.toNat).drop m2.toNat).map PV.str),
       .lst ((((nm.drop m1.toNat).drop m2.toNat).take m3.toNat).map PV.str), .lst ((((nm.drop m1.toNat).drop m2.toNat).drop m3.toNat).map PV.str), .lst (((((nm.drop m1.toNat).drop m2.toNat).drop m3.toNat).take m4.toNat).map PV.str), .lst (((((nm.drop m1.toNat).drop m2.toNat).drop m3.toNat).drop m4.toNat).map PV.str)]
  obtain ⟨m5, a5, b5, p5⟩ := pickL T j (g ++ G4) hn o (k := k + 1 + 1 + 1 + 1) 5 (by omega) (by omega) (by decide) (by decide)
  refine ⟨m1, m2, m3, m4, m5, ⟨a1, b1⟩, ⟨a2, b2⟩, ⟨a3, b3⟩, ⟨a4, b4⟩, ⟨a5, b5⟩, fun rest => ?_⟩
  have mm : 0 ≤ m5 % 4 := Int.emod_nonneg _ (by decide)
  dsimp only [G1, G2, G3, G4] at p2 p3 p4 p5
  have pu := fun a b c d e => puts_made (a := a) (b := b) (c := c) (d := d) (e := e)
  simp? (disch := first | omega | exact fine_of hp_newk | (simp only [List.length_cons, List.length_nil] <;> omega)) only [old, ev_lpC', ev_lpN', ev_lpkN, cut_toS, cut_fromS, put_D, p1, p2, p3, p4, p5, (pu .non .non .non .non .non).1, fun a => (pu a .non .non .non .non).1, fun a b => (pu a b .non .non .non).2.1, fun a b c => (pu a b c .non .non).2.2.1, fun a b c d => (pu a b c d .non).2.2.2.1, fun a b c d e => (pu a b c d e).2.2.2.2]
  have kk : k + 1 + 1 + 1 + 1 + 1 = k + 5 := by omega
  rw [kk]
theorem sorts_ok' (j : Nat) {ns : List Int} (hn : ns.length ≤ 63) (k : Int) (o : Option Int) (g : PH) {n : Nat} {nm : List Str} (hg : g[n]? = some (.lst (nm.map PV.str))) (k0 : 0 ≤ k) (k9 : k + 5 < 1000000) (nl : nm.length = 30) (nk : ∀ x ∈ nm, PyData.strOk x = true) :
    ∃ (g' : PH) (nn nd : Nat) (s1 s2 s3 s4 s5 n5 : List Str) (u3 u4 : Option PV), NamedG (g ++ g') nd s1 s2 s3 s4 s5 ∧ (g ++ g')[nn]? = some (.lst (n5.map PV.str)) ∧ n5.length ≤ 30 ∧ 1 ≤ s5.length ∧ s5.length ≤ 4 ∧ ∀ rest : MS,
    sSeq (sAsg eDict0 (gN 2))
    (sSeq (sFor (iIn (eLst (aCons (eC (.str "box")) (aCons (eC (.str "lock")) (aCons (eC (.str "lane")) (aCons (eC (.str "door")) (aCons (eC (.str "hand")) aNil))))))) (gN 3) (sSeq (sAsg (eCall "_law_pick" (aCons (eVar 0) (aCons (eC (.int 5)) aNil))) (gN 4))
    (sSeq (sIf (mVal (eOp pEq (eVar 3) (eC (.str "hand")))) (sAsg (eOp pAdd (eC (.int 1)) (eOp pMod (eVar 4) (eC (.int 4)))) (gN 4)) sNx)
    (sSeq (sPut pPut (eVar 2) (eVar 3) (eSl (eVar 1) oNone (oSome (eVar 4))))
    (sAsg (eSl (eVar 1) (oSome (eVar 4)) oNone) (gN 1))))))
    rest) (run pg (j + 2)) [some (.ref 1), some (.ref (n + 1 + 1)), none, none, none, none, none, none, none] (frO ns :: stL k o :: g) =
    rest (run pg (j + 2)) [some (.ref 1), some (.ref (nn + 1 + 1)), some (.ref (nd + 1 + 1)), u3, u4, none, none, none, none] (frO ns :: stL (k + 5) o :: (g ++ g')) := by
  obtain ⟨m1, m2, m3, m4, m5, ⟨a1, b1⟩, ⟨a2, b2⟩, ⟨a3, b3⟩, ⟨a4, b4⟩, ⟨a5, b5⟩, h⟩ := sorts_ok T j hn k o g hg k0 k9 nl
  have q5 : 0 ≤ m5 % 4 ∧ m5 % 4 < 4 := ⟨Int.emod_nonneg _ (by decide), Int.emod_lt_of_pos _ (by decide)⟩
  have tk : ∀ {l : List Str} {m : Nat} {x : Str}, x ∈ l.take m → x ∈ l := fun h => List.mem_of_mem_take h
  have dr : ∀ {l : List Str} {m : Nat} {x : Str}, x ∈ l.drop m → x ∈ l := fun h => List.mem_of_mem_drop h
  refine ⟨_, _, _, nm.take m1.toNat, (nm.drop m1.toNat).take m2.toNat, ((nm.drop m1.toNat).drop m2.toNat).take m3.toNat, (((nm.drop m1.toNat).drop m2.toNat).drop m3.toNat).take m4.toNat, ((((nm.drop m1.toNat).drop m2.toNat).drop m3.toNat).drop m4.toNat).take (1 + m5 % 4).toNat, ((((nm.drop m1.toNat).drop m2.toNat).drop m3.toNat).drop m4.toNat).drop (1 + m5 % 4).toNat, _, _, ⟨⟨_, _, _, _, _, hp_new, hp_newk, hp_newk, hp_newk, hp_newk, hp_newk⟩, ⟨fun x m => nk x (tk m), fun x m => nk x (dr (tk m)), fun x m => nk x (dr (dr (tk m))), fun x m => nk x (dr (dr (dr (tk m))))⟩, ?_⟩, hp_newk, ?_, ?_, ?_, h⟩
  · simp only [List.length_take, List.length_drop]; omega
  · simp only [List.length_take, List.length_drop]; omega
  · simp only [List.length_take, List.length_drop]; omega
  · simp only [List.length_take, List.length_drop]; omega
end
end K07
end
section
open PySem L2 P3
set_option maxHeartbeats 1000000
namespace K07
mutual
noncomputable def plainV : PV → Bool
  | .tup xs => decide (xs.length ≤ 100000) && plainL xs
  | .non => true
  | .bl _ => true
  | .int _ => true
  | .str _ => true
  | _ => false
noncomputable def plainL : List PV → Bool
  | [] => true
  | x :: r => plainV x && plainL r
end
mutual
noncomputable def dpV : PV → Nat
  | .tup xs => dpL xs + 1
  | _ => 0
noncomputable def dpL : List PV → Nat
  | [] => 0
  | x :: r => max (dpV x) (dpL r)
end
theorem plain_mem : ∀ {xs : List PV} {x : PV}, plainL xs = true → x ∈ xs → plainV x = true
  | y :: r, x, h, m => by
    rw [plainL, Bool.and_eq_true] at h
    rcases List.mem_cons.mp m with rfl | m
    · exact h.1
    · exact plain_mem h.2 m
theorem dp_mem : ∀ {xs : List PV} {x : PV}, x ∈ xs → dpV x ≤ dpL xs
  | y :: r, x, m => by
    rw [dpL]
    rcases List.mem_cons.mp m with rfl | m
    · omega
    · have := dp_mem m; omega
theorem all_true (n : Nat) : (List.replicate n true).all id = true := by simp
theorem fine_none {xs : List PV} {h : PH} : PIt.fine ⟨none, xs⟩ h = true := rfl
theorem fm_true (n : Nat) : [] ++ (List.range n).filterMap (fun _ => some (PV.bl true)) = (List.replicate n true).map PV.bl := by simp [List.filterMap_some, List.map_const']
section
variable {pg : Tb} (T : Has pg)
include T
theorem same_refl : ∀ (k : Nat) (h : PH) (v : PV), plainV v = true → dpV v ≤ k → run pg (k + 1) "_law_same" [v, v] h = .ok (.bl true) h := by
  intro k
  induction k with
  | zero =>
    intro h v hv hd
    rw [run_eq T.f__law_same rfl]
    cases v with
    | tup xs => rw [dpV] at hd; omega
    | non => simp? (disch := omega) only [d__law_same, b__law_same, isi_N2, isi_Nt]
    | bl p => simp? (disch := omega) only [d__law_same, b__law_same, isi_B2, isi_Bb]
    | int i => simp? (disch := omega) only [d__law_same, b__law_same, isi_I2, isi_Ib, isi_Ii]
    | str i => simp? (disch := omega) only [d__law_same, b__law_same, isi_S2, isi_Sb, isi_Si, isi_Ss]
    | _ => exact nomatch hv
  | succ k ih =>
    intro h v hv hd
    rw [run_eq T.f__law_same rfl]
    cases v with
    | tup xs =>
      rw [plainV, Bool.and_eq_true, decide_eq_true_eq] at hv
      rw [dpV] at hd
      have e1 : lcS ⟨none, rangeP 0 xs.length⟩ (lcStep 1 (gN 2) mTrue (eCall "_law_same" (aCons (eOp pIx (eVar 0) (eVar 2)) (aCons (eOp pIx (eVar 1) (eVar 2)) aNil))) (run pg (k + 1)) [some (.tup xs), some (.tup xs)]) (rangeP 0 xs.length) [] h = .ok ((List.replicate xs.length true).map PV.bl) h := by
        rw [show rangeP 0 xs.length = (List.range xs.length).map (fun i : Nat => PV.int (0 + (i : Int))) from rfl]
        refine (lcS_map (f := fun _ => some (PV.bl true)) (g := fun i : Nat => PV.int (0 + (i : Int))) fine_none (List.range xs.length) [] (fun q m => ?_) (by rw [List.length_range]; exact Nat.le_trans hv.1 (by decide))).trans (by rw [fm_true])
        have hq : q < xs.length := List.mem_range.mp m
        have ix := ix_T (h := h) (P3.atI_nat (xs := xs) (i := 0 + (q : Int)) (n := q) (by omega) (List.getElem?_eq_getElem hq))
        have im : xs[q] ∈ xs := List.getElem_mem hq
        have sm := ih h xs[q] (plain_mem hv.2 im) (by have := dp_mem im; omega)
        simp? (disch := omega) only [ix, sm]
      have al := all_L (h := h ++ [.lst ((List.replicate xs.length true).map PV.bl)]) (n := h.length) hp_new
      rw [all_true] at al
      simp? (disch := omega) only [d__law_same, b__law_same, isi_T2, isi_Tt, isi_Tl, Int.toNat_natCast, e1, al]
      exact settle_app rfl
    | non => simp? (disch := omega) only [d__law_same, b__law_same, isi_N2, isi_Nt]
    | bl p => simp? (disch := omega) only [d__law_same, b__law_same, isi_B2, isi_Bb]
    | int i => simp? (disch := omega) only [d__law_same, b__law_same, isi_I2, isi_Ib, isi_Ii]
    | str i => simp? (disch := omega) only [d__law_same, b__law_same, isi_S2, isi_Sb, isi_Si, isi_Ss]
    | _ => exact nomatch hv
end
theorem at_name {v : Int} (h0 : 0 ≤ v) (h1 : v < 3) : ∃ x : Str, atI [PV.str "a", .str "ab", .str "boxes"] v = some (.str x) := by
  have : v = 0 ∨ v = 1 ∨ v = 2 := by omega
  rcases this with rfl | rfl | rfl <;> exact ⟨_, rfl⟩
theorem at_box {v w : Int} (h0 : 0 ≤ v) (h1 : v < 4) : ∃ n : Int, atI [PV.int 0, .int 1, .int 999, .int w] v = some (.int n) := by
  have : v = 0 ∨ v = 1 ∨ v = 2 ∨ v = 3 := by omega
  rcases this with rfl | rfl | rfl | rfl <;> exact ⟨_, rfl⟩
theorem at_many {v a b c : Int} (h0 : 0 ≤ v) (h1 : v < 4) (a0 : 0 ≤ a) (a1 : a < 4) (b0 : 0 ≤ b) (b1 : b < 6) (c0 : 0 ≤ c) (c1 : c < 6) : ∃ n : Int, 0 ≤ n ∧ n ≤ 30 ∧ atI [PV.int a, .int (3 + b), .int (3 + c), .int 30] v = some (.int n) := by
  have : v = 0 ∨ v = 1 ∨ v = 2 ∨ v = 3 := by omega
  rcases this with rfl | rfl | rfl | rfl
  · exact ⟨a, a0, by omega, rfl⟩
  · exact ⟨3 + b, by omega, by omega, rfl⟩
  · exact ⟨3 + c, by omega, by omega, rfl⟩
  · exact ⟨30, by decide, by decide, rfl⟩
section
variable {pg : Tb} (T : Has pg)
include T
theorem pockets_ok (j : Nat) {ns : List Int} (hn : ns.length ≤ 63) (k : Int) (o : Option Int) (J : PH) {nn nd : Nat} {s1 s2 s3 s4 s5 n5 : List Str} (hN : NamedG J nd s1 s2 s3 s4 s5) (h5 : J[nn]? = some (.lst (n5.map PV.str))) (k0 : 0 ≤ k) (k9 : k + 1 < 1000000) (u3 u4 n7 n8 : Option PV) :
    ∃ (G : PH) (np : Nat) (ps : List Str), (J ++ G)[np]? = some (.lst (ps.map PV.str)) ∧ 0 < ps.length ∧ ps.length ≤ 5 ∧ ∀ rest : MS,
    sSeq (sAsg (eOp pAdd (eOp pAdd (eOp pAdd (eSl (eVar 1) oNone (oSome (eC (.int 2)))) (eSl (eOp pIx (eVar 2) (eC (.str "box"))) oNone (oSome (eC (.int 1))))) (eSl (eOp pIx (eVar 2) (eC (.str "hand"))) oNone (oSome (eC (.int 1))))) (eLst (aCons (eOp pIx (eLst (aCons (eC (.str "a")) (aCons (eC (.str "ab")) (aCons (eC (.str "boxes")) aNil)))) (eCall "_law_pick" (aCons (eVar 0) (aCons (eC (.int 3)) aNil)))) aNil))) (gN 5))
    (sSeq (sAsg (eLst aNil) (gN 6)) rest) (run pg (j + 2)) [some (.ref 1), some (.ref (nn + 1 + 1)), some (.ref (nd + 1 + 1)), u3, u4, none, none, n7, n8] (frO ns :: stL k o :: J) =
    rest (run pg (j + 2)) [some (.ref 1), some (.ref (nn + 1 + 1)), some (.ref (nd + 1 + 1)), u3, u4, some (.ref (np + 1 + 1)), some (.ref ((J ++ G).length + 1 + 1)), n7, n8] (frO ns :: stL (k + 1) o :: (J ++ G ++ [.lst []])) := by
  obtain ⟨⟨b1, b2, b3, b4, b5, e0, e1, e2, e3, e4, e5⟩, _, _⟩ := hN
  obtain ⟨w1, w2, w3, w4, w5⟩ := named_val (b1 := b1 + 1 + 1) (b2 := b2 + 1 + 1) (b3 := b3 + 1 + 1) (b4 := b4 + 1 + 1) (b5 := b5 + 1 + 1)
  have o0 : ∀ G : PH, (J ++ G)[nd]? = _ := fun G => (hp_old (hp_lt e0)).trans e0
  have o1 : ∀ G : PH, (J ++ G)[b1]? = _ := fun G => (hp_old (hp_lt e1)).trans e1
  have o5 : ∀ G : PH, (J ++ G)[b5]? = _ := fun G => (hp_old (hp_lt e5)).trans e5
  let A : List PV := (n5.take 2).map PV.str
  let B : List PV := (s1.take 1).map PV.str
  let C : List PV := (s5.take 1).map PV.str
  have t2 : cutP (n5.map PV.str) none (some 2) = A := cut_toS (by decide)
  have t1 : cutP (s1.map PV.str) none (some 1) = B := cut_toS (by decide)
  have t5 : cutP (s5.map PV.str) none (some 1) = C := cut_toS (by decide)
  have lA : A.length ≤ 2 := by simp only [A, List.length_map, List.length_take]; omega
  have lB : B.length ≤ 1 := by simp only [B, List.length_map, List.length_take]; omega
  have lC : C.length ≤ 1 := by simp only [C, List.length_map, List.length_take]; omega
  obtain ⟨v, v0, v1, ev⟩ := pickL T j (J ++ [.lst A, .lst B, .lst (A ++ B), .lst C, .lst (A ++ (B ++ C)), .lst [.str "a", .str "ab", .str "boxes"]]) hn o (k := k) 3 k0 (by omega) (by decide) (by decide)
  obtain ⟨x, ex⟩ := at_name v0 v1
  have eq : A ++ (B ++ (C ++ [PV.str x])) = (n5.take 2 ++ (s1.take 1 ++ (s5.take 1 ++ [x]))).map PV.str := by simp only [A, B, C, List.map_append, List.map_cons, List.map_nil]
  refine ⟨[.lst A, .lst B, .lst (A ++ B), .lst C, .lst (A ++ (B ++ C)), .lst [.str "a", .str "ab", .str "boxes"], .lst [.str x], .lst (A ++ (B ++ (C ++ [.str x])))], J.length + (0 + 1 + 1 + 1 + 1 + 1 + 1 + 1), n5.take 2 ++ (s1.take 1 ++ (s5.take 1 ++ [x])), ?_, ?_, ?_, fun rest => ?_⟩
  · rw [← eq]; exact hp_newk
  · simp only [List.length_append, List.length_cons]; omega
  · simp only [List.length_append, List.length_cons, List.length_nil, List.length_take]; omega
  · clear_value A B C
    simp? (disch := first | omega | (simp only [List.length_append, List.length_cons, List.length_nil] <;> omega)) only [e0, o0, w1, w5, o1, o5, h5, t2, t1, t5, add_R, add_LL, ev, ex]
theorem rows_ok (j : Nat) {ns : List Int} (hn : ns.length ≤ 63) {np nd : Nat} {ps L : List Str} (p0 : 0 < ps.length) (p9 : ps.length ≤ 1000) (hL : ∀ x ∈ ps, x ∈ L) {s1 s2 s3 s4 s5 : List Str} {g : PH} (hN : NamedG g nd s1 s2 s3 s4 s5) (hp : g[np]? = some (.lst (ps.map PV.str))) (many : Int) (m0 : 0 ≤ many) (m9 : many ≤ 30) (xs0 : List PV) (e1 e3 e6 e7 e8 : Option PV) :
    ∀ (xs ys : List PV) (k : Int) (o : Option Int), 0 ≤ k → k + 84 * xs.length ≤ 1000000 → ys.length + xs.length ≤ 1000 → ∃ (rs : List Rw) (k' : Int) (o' : Option Int), rs.length = xs.length ∧ (∀ r ∈ rs, RwOk L many.toNat r) ∧ k ≤ k' ∧ k' ≤ k + 84 * xs.length ∧
      lcS ⟨none, xs0⟩ (lcStep 1 (gN 9) mTrue (eCall "_law_row" (aCons (eVar 0) (aCons (eVar 2) (aCons (eVar 5) (aCons (eVar 4) aNil))))) (run pg (j + 9)) [some (.ref 1), e1, some (.ref (nd + 1 + 1)), e3, some (.int many), some (.ref (np + 1 + 1)), e6, e7, e8]) xs ys (frO ns :: stL k o :: g) = .ok (ys ++ rs.map rwV) (frO ns :: stL k' o' :: g) := by
  intro xs
  induction xs with
  | nil => intro ys k o k0 k9 _; exact ⟨[], k, o, rfl, fun r m => (nomatch m), by omega, by simp, by rw [P3.lcS, if_pos fine_none]; simp⟩
  | cons x xs ih =>
    intro ys k o k0 k9 hl
    rw [List.length_cons] at k9 hl
    obtain ⟨r, k1, o1, q1, q2, q3, q4⟩ := row_ok T j hn p0 p9 hL hN hp k many o k0 (by omega) m0 (by omega)
    obtain ⟨rs, k2, o2, r1, r2, r3, r4, r5⟩ := ih (ys ++ [rwV r]) k1 o1 (by omega) (by omega) (by simp; omega)
    refine ⟨r :: rs, k2, o2, by simp [r1], fun z m => ?_, by omega, by rw [List.length_cons]; omega, ?_⟩
    · rcases List.mem_cons.mp m with rfl | m
      · exact q1
      · exact r2 z m
    · have st : lcStep 1 (gN 9) mTrue (eCall "_law_row" (aCons (eVar 0) (aCons (eVar 2) (aCons (eVar 5) (aCons (eVar 4) aNil))))) (run pg (j + 9)) [some (.ref 1), e1, some (.ref (nd + 1 + 1)), e3, some (.int many), some (.ref (np + 1 + 1)), e6, e7, e8] x (frO ns :: stL k o :: g) = .ok (some (rwV r)) (frO ns :: stL k1 o1 :: g) := by
        simp? (disch := omega) only [q4]
      have hz : ys.length < sizeLine := Nat.lt_of_lt_of_le (show ys.length < 1001 by omega) (by decide)
      rw [P3.lcS, if_pos ⟨fine_none, hz⟩, st, bind_ok]
      simpa using r5
end
end K07
end
section
open PySem L2 P3
set_option maxHeartbeats 1000000
namespace K07
noncomputable def handV (h : Str × List Rw) : PV := .tup [.str h.1, rowsV h.2]
theorem hands_flat : ∀ hs : List (Str × List Rw), PV.flatL (hs.map handV) = true
  | [] => rfl
  | h :: r => by simp only [List.map_cons, PV.flatL, hands_flat r, handV, PV.flat, rowsV, rows_flat, Bool.and_self]
theorem range_len (n : Nat) : (rangeP 0 n).length = n := by
  rw [show rangeP 0 n = (List.range n).map (fun i : Nat => PV.int (0 + (i : Int))) from rfl, List.length_map, List.length_range]
section
variable {pg : Tb} (T : Has pg)
include T
theorem hands_ok (j : Nat) {ns : List Int} (hn : ns.length ≤ 63) {np nd b5 : Nat} {ps L : List Str} (p0 : 0 < ps.length) (p9 : ps.length ≤ 1000) (hL : ∀ x ∈ ps, x ∈ L) {s1 s2 s3 s4 s5 : List Str} {B : PH} (hN : NamedG B nd s1 s2 s3 s4 s5) (hp : B[np]? = some (.lst (ps.map PV.str))) (h5 : B[b5]? = some (.lst (s5.map PV.str))) (u1 u3 n8 : Option PV) :
    ∀ (xs : List Str) (hs : List (Str × List Rw)) (k : Int) (o : Option Int) (g2 : PH) (u4 u7 : Option PV), 0 ≤ k → k + 2600 * xs.length ≤ 1000000 → hs.length + xs.length ≤ 100 → ∃ (hs' : List (Str × List Rw)) (k' : Int) (o' : Option Int) (g3 : PH) (u4' u7' : Option PV),
      hs'.length = xs.length ∧ (∀ h ∈ hs', h.2.length ≤ 30 ∧ ∀ r ∈ h.2, RwOk L h.2.length r) ∧ k ≤ k' ∧ k' ≤ k + 2600 * xs.length ∧
      loopS ⟨some (b5 + 1 + 1), s5.map PV.str⟩ (fstep (gN 7) (sSeq (sAsg (eOp pIx (eLst (aCons (eCall "_law_pick" (aCons (eVar 0) (aCons (eC (.int 4)) aNil))) (aCons (eOp pAdd (eC (.int 3)) (eCall "_law_pick" (aCons (eVar 0) (aCons (eC (.int 6)) aNil)))) (aCons (eOp pAdd (eC (.int 3)) (eCall "_law_pick" (aCons (eVar 0) (aCons (eC (.int 6)) aNil)))) (aCons (eC (.int 30)) aNil))))) (eCall "_law_pick" (aCons (eVar 0) (aCons (eC (.int 4)) aNil)))) (gN 4))
    (sDrop (eM pAppend isLst (eVar 6) (aCons (eTup (aCons (eVar 7) (aCons (eB pTuple (aCons (eLC 1 (iRange1 (aCons (eVar 4) aNil)) (gN 9) mTrue (eCall "_law_row" (aCons (eVar 0) (aCons (eVar 2) (aCons (eVar 5) (aCons (eVar 4) aNil)))))) aNil)) aNil))) aNil)))) (run pg (j + 9))) (xs.map PV.str)
        [some (.ref 1), u1, some (.ref (nd + 1 + 1)), u3, u4, some (.ref (np + 1 + 1)), some (.ref (B.length + 1 + 1)), u7, n8] (frO ns :: stL k o :: (B ++ (.lst (hs.map handV) :: g2))) =
      .ok (.nx [some (.ref 1), u1, some (.ref (nd + 1 + 1)), u3, u4', some (.ref (np + 1 + 1)), some (.ref (B.length + 1 + 1)), u7', n8]) (frO ns :: stL k' o' :: (B ++ (.lst ((hs ++ hs').map handV) :: g3))) := by
  have fin1 : ∀ (k : Int) (o : Option Int) (g : PH), PIt.fine ⟨some (b5 + 1 + 1), s5.map PV.str⟩ (frO ns :: stL k o :: (B ++ g)) = true := fun k o g => fine_of (show (B ++ g)[b5]? = _ from (hp_old (hp_lt h5)).trans h5)
  intro xs
  induction xs with
  | nil => intro hs k o g2 u4 u7 k0 k9 _; exact ⟨[], k, o, g2, u4, u7, rfl, fun h m => (nomatch m), by omega, by simp, by rw [List.map_nil, ev_lpN' (fin1 _ _ _), List.append_nil]⟩
  | cons x xs ih =>
    intro hs k o g2 u4 u7 k0 k9 hl
    rw [List.length_cons] at k9 hl
    obtain ⟨a, a0, a1, ea⟩ := pickL T (j + 7) (B ++ (.lst (hs.map handV) :: g2)) hn o (k := k) 4 k0 (by omega) (by decide) (by decide)
    obtain ⟨b, b0, b1, eb⟩ := pickL T (j + 7) (B ++ (.lst (hs.map handV) :: g2)) hn o (k := k + 1) 6 (by omega) (by omega) (by decide) (by decide)
    obtain ⟨c, c0, c1, ec⟩ := pickL T (j + 7) (B ++ (.lst (hs.map handV) :: g2)) hn o (k := k + 1 + 1) 6 (by omega) (by omega) (by decide) (by decide)
    obtain ⟨d, d0, d1, ed⟩ := pickL T (j + 7) (B ++ (.lst (hs.map handV) :: (g2 ++ [.lst [.int a, .int (3 + b), .int (3 + c), .int 30]]))) hn o (k := k + 1 + 1 + 1) 4 (by omega) (by omega) (by decide) (by decide)
    obtain ⟨m, m0, m9, em⟩ := at_many d0 d1 a0 a1 b0 b1 c0 c1
    have ml : (rangeP 0 m.toNat).length = m.toNat := range_len _
    obtain ⟨rs, k1, o1, r1, r2, r3, r4, r5⟩ := rows_ok T j hn p0 p9 hL (g := B ++ (.lst (hs.map handV) :: (g2 ++ [.lst [.int a, .int (3 + b), .int (3 + c), .int 30]]))) hN.app ((hp_old (hp_lt hp)).trans hp) m m0 m9 (rangeP 0 m.toNat) u1 u3 (some (.ref (B.length + 1 + 1))) (some (.str x)) n8 (rangeP 0 m.toNat) [] (k + 1 + 1 + 1 + 1) o (by omega) (by omega) (by rw [ml]; simp; omega)
    rw [ml] at r1 r4
    obtain ⟨hs', k2, o2, g3, u4', u7', q1, q2, q3, q4, q5⟩ := ih (hs ++ [(x, rs)]) k1 o1 (g2 ++ [.lst [.int a, .int (3 + b), .int (3 + c), .int 30], .lst (rs.map rwV)]) (some (.int m)) (some (.str x)) (by omega) (by omega) (by simp; omega)
    refine ⟨(x, rs) :: hs', k2, o2, g3, u4', u7', by simp [q1], fun h mm => ?_, by omega, by rw [List.length_cons]; omega, ?_⟩
    · rcases List.mem_cons.mp mm with rfl | mm
      · exact ⟨by show rs.length ≤ 30; omega, fun r mr => by show RwOk L rs.length r; rw [r1]; exact r2 r mr⟩
      · exact q2 h mm
    · rw [List.map_cons, ev_lpC' (fin1 _ _ _)]
      have hz : (hs.map handV).length < 16777216 := by rw [List.length_map]; omega
      have e2 : (hs ++ [(x, rs)]).map handV = hs.map handV ++ [.tup [.str x, .tup (rs.map rwV)]] := by rw [List.map_append]; rfl
      rw [e2] at q5
      rw [show hs ++ (x, rs) :: hs' = hs ++ [(x, rs)] ++ hs' by simp]
      rw [List.nil_append] at r5
      simp? (disch := omega) only [ea, eb, ec, ed, em, r5, ap_L hz, ev_lpkN, q5]
theorem boxes_ok (j : Nat) {ns : List Int} (hn : ns.length ≤ 63) {b1 : Nat} {s1 : List Str} {B : PH} (h1 : B[b1]? = some (.lst (s1.map PV.str))) (o : Option Int) (e1 e2 e3 e4 e5 e6 e7 e8 : Option PV) :
    ∀ (xs : List Str) (ys : List PV) (k : Int) (g2 : PH), 0 ≤ k → k + 2 * xs.length ≤ 1000000 → ys.length + xs.length ≤ 1000 → ∃ (bs : List PV) (k' : Int) (g3 : PH), PV.flatL bs = true ∧ k ≤ k' ∧ k' ≤ k + 2 * xs.length ∧
      lcS ⟨some (b1 + 1 + 1), s1.map PV.str⟩ (lcStep 1 (gN 9) mTrue (eTup (aCons (eVar 9) (aCons (eOp pIx (eLst (aCons (eC (.int 0)) (aCons (eC (.int 1)) (aCons (eC (.int 999)) (aCons (eCall "_law_pick" (aCons (eVar 0) (aCons (eC (.int 1000)) aNil))) aNil))))) (eCall "_law_pick" (aCons (eVar 0) (aCons (eC (.int 4)) aNil)))) aNil))) (run pg (j + 2)) [some (.ref 1), e1, e2, e3, e4, e5, e6, e7, e8]) (xs.map PV.str) ys (frO ns :: stL k o :: (B ++ g2)) = .ok (ys ++ bs) (frO ns :: stL k' o :: (B ++ (g2 ++ g3))) := by
  have fin1 : ∀ (k : Int) (o : Option Int) (g : PH), PIt.fine ⟨some (b1 + 1 + 1), s1.map PV.str⟩ (frO ns :: stL k o :: (B ++ g)) = true := fun k o g => fine_of (show (B ++ g)[b1]? = _ from (hp_old (hp_lt h1)).trans h1)
  intro xs
  induction xs with
  | nil => intro ys k g2 k0 k9 _; exact ⟨[], k, [], rfl, by omega, by simp, by rw [List.map_nil, P3.lcS, if_pos (fin1 _ _ _)]; simp⟩
  | cons x xs ih =>
    intro ys k g2 k0 k9 hl
    rw [List.length_cons] at k9 hl
    obtain ⟨a, a0, a1, ea⟩ := pickL T j (B ++ g2) hn o (k := k) 1000 k0 (by omega) (by decide) (by decide)
    obtain ⟨b, b0, b1, eb⟩ := pickL T j (B ++ (g2 ++ [.lst [.int 0, .int 1, .int 999, .int a]])) hn o (k := k + 1) 4 (by omega) (by omega) (by decide) (by decide)
    obtain ⟨n, en⟩ := at_box (w := a) b0 b1
    obtain ⟨bs, k2, g3, q1, q2, q3, q4⟩ := ih (ys ++ [.tup [.str x, .int n]]) (k + 1 + 1) (g2 ++ [.lst [.int 0, .int 1, .int 999, .int a]]) (by omega) (by omega) (by simp; omega)
    refine ⟨.tup [.str x, .int n] :: bs, k2, .lst [.int 0, .int 1, .int 999, .int a] :: g3, by rw [PV.flatL, q1]; rfl, by omega, by rw [List.length_cons]; omega, ?_⟩
    have st : lcStep 1 (gN 9) mTrue (eTup (aCons (eVar 9) (aCons (eOp pIx (eLst (aCons (eC (.int 0)) (aCons (eC (.int 1)) (aCons (eC (.int 999)) (aCons (eCall "_law_pick" (aCons (eVar 0) (aCons (eC (.int 1000)) aNil))) aNil))))) (eCall "_law_pick" (aCons (eVar 0) (aCons (eC (.int 4)) aNil)))) aNil))) (run pg (j + 2)) [some (.ref 1), e1, e2, e3, e4, e5, e6, e7, e8] (.str x) (frO ns :: stL k o :: (B ++ g2)) = .ok (some (.tup [.str x, .int n])) (frO ns :: stL (k + 1 + 1) o :: (B ++ (g2 ++ [.lst [.int 0, .int 1, .int 999, .int a]]))) := by
      simp? (disch := omega) only [ea, eb, en]
    have hz : ys.length < sizeLine := Nat.lt_of_lt_of_le (show ys.length < 1001 by omega) (by decide)
    rw [List.map_cons, P3.lcS, if_pos ⟨fin1 _ _ _, hz⟩, st, bind_ok]
    simpa using q4
end
end K07
end
section
open PySem L2 P3
set_option maxHeartbeats 1000000
namespace K07
noncomputable def seatNames : List Str := ["a", "ab", "boxes", "b", "lets"]
structure ProgOk (L : List Str) (s2 : List Str) (hs : List (Str × List Rw)) (p : PV) : Prop where
  len : L.length ≤ 10
  seat : ∀ x ∈ seatNames, x ∈ L
  locks : s2.length ≤ 10
  many : 1 ≤ hs.length ∧ hs.length ≤ 4
  rows : ∀ h ∈ hs, h.2.length ≤ 30 ∧ ∀ r ∈ h.2, RwOk L h.2.length r
  at_ : ∃ bs s3 s4 : List PV, p = .tup [.tup bs, .tup (s2.map PV.str), .tup s3, .tup s4, .tup (hs.map handV)]
  flat : p.flat = true
section
variable {pg : Tb} (T : Has pg)
include T
theorem program_ok (j : Nat) {ns : List Int} (hn : ns.length ≤ 63) (k : Int) (o : Option Int) (g : PH) (k0 : 0 ≤ k) (k9 : k + 11000 ≤ 1000000) :
    ∃ (L s2 : List Str) (hs : List (Str × List Rw)) (p : PV) (k' : Int) (o' : Option Int), ProgOk L s2 hs p ∧ k ≤ k' ∧ k' ≤ k + 11000 ∧ run pg (j + 10) "_law_program" [.ref 1] (frO ns :: stL k o :: g) = .ok p (frO ns :: stL k' o' :: g) := by
  obtain ⟨g1, n, nm, a1, a2, a3, a4⟩ := names_ok T (j + 6) hn k o g k0 (by omega)
  obtain ⟨g2, nn, nd, s1, s2, s3, s4, s5, n5, u3, u4, b1, b2, b3, b4, b5, b6⟩ := sorts_ok' T (j + 7) hn (k + 1) o (g ++ g1) a1 (by omega) (by omega) a2 a3
  obtain ⟨g3, np, ps, c1, c2, c3, c4⟩ := pockets_ok T (j + 7) hn (k + 1 + 5) o (g ++ g1 ++ g2) b1 b2 (by omega) (by omega) u3 u4 none none
  have NB : NamedG (g ++ g1 ++ g2 ++ g3) nd s1 s2 s3 s4 s5 := b1.app
  generalize hB : g ++ g1 ++ g2 ++ g3 = B at *
  have NB' := NB
  obtain ⟨⟨x1, x2, x3, x4, x5, e0, e1, e2, e3, e4, e5⟩, _, l1, l2, l3, l4, l5⟩ := NB'
  obtain ⟨w1, w2, w3, w4, w5⟩ := named_val (b1 := x1 + 1 + 1) (b2 := x2 + 1 + 1) (b3 := x3 + 1 + 1) (b4 := x4 + 1 + 1) (b5 := x5 + 1 + 1)
  obtain ⟨hs, k1, o1, g4, v4, v7, d1, d2, d3, d4, d5⟩ := hands_ok T j hn (L := ps ++ seatNames) c2 (by omega) (fun x m => List.mem_append_left _ m) NB c1 e5 (some (.ref (nn + 1 + 1))) u3 none s5 [] (k + 1 + 5 + 1) o [] u4 none (by omega) (by omega) (by simp; omega)
  obtain ⟨bs, k2, g5, f1, f2, f3, f4⟩ := boxes_ok T (j + 7) hn e1 o1 (some (.ref (nn + 1 + 1))) (some (.ref (nd + 1 + 1))) u3 v4 (some (.ref (np + 1 + 1))) (some (.ref (B.length + 1 + 1))) v7 none s1 [] k1 (.lst (hs.map handV) :: g4) (by omega) (by omega) (by simp; omega)
  have pf : PV.flat (.tup [.tup bs, .tup (s2.map PV.str), .tup (s3.map PV.str), .tup (s4.map PV.str), .tup (hs.map handV)]) = true := by
    simp only [PV.flat, PV.flatL, f1, held_flat, hands_flat, Bool.and_self]
  refine ⟨ps ++ seatNames, s2, hs, _, k2, o1, ⟨by simp only [List.length_append]; have : seatNames.length = 5 := rfl; omega, fun x m => List.mem_append_right _ m, l2, by omega, d2, ⟨bs, s3.map PV.str, s4.map PV.str, rfl⟩, pf⟩, by omega, by omega, ?_⟩
  rw [run_eq T.f__law_program rfl]
  unfold d__law_program b__law_program
  have s0 : ∀ rest, sSeq (sAsg (eCall "_law_names" (aCons (eVar 0) aNil)) (gN 1)) rest (run pg (j + 9)) [some (.ref 1), none, none, none, none, none, none, none, none] (frO ns :: stL k o :: g) = rest (run pg (j + 9)) [some (.ref 1), some (.ref (n + 1 + 1)), none, none, none, none, none, none, none] (frO ns :: stL (k + 1) o :: (g ++ g1)) := fun rest => by
    simp? (disch := omega) only [a4]
  refine (congrArg (fin _) ((s0 _).trans ((b6 _).trans (c4 _)))).trans ?_
  have o0 : ∀ G : PH, (B ++ G)[nd]? = _ := fun G => (hp_old (hp_lt e0)).trans e0
  have y1 : ∀ G : PH, (B ++ G)[x1]? = _ := fun G => (hp_old (hp_lt e1)).trans e1
  have y2 : ∀ G : PH, (B ++ G)[x2]? = _ := fun G => (hp_old (hp_lt e2)).trans e2
  have y3 : ∀ G : PH, (B ++ G)[x3]? = _ := fun G => (hp_old (hp_lt e3)).trans e3
  have y4 : ∀ G : PH, (B ++ G)[x4]? = _ := fun G => (hp_old (hp_lt e4)).trans e4
  have y5 : ∀ G : PH, (B ++ G)[x5]? = _ := fun G => (hp_old (hp_lt e5)).trans e5
  rw [List.map_nil, List.nil_append] at d5
  rw [List.nil_append, List.cons_append] at f4
  simp? (disch := omega) only [o0, w1, w2, w3, w4, w5, y1, y2, y3, y4, y5, d5, f4]
  rw [← hB]
  simp only [List.append_assoc]
  exact settleL pf
end
end K07
end
section
open PySem L2 P3
set_option maxHeartbeats 1000000
namespace K07
noncomputable def tb3 (a b : Int) : List (Key × PV) := [(.inr "add", .int ((a + b) % 1000)), (.inr "sub", .int ((a - b) % 1000)), (.inr "mul", .int (a * b % 1000))]
theorem tb_made (a b : Int) (u v : PV) : mergeP [] (tb3 a b) = tb3 a b ∧ putP (tb3 a b) (.inr "less") u = tb3 a b ++ [(.inr "less", u)] ∧ putP (tb3 a b ++ [(.inr "less", u)]) (.inr "same") v = tb3 a b ++ [(.inr "less", u), (.inr "same", v)] := by
  refine ⟨?_, ?_, ?_⟩ <;> simp [tb3, mergeP, putP, ofString_inj]
theorem tb_val (o : Bo) (a b : Int) : valP (tb3 a b ++ [(.inr "less", .int (if a < b then 1 else 0)), (.inr "same", .int (if a = b then 1 else 0))]) (.inr o.w) = some (.int (o.f a b)) := by
  cases o <;> simp [tb3, valP, ofString_inj, Bo.w, Bo.f]
section
variable {pg : Tb} (T : Has pg)
include T
theorem lw_eq {D : Pk} {n : Nat} (hf : ∀ x, 0 ≤ fP D x ∧ fP D x ≤ 999) : ∀ (e : Sm) (k : Nat) (h : PH), h[n]? = some (.dct (kvS D)) → e.ok → e.dp ≤ k → run pg (k + 1) "_law_worth" [smV e, .ref n] h = .ok (.int (e.val (fP D))) h
  | .num i, k, h, hn, ho, hk => by
    rw [run_eq T.f__law_worth rfl]
    simp? (disch := omega) only [d__law_worth, b__law_worth, smV, Sm.val]
  | .of x, k, h, hn, ho, hk => by
    rw [run_eq T.f__law_worth rfl]
    simp? (disch := omega) only [d__law_worth, b__law_worth, smV, Sm.val, hn, val_kv]
  | .un a, k, h, hn, ho, hk => by
    obtain ⟨k, rfl⟩ : ∃ j, k = j + 1 := ⟨k - 1, by unfold Sm.dp at hk; omega⟩
    have ih := lw_eq hf a k h hn ho (by unfold Sm.dp at hk; omega)
    have e1 : lcS ⟨none, [smV a]⟩ (lcStep 1 (gN 6) mTrue (eCall "_law_worth" (aCons (eVar 6) (aCons (eVar 1) aNil))) (run pg (k + 1)) [some (.tup [.str "not", smV a]), some (.ref n), none, none, none, none]) [smV a] [] h = .ok [.int (a.val (fP D))] h := by
      have := lcS_map (it := ⟨none, [smV a]⟩) (h := h) fine_none (step := lcStep 1 (gN 6) mTrue (eCall "_law_worth" (aCons (eVar 6) (aCons (eVar 1) aNil))) (run pg (k + 1)) [some (.tup [.str "not", smV a]), some (.ref n), none, none, none, none]) (f := fun e : Sm => some (PV.int (e.val (fP D)))) (g := smV) [a] [] (fun x m => by
        rw [List.mem_singleton] at m; subst m
        simp? (disch := omega) only [ih]) (show 1 + 0 ≤ 16777216 by decide)
      exact this
    rw [run_eq T.f__law_worth rfl]
    simp? (disch := omega) only [d__law_worth, b__law_worth, smV, Sm.val, cut1, e1, at_0]
    split <;> exact settle_app rfl
  | .bin o a b, k, h, hn, ho, hk => by
    obtain ⟨k, rfl⟩ : ∃ j, k = j + 1 := ⟨k - 1, by unfold Sm.dp at hk; omega⟩
    have ih1 := lw_eq hf a k h hn ho.1 (by unfold Sm.dp at hk; omega)
    have ih2 := lw_eq hf b k h hn ho.2 (by unfold Sm.dp at hk; omega)
    have va := Sm.val_in hf a ho.1
    have vb := Sm.val_in hf b ho.2
    show run pg (k + 1 + 1) "_law_worth" [.tup [.str o.w, smV a, smV b], .ref n] h = .ok (.int (o.f (a.val (fP D)) (b.val (fP D)))) h
    generalize a.val (fP D) = x at ih1 va ⊢
    generalize b.val (fP D) = y at ih2 vb ⊢
    have e1 : lcS ⟨none, [smV a, smV b]⟩ (lcStep 1 (gN 6) mTrue (eCall "_law_worth" (aCons (eVar 6) (aCons (eVar 1) aNil))) (run pg (k + 1)) [some (.tup [.str o.w, smV a, smV b]), some (.ref n), none, none, none, none]) [smV a, smV b] [] h = .ok [.int x, .int y] h := by
      have := lcS_map (it := ⟨none, [smV a, smV b]⟩) (h := h) fine_none (step := lcStep 1 (gN 6) mTrue (eCall "_law_worth" (aCons (eVar 6) (aCons (eVar 1) aNil))) (run pg (k + 1)) [some (.tup [.str o.w, smV a, smV b]), some (.ref n), none, none, none, none]) (f := fun q : PV × Int => some (PV.int q.2)) (g := fun q : PV × Int => q.1) [(smV a, x), (smV b, y)] [] (fun q m => by
        rcases List.mem_cons.mp m with rfl | m
        · simp? (disch := omega) only [ih1]
        · rw [List.mem_singleton] at m; subst m
          simp? (disch := omega) only [ih2]) (show 2 + 0 ≤ 16777216 by decide)
      exact this
    rw [run_eq T.f__law_worth rfl]
    have dk : dck (h.length + (0 + 1)) (tb3 x y) (h ++ [.lst [.int x, .int y], .dct []]) = .ok (.ref (h.length + (0 + 1))) (h ++ [.lst [.int x, .int y], .dct (tb3 x y)]) := by
      have := ev_dckN (h := h ++ [.lst [.int x, .int y]]) (kvs := tb3 x y) (show 3 ≤ 15 by decide)
      rw [(tb_made x y .non .non).1] at this
      simpa using this
    have l3 : (tb3 x y).length < 16777216 := by show 3 < 16777216; decide
    have l4 : ∀ u, (tb3 x y ++ [((.inr "less" : Key), u)]).length < 16777216 := fun u => by show 4 < 16777216; decide
    have p3 := fun u => (tb_made x y u .non).2.1
    have p4 := fun u v => (tb_made x y u v).2.2
    have tv := tb_val o x y
    have ne : ¬ o.w = "not" := by cases o <;> decide
    have n1 : ¬ o.w = "num" := by cases o <;> decide
    have n2 : ¬ o.w = "of" := by cases o <;> decide
    unfold tb3 at dk l3 l4 p3 p4 tv
    simp only [List.cons_append, List.nil_append] at l4 p3 p4 tv
    by_cases c2 : x = y
    · subst c2
      have c1 : ¬ x < x := by omega
      simp only [c1, eq_self, if_true, if_false, reduceIte] at tv
      simp? (disch := first | omega | exact l3 | exact l4 _) only [d__law_worth, b__law_worth, n1, n2, ne, c1, eq_self, cut1, e1, ev_asgW, ev_gWR, ev_gWL2, ev_dict, ev_dcC, ev_dc1S, ev_dc2, ev_dc3, ev_dcN, dk, put_D, p3, p4, tv]
      exact settle_app (v := .int _) rfl
    · by_cases c1 : x < y <;> simp only [c1, c2, if_true, if_false, reduceIte] at tv <;>
        (simp? (disch := first | omega | exact l3 | exact l4 _) only [d__law_worth, b__law_worth, n1, n2, ne, c1, c2, cut1, e1, ev_asgW, ev_gWR, ev_gWL2, ev_dict, ev_dcC, ev_dc1S, ev_dc2, ev_dc3, ev_dcN, dk, put_D, p3, p4, tv]; exact settle_app (v := .int _) rfl)
end
end K07
end
section
open PySem L2 P3
set_option maxHeartbeats 1000000
namespace K07
structure DOk (L : List Str) (D : Pk) : Prop where
  nd : (D.map (·.1)).Nodup
  mem : ∀ q ∈ D, q.1 ∈ L ∧ 0 ≤ q.2 ∧ q.2 ≤ 999
noncomputable def putD (D : Pk) (x : Str) (v : Int) : Pk := if x ∈ D.map (·.1) then D.map (fun q => if q.1 = x then (q.1, v) else q) else D ++ [(x, v)]
theorem putD_names (D : Pk) (x : Str) (v : Int) : (D.map (fun q => if q.1 = x then (q.1, v) else q)).map (·.1) = D.map (·.1) := by
  rw [List.map_map]
  refine List.map_congr_left fun q _ => ?_
  show (if q.1 = x then (q.1, v) else q).1 = q.1
  split <;> rfl
theorem putD_kv (D : Pk) (x : Str) (v : Int) : putP (kvS D) (.inr x) (.int v) = kvS (putD D x v) := by
  unfold putP putD
  have e : ((kvS D).any fun kv => decide (kv.1 = .inr x)) = decide (x ∈ D.map (·.1)) := by
    rw [Bool.eq_iff_iff]
    simp only [List.any_eq_true, decide_eq_true_eq, kvS, List.mem_map]
    constructor
    · rintro ⟨kv, ⟨q, m, rfl⟩, e⟩; exact ⟨q, m, Sum.inr.inj e⟩
    · rintro ⟨q, m, rfl⟩; exact ⟨_, ⟨q, m, rfl⟩, rfl⟩
  rw [e]
  by_cases h : x ∈ D.map (·.1)
  · rw [if_pos (by simpa only [decide_eq_true_eq] using h), if_pos h]
    unfold kvS
    rw [List.map_map]; rw [List.map_map]
    refine List.map_congr_left fun q _ => ?_
    show (if (Sum.inr q.1 : Key) = Sum.inr x then ((Sum.inr q.1 : Key), PV.int v) else (Sum.inr q.1, PV.int q.2)) = _
    by_cases z : q.1 = x
    · rw [if_pos (by rw [z])]; simp [z]
    · rw [if_neg (fun e => z (Sum.inr.inj e))]; simp [z]
  · rw [if_neg (by simpa only [decide_eq_true_eq] using h), if_neg h]
    unfold kvS
    rw [List.map_append]; rfl
theorem fP_set (x : Str) (v : Int) (y : Str) : ∀ D : Pk, x ∈ D.map (·.1) → fP (D.map (fun q => if q.1 = x then (q.1, v) else q)) y = if y = x then v else fP D y
  | q :: r, h => by
    rw [List.map_cons, fP, fP]
    by_cases z : q.1 = x
    · rw [if_pos z]
      by_cases w : y = x
      · subst w; rw [if_pos z, if_pos rfl]
      · rw [if_neg (fun e => w (e.symm.trans z)), if_neg w, if_neg (fun e => w (e.symm.trans z))]
        by_cases hr : x ∈ r.map (·.1)
        · rw [fP_set x v y r hr, if_neg w]
        · congr 1
          refine (List.map_congr_left fun p m => ?_).trans (List.map_id _)
          show (if p.1 = x then (p.1, v) else p) = p
          rw [if_neg (fun e => hr (List.mem_map.mpr ⟨p, m, e⟩))]
    · rw [if_neg z]
      have hr : x ∈ r.map (·.1) := by
        rcases List.mem_cons.mp h with e | m
        · exact absurd e.symm z
        · exact m
      rw [fP_set x v y r hr]
      by_cases w : q.1 = y
      · rw [if_pos w, if_pos w, if_neg (fun e => z (w.trans e))]
      · rw [if_neg w, if_neg w]
theorem fP_app (x : Str) (v : Int) (y : Str) : ∀ D : Pk, x ∉ D.map (·.1) → fP (D ++ [(x, v)]) y = if y = x then v else fP D y
  | [], _ => by
    rw [List.nil_append, fP, fP]
    by_cases w : y = x
    · rw [if_pos w, if_pos w.symm]
    · rw [if_neg w, if_neg (fun e => w e.symm)]; rfl
  | q :: r, h => by
    rw [List.map_cons, List.mem_cons, not_or] at h
    rw [List.cons_append, fP, fP, fP_app x v y r h.2]
    by_cases w : q.1 = y
    · rw [if_pos w, if_pos w, if_neg (fun e => h.1 (e.symm.trans w.symm))]
    · rw [if_neg w, if_neg w]
theorem putD_fP (D : Pk) (x : Str) (v : Int) (y : Str) : fP (putD D x v) y = if y = x then v else fP D y := by
  unfold putD
  split
  · rename_i h; exact fP_set x v y D h
  · rename_i h; exact fP_app x v y D h
theorem putD_ok {L : List Str} {D : Pk} {x : Str} {v : Int} (h : DOk L D) (hx : x ∈ L) (h0 : 0 ≤ v) (h9 : v ≤ 999) : DOk L (putD D x v) := by
  unfold putD
  split
  · refine ⟨by rw [putD_names]; exact h.nd, fun q m => ?_⟩
    obtain ⟨p, mp, rfl⟩ := List.mem_map.mp m
    by_cases z : p.1 = x
    · rw [if_pos z]; exact ⟨(h.mem p mp).1, h0, h9⟩
    · rw [if_neg z]; exact h.mem p mp
  · rename_i hn
    refine ⟨?_, fun q m => ?_⟩
    · rw [List.map_append]
      refine List.nodup_append.mpr ⟨h.nd, by simp, fun a ha b hb e => ?_⟩
      have hb' : b = x := by simpa using hb
      exact hn (by rw [← hb', ← e]; exact ha)
    · rcases List.mem_append.mp m with m | m
      · exact h.mem q m
      · rw [List.mem_singleton.mp m]; exact ⟨hx, h0, h9⟩
theorem DOk.rng {L : List Str} {D : Pk} (h : DOk L D) : ∀ x, 0 ≤ fP D x ∧ fP D x ≤ 999 := fun x => by
  by_cases hx : x ∈ D.map (·.1)
  · obtain ⟨q, m, rfl⟩ := List.mem_map.mp hx
    rw [fP_mem h.nd q m]; exact (h.mem q m).2
  · rw [fP_out hx]; decide
end K07
end
section
open PySem L2 P3
set_option maxHeartbeats 1000000
namespace K07
theorem set_same {h : PH} {n : Nat} {o : PO} (e : h[n]? = some o) : h.set n o = h := by
  refine List.ext_getElem? fun i => ?_
  by_cases z : n = i
  · subst z; rw [List.getElem?_set_self (hp_lt e), e]
  · rw [List.getElem?_set_ne z]
section
variable {pg : Tb} (T : Has pg)
include T
theorem law_own_none (k : Nat) (h : PH) (n : Nat) {rs : List Rw} {s : Seat} (hs : s.row ≤ rs.length) (hr : rested1 rs s = true) : run pg (k + 1) "_law_own" [rowsV rs, .int s.row, .ref n, heldV s.held] h = .ok .non h := by
  rw [run_eq T.f__law_own rfl]
  cases e : rs[s.row]? with
  | none =>
    have : s.row = rs.length := by have := List.getElem?_eq_none_iff.mp e; omega
    simp? (disch := omega) only [d__law_own, b__law_own, rowsV, this, List.length_map]
  | some r =>
    have hlt : s.row < rs.length := (List.getElem?_eq_some_iff.mp e).1
    have ne : ¬ (s.row : Int) = (rs.length : Int) := by omega
    have ix := ix_T (h := h) (atI_rows e)
    have ho : own s.held r = false := by unfold rested1 at hr; rw [e] at hr; simpa using hr
    cases r with
    | take l =>
      have hl : ¬ l ∈ s.held := by simpa [own] using ho
      simp? (disch := omega) only [d__law_own, b__law_own, rowsV, ne, ix, rwV, Rw.w, Rw.ps, heldV, hl, List.length_map]
    | free l =>
      have hl : l ∈ s.held := by simpa [own] using ho
      simp? (disch := omega) only [d__law_own, b__law_own, rowsV, ne, ix, rwV, Rw.w, Rw.ps, heldV, hl, List.length_map]
    | let_ x e0 => exact nomatch ho
    | leap x e0 => exact nomatch ho
    | _ => simp? (disch := omega) only [d__law_own, b__law_own, rowsV, ne, ix, rwV, Rw.w, Rw.ps, heldV, List.length_map]
theorem law_own_some (k : Nat) (h : PH) (n : Nat) {L : List Str} {rs : List Rw} {s : Seat} {r : Rw} {D : Pk} (e : rs[s.row]? = some r) (ho : own s.held r = true) (hr : RwOk L rs.length r) (hn : h[n]? = some (.dct (kvS D))) (hD : DOk L D) (hf : ∀ x, fP D x = fP s.ps x) (nd : (s.ps.map (·.1)).Nodup) (dl : D.length ≤ 1000) :
    ∃ D' : Pk, DOk L D' ∧ (∀ x, fP D' x = fP (behind s r).ps x) ∧ D'.length ≤ D.length + 1 ∧ run pg (k + 9) "_law_own" [rowsV rs, .int s.row, .ref n, heldV s.held] h = .ok (.int (behind s r).row) (h.set n (.dct (kvS D'))) := by
  have hlt : s.row < rs.length := (List.getElem?_eq_some_iff.mp e).1
  have ne : ¬ (s.row : Int) = (rs.length : Int) := by omega
  have ix := ix_T (h := h) (atI_rows e)
  have ff : fP D = fP s.ps := funext hf
  have w : ∀ e0 : Sm, SmOk e0 → run pg (k + 8) "_law_worth" [smV e0, .ref n] h = .ok (.int (e0.val (fP s.ps))) h := fun e0 he => by
    rw [← ff]; exact lw_eq T hD.rng e0 (k + 7) h hn he.1 (by have := he.2; omega)
  have hl9 : (kvS D).length < 16777216 := by unfold kvS; rw [List.length_map]; omega
  rw [run_eq T.f__law_own rfl]
  cases r with
  | let_ x e0 =>
    have hv := Sm.val_in (f := fP s.ps) (by rw [← ff]; exact hD.rng) e0 hr.2.1
    refine ⟨putD D x (e0.val (fP s.ps)), putD_ok hD hr.1 hv.1 hv.2, fun y => ?_, ?_, ?_⟩
    · rw [putD_fP, behind, lay_fP nd, hf]
    · unfold putD; split <;> simp
    · simp? (disch := omega) only [d__law_own, b__law_own, rowsV, ne, ix, rwV, Rw.w, Rw.ps, heldV, List.length_map, w e0 hr.2, hn, put_D hl9, putD_kv, settle_set0 (o := PO.dct (kvS D)), behind]
      rfl
  | leap j e0 =>
    refine ⟨D, hD, fun y => ?_, by omega, ?_⟩
    · rw [hf]; show _ = fP (if e0.val (fP s.ps) = 0 then (⟨s.row + 1, s.ps, s.held⟩ : Seat) else ⟨j.toNat, s.ps, s.held⟩).ps y; split <;> rfl
    · rw [set_same hn]
      have hv := Sm.val_in (f := fP s.ps) (by rw [← ff]; exact hD.rng) e0 hr.2.2.1
      by_cases z : e0.val (fP s.ps) = 0
      · have z' : ¬ 0 < e0.val (fP s.ps) := by omega
        simp? (disch := omega) only [d__law_own, b__law_own, rowsV, ne, ix, rwV, Rw.w, Rw.ps, heldV, List.length_map, w e0 hr.2.2, z', behind, z]
        rfl
      · have z' : 0 < e0.val (fP s.ps) := by omega
        have jj : ((j.toNat : Nat) : Int) = j := by have := hr.1; omega
        simp? (disch := omega) only [d__law_own, b__law_own, rowsV, ne, ix, rwV, Rw.w, Rw.ps, heldV, List.length_map, w e0 hr.2.2, z', behind, z, jj]
  | take l =>
    have hl : l ∈ s.held := by simpa [own] using ho
    refine ⟨D, hD, hf, by omega, ?_⟩
    rw [set_same hn]
    simp? (disch := omega) only [d__law_own, b__law_own, rowsV, ne, ix, rwV, Rw.w, Rw.ps, heldV, hl, behind, List.length_map]
    rfl
  | free l =>
    have hl : ¬ l ∈ s.held := by simpa [own] using ho
    refine ⟨D, hD, hf, by omega, ?_⟩
    rw [set_same hn]
    simp? (disch := omega) only [d__law_own, b__law_own, rowsV, ne, ix, rwV, Rw.w, Rw.ps, heldV, hl, behind, List.length_map]
    rfl
  | _ => exact nomatch ho
end
end K07
end
section
open PySem L2 P3
set_option maxHeartbeats 1000000
namespace K07
theorem wh_stop {t : PEnv → PH → RV Bool} {b : PEnv → PH → RV Fl} {f : Nat} {e : PEnv} {h h1 : PH} (ht : t e h = .ok false h1) : whileN t b (f + 1) e h = .ok (.nx e) h1 := by
  rw [whileN, ht, bind_ok]; rfl
theorem wh_go {t : PEnv → PH → RV Bool} {b : PEnv → PH → RV Fl} {f : Nat} {e e1 : PEnv} {h h1 h2 : PH} (ht : t e h = .ok true h1) (hb : b e h1 = .ok (.nx e1) h2) : whileN t b (f + 1) e h = whileN t b f e1 h2 := by
  rw [whileN, ht, bind_ok, if_pos rfl, hb, bind_ok]
theorem dict_copy {h g : PH} {D : Pk} (nd : (D.map (·.1)).Nodup) (dl : D.length ≤ 1000) : pDict [.ref h.length] (h ++ .dct (kvS D) :: g) = .ok (.ref (h.length + (g.length + 1))) (h ++ .dct (kvS D) :: (g ++ [.dct (kvS D)])) := by
  have e : (h ++ .dct (kvS D) :: g)[h.length]? = some (.dct (kvS D)) := hp_new
  have z : (kvS D).length ≤ sizeLine := by unfold kvS; rw [List.length_map]; exact Nat.le_trans dl (by decide)
  simp only [pDict, e, if_pos z, kv_merge nd, List.length_append, List.length_cons, List.append_assoc, List.cons_append]
theorem DOk.len {L : List Str} {D : Pk} (h : DOk L D) : D.length ≤ L.length := by
  have := List.Nodup.length_le_of_subset h.nd (l₂ := L) (fun x hx => by obtain ⟨q, hq, rfl⟩ := List.mem_map.mp hx; exact (h.mem q hq).1)
  simpa using this
theorem behind_held (s : Seat) (r : Rw) : (behind s r).held = s.held := by
  cases r with
  | leap j e0 => show (if e0.val (fP s.ps) = 0 then (⟨s.row + 1, s.ps, s.held⟩ : Seat) else ⟨j.toNat, s.ps, s.held⟩).held = s.held; split <;> rfl
  | _ => rfl
theorem not_rested {rs : List Rw} {s : Seat} (h : rested1 rs s = false) : ∃ r, rs[s.row]? = some r ∧ own s.held r = true := by
  unfold rested1 at h
  cases e : rs[s.row]? with
  | none => rw [e] at h; exact nomatch h
  | some r => rw [e] at h; exact ⟨r, rfl, by simpa using h⟩
section
variable {pg : Tb} (T : Has pg)
include T
theorem rest_loop (k : Nat) (h : PH) {L : List Str} (hL : L.length ≤ 20) {rs : List Rw} (hr : ∀ r ∈ rs, RwOk L rs.length r) (s0 : Seat) : ∀ (m i : Nat) (t : Seat) (D : Pk) (g : PH) (a0 : Int) (u6 : Option PV) (f : Nat), i + m = 199 → m + 2 ≤ f → SeatOk L rs t → t.held = s0.held → DOk L D → (∀ x, fP D x = fP t.ps x) →
    ∃ (n' : Nat) (D' : Pk) (G : PH) (p' : Int) (u6' : Option PV), (h ++ G)[n']? = some (.dct (kvS D')) ∧ DOk L D' ∧ (∀ x, fP D' x = fP (restF rs m t).ps x) ∧
    whileN (mVal (eUn (pIsN true) (eVar 5)) (run pg (k + 9))) ((sSeq (sAsg (eVar 5) (gN 3))
    (sSeq (sAsg (eOp pAdd (eVar 4) (eC (.int 1))) (gN 4))
    (sSeq (sAsg (eB pDict (aCons (eVar 2) aNil)) (gN 6))
    (sSeq (sAsg (eCall "_law_own" (aCons (eVar 0) (aCons (eVar 3) (aCons (eVar 2) (aCons (eOp pIx (eVar 1) (eC (.int 2))) aNil))))) (gN 5))
    (sIf (mAnd (mVal (eOp pEq (eVar 4) (eC (.int 200)))) (mVal (eUn (pIsN true) (eVar 5)))) (sSeq (sAsg (eVar 6) (gN 2))
    (sSeq (sAsg (eB pLen (aCons (eVar 0) aNil)) (gN 3))
    (sAsg (eC .non) (gN 5)))) sNx))))) (run pg (k + 9))) f [some (rowsV rs), some (seatV s0), some (.ref h.length), some (.int a0), some (.int i), some (.int t.row), u6] (h ++ .dct (kvS D) :: g) =
    .ok (.nx [some (rowsV rs), some (seatV s0), some (.ref n'), some (.int (restF rs m t).row), some (.int p'), some .non, u6']) (h ++ G) := by
  intro m
  induction m with
  | zero =>
    intro i t D g a0 u6 f hi hf hs hh hD hp
    obtain ⟨f, rfl⟩ : ∃ j, f = j + 1 + 1 := ⟨f - 2, by omega⟩
    have ct := dict_copy (h := h) (g := g) hD.nd (by have := hD.len; omega)
    have p200 : (i : Int) + 1 = 200 := by omega
    have hd : pIx (seatV s0) (.int 2) (h ++ .dct (kvS D) :: (g ++ [.dct (kvS D)])) = .ok (heldV t.held) (h ++ .dct (kvS D) :: (g ++ [.dct (kvS D)])) := by rw [hh]; rfl
    cases r1 : rested1 rs t with
    | true =>
      have on := law_own_none T (k + 8) (h ++ .dct (kvS D) :: (g ++ [.dct (kvS D)])) h.length hs.le r1
      have fr : restF rs 0 t = t := by unfold restF; rw [if_pos r1]
      refine ⟨h.length, D, .dct (kvS D) :: (g ++ [.dct (kvS D)]), i + 1, some (.ref (h.length + (g.length + 1))), hp_new, hD, by rw [fr]; exact hp, ?_⟩
      rw [fr]
      rw [wh_go (h1 := h ++ .dct (kvS D) :: g) (e1 := [some (rowsV rs), some (seatV s0), some (.ref h.length), some (.int t.row), some (.int (i + 1)), some .non, some (.ref (h.length + (g.length + 1)))]) (h2 := h ++ .dct (kvS D) :: (g ++ [.dct (kvS D)])) ?_ ?_]
      · refine wh_stop ?_
        simp? (disch := omega) only [List.map_nil]
      · simp? (disch := omega) only [List.map_nil]
      · simp? (disch := omega) only [ct, hd, on, p200]
    | false =>
      obtain ⟨r, e, ho⟩ := not_rested r1
      obtain ⟨D1, q1, q2, q3, q4⟩ := law_own_some T k (h ++ .dct (kvS D) :: (g ++ [.dct (kvS D)])) h.length e ho (hr r (List.mem_of_getElem? e)) hp_new hD hp hs.pk.nd (by have := hD.len; omega)
      rw [hp_setnew, List.set_cons_zero] at q4
      have fr : restF rs 0 t = ⟨rs.length, t.ps, t.held⟩ := by unfold restF; rw [if_neg (by simp [r1])]
      refine ⟨h.length + (g.length + 1), D, .dct (kvS D1) :: (g ++ [.dct (kvS D)]), i + 1, some (.ref (h.length + (g.length + 1))), by rw [hp_newk, List.getElem?_cons_succ]; exact hp_new, hD, by rw [fr]; exact hp, ?_⟩
      rw [fr]
      rw [wh_go (h1 := h ++ .dct (kvS D) :: g) (e1 := [some (rowsV rs), some (seatV s0), some (.ref (h.length + (g.length + 1))), some (.int rs.length), some (.int (i + 1)), some .non, some (.ref (h.length + (g.length + 1)))]) (h2 := h ++ .dct (kvS D1) :: (g ++ [.dct (kvS D)])) ?_ ?_]
      · refine wh_stop ?_
        simp? (disch := omega) only [List.map_nil]
      · simp? (disch := omega) only [List.map_nil]
      · have rl : pLen [rowsV rs] (h ++ .dct (kvS D1) :: (g ++ [.dct (kvS D)])) = .ok (.int rs.length) (h ++ .dct (kvS D1) :: (g ++ [.dct (kvS D)])) := by unfold rowsV; rw [len_T, List.length_map]
        simp? (disch := omega) only [ct, hd, q4, p200, rl]
  | succ m ih =>
    intro i t D g a0 u6 f hi hf hs hh hD hp
    obtain ⟨f, rfl⟩ : ∃ j, f = j + 1 + 1 := ⟨f - 2, by omega⟩
    have ct := dict_copy (h := h) (g := g) hD.nd (by have := hD.len; omega)
    have n200 : ¬ (i : Int) + 1 = 200 := by omega
    have hd : pIx (seatV s0) (.int 2) (h ++ .dct (kvS D) :: (g ++ [.dct (kvS D)])) = .ok (heldV t.held) (h ++ .dct (kvS D) :: (g ++ [.dct (kvS D)])) := by rw [hh]; rfl
    cases r1 : rested1 rs t with
    | true =>
      have on := law_own_none T (k + 8) (h ++ .dct (kvS D) :: (g ++ [.dct (kvS D)])) h.length hs.le r1
      have fr : restF rs (m + 1) t = t := by unfold restF; rw [if_pos r1]
      refine ⟨h.length, D, .dct (kvS D) :: (g ++ [.dct (kvS D)]), i + 1, some (.ref (h.length + (g.length + 1))), hp_new, hD, by rw [fr]; exact hp, ?_⟩
      rw [fr]
      rw [wh_go (h1 := h ++ .dct (kvS D) :: g) (e1 := [some (rowsV rs), some (seatV s0), some (.ref h.length), some (.int t.row), some (.int (i + 1)), some .non, some (.ref (h.length + (g.length + 1)))]) (h2 := h ++ .dct (kvS D) :: (g ++ [.dct (kvS D)])) ?_ ?_]
      · refine wh_stop ?_
        simp? (disch := omega) only [List.map_nil]
      · simp? (disch := omega) only [List.map_nil]
      · simp? (disch := omega) only [ct, hd, on, n200]
    | false =>
      obtain ⟨r, e, ho⟩ := not_rested r1
      have hm := hr r (List.mem_of_getElem? e)
      obtain ⟨D1, q1, q2, q3, q4⟩ := law_own_some T k (h ++ .dct (kvS D) :: (g ++ [.dct (kvS D)])) h.length e ho hm hp_new hD hp hs.pk.nd (by have := hD.len; omega)
      rw [hp_setnew, List.set_cons_zero] at q4
      have fr : restF rs (m + 1) t = restF rs m (behind t r) := by rw [restF, if_neg (by simp [r1]), e]
      obtain ⟨n', D', G, p', u6', w1, w2, w3, w4⟩ := ih (i + 1) (behind t r) D1 (g ++ [.dct (kvS D)]) t.row (some (.ref (h.length + (g.length + 1)))) (f + 1) (by omega) (by omega) (behind_ok hs hm e) (by rw [behind_held]; exact hh) q1 q2
      refine ⟨n', D', G, p', u6', w1, w2, by rw [fr]; exact w3, ?_⟩
      rw [fr]
      rw [wh_go (h1 := h ++ .dct (kvS D) :: g) (e1 := [some (rowsV rs), some (seatV s0), some (.ref h.length), some (.int t.row), some (.int ((i + 1 : Nat) : Int)), some (.int (behind t r).row), some (.ref (h.length + (g.length + 1)))]) (h2 := h ++ .dct (kvS D1) :: (g ++ [.dct (kvS D)])) ?_ ?_]
      · exact w4
      · simp? (disch := omega) only [List.map_nil]
      · simp? (disch := omega) only [ct, hd, q4, n200]
        rfl
end
end K07
end
section
open PySem L2 P3
set_option maxHeartbeats 1000000
namespace K07
theorem seq_to {a b : MS} {c : CF} {e e1 : PEnv} {h h1 : PH} (q : a c e h = .ok (.nx e1) h1) : sSeq a b c e h = b c e1 h1 := by rw [ev_seq, q, bd_ok, ev_seqN]
theorem ev_wh {t : MT} {b : MS} {c : CF} {e : PEnv} {h : PH} : sWhile t b c e h = whileN (t c) (b c) 100000 e h := (rfl)
theorem sortS_perm (ss : List Str) : (sortS ss).Perm ss := List.mergeSort_perm ss _
theorem sortS_srt {ss : List Str} (nd : ss.Nodup) : (sortS ss).Pairwise ltS := by
  have h1 : (sortS ss).Pairwise fun a b => leS a b = true := List.pairwise_mergeSort leS_trans (fun a b => by simpa using leS_total a b) ss
  have h2 : (sortS ss).Pairwise (· ≠ ·) := (sortS_perm ss).nodup_iff.mpr nd
  refine h1.imp₂ (fun a b z1 z2 => ?_) h2
  rcases ltS_or z2 with z | z
  · exact z
  · unfold leS at z1; simp [z] at z1
theorem kv_names {D : Pk} {f : Key × PV → PV} (hf : ∀ q : Str × Int, f (.inr q.1, .int q.2) = .str q.1) : (kvS D).map f = (D.map (·.1)).map PV.str := by
  unfold kvS; rw [List.map_map, List.map_map]; exact List.map_congr_left fun q _ => hf q
theorem sort_kv {h : PH} {n : Nat} {D : Pk} (e : h[n]? = some (.dct (kvS D))) (hl : D.length < 64) : pSortedW [.ref n] h = .ok (.ref h.length) (h ++ [.lst ((sortS (D.map (·.1))).map PV.str)]) := by
  have i0 : itemsOf h (.ref n) = none := by simp [itemsOf, lstOf, e]
  show pSorted [.ref n] h = _
  unfold pSorted
  simp only [i0, e]
  rw [kv_names, P3.strsP_map]
  · simp only [List.length_map, if_pos hl]
  · exact fun q => rfl
theorem kv_at {D : Pk} {x : Str} : ∀ {D : Pk}, x ∈ D.map (·.1) → valP (kvS D) (.inr x) = some (.int (fP D x))
  | q :: r, m => by
    unfold fP kvS
    rw [List.map_cons]
    by_cases e : q.1 = x
    · rw [if_pos e, e, val_hit]
    · rw [if_neg e, val_miss (by simpa using e)]
      rcases List.mem_cons.mp m with m | m
      · exact absurd m.symm e
      · exact kv_at (D := D) m
noncomputable def tell (D : Pk) (ns : List Str) : Pk := (ns.filter fun x => decide (0 < fP D x)).map fun x => (x, fP D x)
theorem tell_fm (D : Pk) : ∀ ns : List Str, (ns.filterMap fun x => if 0 < fP D x then some (prV (x, fP D x)) else none) = (tell D ns).map prV
  | [] => rfl
  | x :: r => by
    unfold tell
    by_cases z : 0 < fP D x
    · rw [List.filterMap_cons_some (by rw [if_pos z]), List.filter_cons_of_pos (by simpa using z), List.map_cons, List.map_cons, tell_fm D r]; rfl
    · rw [List.filterMap_cons_none (by rw [if_neg z]), List.filter_cons_of_neg (by simpa using z), tell_fm D r]; rfl
theorem tell_names (D : Pk) (ns : List Str) : (tell D ns).map (·.1) = ns.filter fun x => decide (0 < fP D x) := by
  unfold tell; rw [List.map_map]; exact List.map_id _
theorem tell_is {L : List Str} {D ps : Pk} (h : DOk L D) (hp : PkIn L ps) (e : ∀ x, fP D x = fP ps x) : tell D (sortS (D.map (·.1))) = ps := by
  have hin : PkIn L (tell D (sortS (D.map (·.1)))) := by
    refine ⟨?_, fun q m => ?_⟩
    · rw [tell_names]; exact (sortS_srt h.nd).sublist List.filter_sublist
    · unfold tell at m
      obtain ⟨x, mx, rfl⟩ := List.mem_map.mp m
      obtain ⟨m1, m2⟩ := List.mem_filter.mp mx
      obtain ⟨q, mq, rfl⟩ := List.mem_map.mp ((sortS_perm _).mem_iff.mp m1)
      have := h.rng q.1
      have m3 : 0 < fP D q.1 := by simpa using m2
      exact ⟨(h.mem q mq).1, by show 1 ≤ fP D q.1; omega, by show fP D q.1 ≤ 999; omega⟩
  refine pk_ext hin hp fun x => ?_
  rw [← e]
  by_cases hx : x ∈ (tell D (sortS (D.map (·.1)))).map (·.1)
  · obtain ⟨q, m, rfl⟩ := List.mem_map.mp hx
    rw [fP_mem hin.nd q m]
    unfold tell at m
    obtain ⟨y, _, rfl⟩ := List.mem_map.mp m
    rfl
  · rw [fP_out hx]
    rw [tell_names] at hx
    have := h.rng x
    by_cases hy : x ∈ D.map (·.1)
    · have : ¬ 0 < fP D x := fun z => hx (List.mem_filter.mpr ⟨(sortS_perm _).mem_iff.mpr hy, by simpa using z⟩)
      omega
    · rw [fP_out hy]
theorem restF_held {rs : List Rw} : ∀ (n : Nat) (s : Seat), (restF rs n s).held = s.held
  | 0, s => by unfold restF; split <;> rfl
  | n + 1, s => by
    unfold restF; split
    · rfl
    · split
      · rfl
      · rw [restF_held n, behind_held]
section
variable {pg : Tb} (T : Has pg)
include T
theorem rest_tail (k : Nat) (h G : PH) {L : List Str} (hL : L.length ≤ 20) {rs : List Rw} {s t : Seat} {n' : Nat} {D' : Pk} (p' : PV) (u5 u6 : Option PV) (e : (h ++ G)[n']? = some (.dct (kvS D'))) (hD : DOk L D') (hp : ∀ x, fP D' x = fP t.ps x) (ht : SeatOk L rs t) (hh : t.held = s.held) :
    fin h ((sRet (eTup (aCons (eVar 3) (aCons (eB pTuple (aCons (eLC 1 (iIn (eB pSortedW (aCons (eVar 2) aNil))) (gN 7) (mVal (eOp pGt (eOp pIx (eVar 2) (eVar 7)) (eC (.int 0)))) (eTup (aCons (eVar 7) (aCons (eOp pIx (eVar 2) (eVar 7)) aNil)))) aNil)) (aCons (eOp pIx (eVar 1) (eC (.int 2))) aNil))))) (run pg k) [some (rowsV rs), some (seatV s), some (.ref n'), some (.int t.row), some p', u5, u6] (h ++ G)) = .ok (seatV t) h := by
  have dl := hD.len
  have so := sort_kv e (show D'.length < 64 by omega)
  have e' : (h ++ (G ++ [.lst ((sortS (D'.map (·.1))).map PV.str)]))[n']? = some (.dct (kvS D')) := by rw [← List.append_assoc, hp_old (hp_lt e)]; exact e
  have fi : PIt.fine ⟨some (h.length + G.length), (sortS (D'.map (·.1))).map PV.str⟩ (h ++ (G ++ [.lst ((sortS (D'.map (·.1))).map PV.str)])) = true := by
    unfold PIt.fine
    have : (h ++ (G ++ [PO.lst ((sortS (D'.map (·.1))).map PV.str)]))[h.length + G.length]? = some (.lst ((sortS (D'.map (·.1))).map PV.str)) := by rw [hp_newk]; exact hp_new
    simp only [this, true_or, decide_true]
  have lc : lcS ⟨some (h.length + G.length), (sortS (D'.map (·.1))).map PV.str⟩ (lcStep 1 (gN 7) (mVal (eOp pGt (eOp pIx (eVar 2) (eVar 7)) (eC (.int 0)))) (eTup (aCons (eVar 7) (aCons (eOp pIx (eVar 2) (eVar 7)) aNil))) (run pg k) [some (rowsV rs), some (seatV s), some (.ref n'), some (.int t.row), some p', u5, u6]) ((sortS (D'.map (·.1))).map PV.str) [] (h ++ (G ++ [.lst ((sortS (D'.map (·.1))).map PV.str)])) = .ok (t.ps.map prV) (h ++ (G ++ [.lst ((sortS (D'.map (·.1))).map PV.str)])) := by
    refine (lcS_map (f := fun x : Str => if 0 < fP D' x then some (prV (x, fP D' x)) else none) (g := PV.str) fi (sortS (D'.map (·.1))) [] (fun x m => ?_) (by rw [(sortS_perm _).length_eq]; simp; omega)).trans (by rw [tell_fm, tell_is hD ht.pk hp, List.nil_append])
    have hv := kv_at (D := D') ((sortS_perm _).mem_iff.mp m)
    simp? (disch := omega) only [e', hv, prV]
    split <;> rfl
  have i2 : ∀ g, pIx (seatV s) (.int 2) g = .ok (heldV t.held) g := fun g => by rw [hh]; rfl
  simp? (disch := omega) only [so, lc, i2]
  exact settle_app (v := seatV t) (seatV_flat t)
theorem law_rested_eq (k : Nat) (h : PH) {L : List Str} (hL : L.length ≤ 20) {rs : List Rw} (hr : ∀ r ∈ rs, RwOk L rs.length r) {s : Seat} (hs : SeatOk L rs s) : run pg (k + 10) "_law_rested" [rowsV rs, seatV s] h = .ok (seatV (restF rs 200 s)) h := by
  have hz : (s.ps.map prV).length < 16777216 := by rw [List.length_map]; have := hs.pk.len; omega
  have dp : pDict [pkV s.ps] h = .ok (.ref h.length) (h ++ [.dct (kvS s.ps)]) := by unfold pkV; rw [dict_T, pairs_kv, dict_S hz, kv_merge hs.pk.nd]
  have hD : DOk L s.ps := ⟨hs.pk.nd, fun q m => ⟨(hs.pk.mem q m).1, by have := (hs.pk.mem q m).2.1; omega, (hs.pk.mem q m).2.2⟩⟩
  have i0 : ∀ g, pIx (seatV s) (.int 0) g = .ok (.int s.row) g := fun g => rfl
  have i1 : ∀ g, pIx (seatV s) (.int 1) g = .ok (pkV s.ps) g := fun g => rfl
  have i2 : ∀ g, pIx (seatV s) (.int 2) g = .ok (heldV s.held) g := fun g => rfl
  rw [run_eq T.f__law_rested rfl]
  have hd : ∀ (rest : MS) (v : PV) (h1 : PH), run pg (k + 9) "_law_own" [rowsV rs, .int s.row, .ref h.length, heldV s.held] (h ++ [.dct (kvS s.ps)]) = .ok v h1 → (sSeq (sAsg (eB pDict (aCons (eOp pIx (eVar 1) (eC (.int 1))) aNil)) (gN 2))
    (sSeq (sAsg (eOp pIx (eVar 1) (eC (.int 0))) (gN 3))
    (sSeq (sAsg (eC (.int 0)) (gN 4))
    (sSeq (sAsg (eCall "_law_own" (aCons (eVar 0) (aCons (eVar 3) (aCons (eVar 2) (aCons (eOp pIx (eVar 1) (eC (.int 2))) aNil))))) (gN 5)) rest)))) (run pg (k + 9)) [some (rowsV rs), some (seatV s), none, none, none, none, none] h = rest (run pg (k + 9)) [some (rowsV rs), some (seatV s), some (.ref h.length), some (.int s.row), some (.int 0), some v, none] h1 := fun rest v h1 q => by
    simp? (disch := omega) only [i0, i1, i2, dp, q]
  cases r1 : rested1 rs s with
  | true =>
    have on := law_own_none T (k + 8) (h ++ [.dct (kvS s.ps)]) h.length hs.le r1
    have fr : restF rs 200 s = s := by rw [restF, if_pos r1]
    rw [fr]
    refine (congrArg (fin h) ((hd _ _ _ on).trans (seq_to ?_))).trans (rest_tail T (k + 9) h [.dct (kvS s.ps)] hL (.int 0) (some .non) none hp_new hD (fun _ => rfl) hs rfl)
    rw [ev_wh]
    refine wh_stop (f := 99999) ?_
    simp? (disch := omega) only [List.map_nil]
  | false =>
    obtain ⟨r, e, ho⟩ := not_rested r1
    have hm := hr r (List.mem_of_getElem? e)
    obtain ⟨D1, q1, q2, q3, q4⟩ := law_own_some T k (h ++ [.dct (kvS s.ps)]) h.length e ho hm hp_new hD (fun _ => rfl) hs.pk.nd (by have := hD.len; omega)
    rw [hp_setnew, List.set_cons_zero] at q4
    have fr : restF rs 200 s = restF rs 199 (behind s r) := by rw [restF, if_neg (by simp [r1]), e]
    rw [fr]
    obtain ⟨n', D', G, p', u6', w1, w2, w3, w4⟩ := rest_loop T k h hL hr s 199 0 (behind s r) D1 [] s.row none 100000 (by decide) (by decide) (behind_ok hs hm e) (behind_held s r) q1 q2
    have hb := restF_ok hr 199 _ (behind_ok hs hm e)
    refine (congrArg (fin h) ((hd _ _ _ q4).trans (seq_to ?_))).trans (rest_tail T (k + 9) h G hL (s := s) (.int p') (some .non) u6' w1 w2 w3 hb (by rw [restF_held, behind_held]))
    rw [show ((0 : Nat) : Int) = (0 : Int) from rfl] at w4
    rw [ev_wh]
    exact w4
end
end K07
end
section
open PySem L2 P3
set_option maxHeartbeats 1000000
namespace K07
theorem sort_L {h : PH} {n : Nat} {ss : List Str} (e : h[n]? = some (.lst (ss.map PV.str))) (hl : ss.length < 64) : pSortedW [.ref n] h = .ok (.ref h.length) (h ++ [.lst ((sortS ss).map PV.str)]) := by
  have i0 : itemsOf h (.ref n) = some (ss.map PV.str) := by simp [itemsOf, lstOf, e]
  show pSorted [.ref n] h = _
  unfold pSorted
  simp only [i0, P3.strsP_map, if_pos hl]
section
variable {pg : Tb} (T : Has pg)
include T
theorem pock_ok (j : Nat) {ns : List Int} (hn : ns.length ≤ 63) {b : Nat} {s1 : List Str} {B : PH} (h1 : B[b]? = some (.lst (s1.map PV.str))) (o : Option Int) (e1 e2 e3 e4 e5 e6 : Option PV) :
    ∀ (xs : List Str) (ys : List PV) (k : Int), 0 ≤ k → k + 2 * xs.length ≤ 1000000 → ys.length + xs.length ≤ 1000 → ∃ (ps : Pk) (k' : Int), (ps.map (·.1)).Sublist xs ∧ (∀ q ∈ ps, 1 ≤ q.2 ∧ q.2 ≤ 999) ∧ k ≤ k' ∧ k' ≤ k + 2 * xs.length ∧
      P3.lcS ⟨some (b + 1 + 1), s1.map PV.str⟩ (lcStep 1 (gN 7) (mVal (eOp pEq (eCall "_law_pick" (aCons (eVar 0) (aCons (eC (.int 3)) aNil))) (eC (.int 0)))) (eTup (aCons (eVar 7) (aCons (eOp pAdd (eC (.int 1)) (eCall "_law_pick" (aCons (eVar 0) (aCons (eC (.int 999)) aNil)))) aNil))) (run pg (j + 2)) [some (.ref 1), e1, e2, e3, e4, e5, e6]) (xs.map PV.str) ys (frO ns :: stL k o :: B) = .ok (ys ++ ps.map prV) (frO ns :: stL k' o :: B) := by
  have fin1 : ∀ (k : Int), PIt.fine ⟨some (b + 1 + 1), s1.map PV.str⟩ (frO ns :: stL k o :: B) = true := fun k => fine_of (show B[b]? = _ from h1)
  intro xs
  induction xs with
  | nil => intro ys k k0 k9 _; exact ⟨[], k, .slnil, fun q m => (nomatch m), by omega, by simp, by rw [List.map_nil, P3.lcS, if_pos (fin1 _)]; simp⟩
  | cons x xs ih =>
    intro ys k k0 k9 hl
    rw [List.length_cons] at k9 hl
    obtain ⟨a, a0, a1, ea⟩ := pickL T j B hn o (k := k) 3 k0 (by omega) (by decide) (by decide)
    have hz : ys.length < sizeLine := Nat.lt_of_lt_of_le (show ys.length < 1001 by omega) (by decide)
    rw [List.map_cons, P3.lcS, if_pos ⟨fin1 _, hz⟩]
    by_cases za : a = 0
    · obtain ⟨c, c0, c1, ec⟩ := pickL T j B hn o (k := k + 1) 999 (by omega) (by omega) (by decide) (by decide)
      obtain ⟨ps, k2, q1, q2, q3, q4, q5⟩ := ih (ys ++ [prV (x, 1 + c)]) (k + 1 + 1) (by omega) (by omega) (by simp; omega)
      refine ⟨(x, 1 + c) :: ps, k2, by rw [List.map_cons]; exact q1.cons_cons x, fun q m => ?_, by omega, by rw [List.length_cons]; omega, ?_⟩
      · rcases List.mem_cons.mp m with rfl | m
        · exact ⟨by show 1 ≤ 1 + c; omega, by show 1 + c ≤ 999; omega⟩
        · exact q2 q m
      have st : lcStep 1 (gN 7) (mVal (eOp pEq (eCall "_law_pick" (aCons (eVar 0) (aCons (eC (.int 3)) aNil))) (eC (.int 0)))) (eTup (aCons (eVar 7) (aCons (eOp pAdd (eC (.int 1)) (eCall "_law_pick" (aCons (eVar 0) (aCons (eC (.int 999)) aNil)))) aNil))) (run pg (j + 2)) [some (.ref 1), e1, e2, e3, e4, e5, e6] (.str x) (frO ns :: stL k o :: B) = .ok (some (prV (x, 1 + c))) (frO ns :: stL (k + 1 + 1) o :: B) := by
        subst za
        simp? (disch := omega) only [ea, ec, prV]
      rw [st, bind_ok]
      simpa using q5
    · obtain ⟨ps, k2, q1, q2, q3, q4, q5⟩ := ih ys (k + 1) (by omega) (by omega) (by omega)
      refine ⟨ps, k2, q1.cons x, q2, by omega, by rw [List.length_cons]; omega, ?_⟩
      have st : lcStep 1 (gN 7) (mVal (eOp pEq (eCall "_law_pick" (aCons (eVar 0) (aCons (eC (.int 3)) aNil))) (eC (.int 0)))) (eTup (aCons (eVar 7) (aCons (eOp pAdd (eC (.int 1)) (eCall "_law_pick" (aCons (eVar 0) (aCons (eC (.int 999)) aNil)))) aNil))) (run pg (j + 2)) [some (.ref 1), e1, e2, e3, e4, e5, e6] (.str x) (frO ns :: stL k o :: B) = .ok none (frO ns :: stL (k + 1) o :: B) := by
        simp? (disch := omega) only [ea, za]
      rw [st, bind_ok]
      exact q5
theorem held_ok (j : Nat) {ns : List Int} (hn : ns.length ≤ 63) {xs0 : List PV} {B : PH} (o : Option Int) (e1 e2 e3 e4 e5 e6 : Option PV) :
    ∀ (xs : List Str) (ys : List PV) (k : Int), 0 ≤ k → k + xs.length ≤ 1000000 → ys.length + xs.length ≤ 1000 → ∃ (ls : List Str) (k' : Int), ls.Sublist xs ∧ k ≤ k' ∧ k' ≤ k + xs.length ∧
      P3.lcS ⟨none, xs0⟩ (lcStep 1 (gN 7) (mVal (eOp pEq (eCall "_law_pick" (aCons (eVar 0) (aCons (eC (.int 2)) aNil))) (eC (.int 0)))) (eVar 7) (run pg (j + 2)) [some (.ref 1), e1, e2, e3, e4, e5, e6]) (xs.map PV.str) ys (frO ns :: stL k o :: B) = .ok (ys ++ ls.map PV.str) (frO ns :: stL k' o :: B) := by
  intro xs
  induction xs with
  | nil => intro ys k k0 k9 _; exact ⟨[], k, .slnil, by omega, by simp, by rw [List.map_nil, P3.lcS, if_pos fine_none]; simp⟩
  | cons x xs ih =>
    intro ys k k0 k9 hl
    rw [List.length_cons] at k9 hl
    obtain ⟨a, a0, a1, ea⟩ := pickL T j B hn o (k := k) 2 k0 (by omega) (by decide) (by decide)
    have hz : ys.length < sizeLine := Nat.lt_of_lt_of_le (show ys.length < 1001 by omega) (by decide)
    rw [List.map_cons, P3.lcS, if_pos ⟨fine_none, hz⟩]
    by_cases za : a = 0
    · obtain ⟨ls, k2, q1, q2, q3, q4⟩ := ih (ys ++ [.str x]) (k + 1) (by omega) (by omega) (by simp; omega)
      refine ⟨x :: ls, k2, q1.cons_cons x, by omega, by rw [List.length_cons]; omega, ?_⟩
      have st : lcStep 1 (gN 7) (mVal (eOp pEq (eCall "_law_pick" (aCons (eVar 0) (aCons (eC (.int 2)) aNil))) (eC (.int 0)))) (eVar 7) (run pg (j + 2)) [some (.ref 1), e1, e2, e3, e4, e5, e6] (.str x) (frO ns :: stL k o :: B) = .ok (some (.str x)) (frO ns :: stL (k + 1) o :: B) := by
        subst za
        simp? (disch := omega) only [ea]
      rw [st, bind_ok]
      simpa using q4
    · obtain ⟨ls, k2, q1, q2, q3, q4⟩ := ih ys (k + 1) (by omega) (by omega) (by omega)
      refine ⟨ls, k2, q1.cons x, by omega, by rw [List.length_cons]; omega, ?_⟩
      have st : lcStep 1 (gN 7) (mVal (eOp pEq (eCall "_law_pick" (aCons (eVar 0) (aCons (eC (.int 2)) aNil))) (eC (.int 0)))) (eVar 7) (run pg (j + 2)) [some (.ref 1), e1, e2, e3, e4, e5, e6] (.str x) (frO ns :: stL k o :: B) = .ok none (frO ns :: stL (k + 1) o :: B) := by
        simp? (disch := omega) only [ea, za]
      rw [st, bind_ok]
      exact q4
theorem ProgOk.hand {L s2 : List Str} {hs : List (Str × List Rw)} {p : PV} (P : ProgOk L s2 hs p) {i : Nat} {h : Str × List Rw} (e : hs[i]? = some h) : HandAt p (i : Int) h.2 ∧ ∀ r ∈ h.2, RwOk L h.2.length r := by
  obtain ⟨bs, s3, s4, rfl⟩ := P.at_
  exact ⟨⟨_, _, _, _, _, _, rfl, P3.atI_nat rfl (by rw [List.getElem?_map, e]; rfl)⟩, (P.rows h (List.mem_of_getElem? e)).2⟩
theorem seat_ok (j : Nat) {ns : List Int} (hn : ns.length ≤ 63) {L s2 : List Str} {hs : List (Str × List Rw)} {p : PV} (P : ProgOk L s2 hs p) {i : Nat} {hd : Str × List Rw} (ei : hs[i]? = some hd) (k : Int) (o : Option Int) (g : PH) (k0 : 0 ≤ k) (k9 : k + 100 ≤ 1000000) :
    ∃ (s : Seat) (ls : List Str) (k' : Int), SeatOk L hd.2 s ∧ ls.Sublist s2 ∧ s.held = sortS ls ∧ k ≤ k' ∧ k' ≤ k + 100 ∧ run pg (j + 3) "_law_seat" [.ref 1, p, .int i] (frO ns :: stL k o :: g) = .ok (seatV s) (frO ns :: stL k' o :: g) := by
  have srt : (sortS seatNames).length = 5 := (sortS_perm _).length_eq
  have l2 := P.locks
  have so := sort_L (h := frO ns :: stL k o :: (g ++ [PO.lst (seatNames.map PV.str)])) (n := g.length + 1 + 1) (ss := seatNames) (show (g ++ [PO.lst (seatNames.map PV.str)])[g.length]? = _ from hp_new) (by decide)
  have hB : (g ++ [PO.lst (seatNames.map PV.str), .lst ((sortS seatNames).map PV.str)])[g.length + 1]? = some (.lst ((sortS seatNames).map PV.str)) := by rw [hp_newk]; rfl
  obtain ⟨bs, s3, s4, rfl⟩ := P.at_
  obtain ⟨ps, k1, a1, a2, a3, a4, a5⟩ := pock_ok T j hn hB o (some (.tup [.tup bs, .tup (s2.map PV.str), .tup s3, .tup s4, .tup (hs.map handV)])) (some (.int i)) (some (rowsV hd.2)) (some (.ref (g.length + 1 + 1 + 1))) none none (sortS seatNames) [] k k0 (by omega) (by simp; omega)
  obtain ⟨ls, k2, b1, b2, b3, b4⟩ := held_ok T j hn (xs0 := s2.map PV.str) (B := g ++ [PO.lst (seatNames.map PV.str), .lst ((sortS seatNames).map PV.str), .lst (ps.map prV)]) o (some (.tup [.tup bs, .tup (s2.map PV.str), .tup s3, .tup s4, .tup (hs.map handV)])) (some (.int i)) (some (rowsV hd.2)) (some (.ref (g.length + 1 + 1 + 1))) (some (pkV ps)) none s2 [] k1 (by omega) (by omega) (by simp; omega)
  have ll : ls.length ≤ 10 := Nat.le_trans b1.length_le l2
  have sh := sort_L (h := frO ns :: stL k2 o :: (g ++ [PO.lst (seatNames.map PV.str), .lst ((sortS seatNames).map PV.str), .lst (ps.map prV), .lst (ls.map PV.str)])) (n := g.length + 3 + 1 + 1) (ss := ls) (show (g ++ [PO.lst (seatNames.map PV.str), .lst ((sortS seatNames).map PV.str), .lst (ps.map prV), .lst (ls.map PV.str)])[g.length + 3]? = _ from by rw [hp_newk]; rfl) (by omega)
  have rl : hd.2.length ≤ 30 := (P.rows hd (List.mem_of_getElem? ei)).1
  obtain ⟨c, c0, c1, ec⟩ := pickL T j (g ++ [PO.lst (seatNames.map PV.str), .lst ((sortS seatNames).map PV.str), .lst (ps.map prV), .lst (ls.map PV.str), .lst ((sortS ls).map PV.str)]) hn o (k := k2) (hd.2.length + 1) (by omega) (by omega) (by omega) (by omega)
  have pin : PkIn L ps := by
    refine ⟨(sortS_srt (by decide +kernel)).sublist a1, fun q m => ⟨P.seat _ ((sortS_perm _).mem_iff.mp (a1.subset (List.mem_map.mpr ⟨q, m, rfl⟩))), a2 q m⟩⟩
  refine ⟨⟨c.toNat, ps, sortS ls⟩, ls, k2 + 1, ⟨pin, by show c.toNat ≤ hd.2.length; omega⟩, b1, rfl, by omega, by omega, ?_⟩
  have at4 := ix_T (h := frO ns :: stL k o :: g) (xs := hs.map handV) (i := i) (v := .tup [.str hd.1, rowsV hd.2]) (P3.atI_nat rfl (by rw [List.getElem?_map, ei]; rfl))
  have rlen : ∀ h, pLen [rowsV hd.2] h = .ok (.int hd.2.length) h := fun h => by unfold rowsV; rw [len_T, List.length_map]
  rw [run_eq T.f__law_seat rfl]
  rw [List.nil_append] at a5 b4
  have pv : pkV ps = .tup (ps.map prV) := rfl
  rw [pv] at b4
  have sn : seatNames.map PV.str = [.str "a", .str "ab", .str "boxes", .str "b", .str "lets"] := rfl
  rw [sn] at so a5 b4 sh ec
  simp? (disch := omega) only [d__law_seat, b__law_seat, at4, so, a5, b4, sh, ec, rlen]
  have cv : PV.int c = .int (c.toNat : Nat) := by congr 1; omega
  rw [cv]
  exact settleL (v := seatV ⟨c.toNat, ps, sortS ls⟩) (seatV_flat _)
end
end K07
end
section
open PySem L2 P3
set_option maxHeartbeats 1000000
namespace K07
theorem seat_plain (s : Seat) (h1 : s.ps.length ≤ 1000) (h2 : s.held.length ≤ 1000) : plainV (seatV s) = true := by
  have p1 : ∀ ps : Pk, plainL (ps.map prV) = true := by
    intro ps
    induction ps with
    | nil => rfl
    | cons q r ih => rw [List.map_cons, plainL, ih]; simp [prV, plainV, plainL]
  have p2 : ∀ hs : List Str, plainL (hs.map PV.str) = true := by
    intro ps
    induction ps with
    | nil => rfl
    | cons q r ih => rw [List.map_cons, plainL, ih]; simp [plainV]
  have q1 : s.ps.length ≤ 100000 := by omega
  have q2 : s.held.length ≤ 100000 := by omega
  simp [seatV, pkV, heldV, plainV, plainL, p1, p2, q1, q2]
theorem seat_dp (s : Seat) : dpV (seatV s) ≤ 3 := by
  have p1 : ∀ ps : Pk, dpL (ps.map prV) ≤ 1 := by
    intro ps
    induction ps with
    | nil => simp [dpL]
    | cons q r ih => rw [List.map_cons, dpL]; have : dpV (prV q) = 1 := by simp [prV, dpV, dpL]
                     omega
  have p2 : ∀ hs : List Str, dpL (hs.map PV.str) = 0 := by
    intro ps
    induction ps with
    | nil => rfl
    | cons q r ih => rw [List.map_cons, dpL, ih]; simp [dpV]
  have := p1 s.ps
  simp only [seatV, pkV, heldV, dpV, dpL, p2]; omega
theorem restF_rested {rs : List Rw} : ∀ (n : Nat) (s : Seat), rested1 rs (restF rs n s) = true
  | 0, s => by
    unfold restF; split
    · assumption
    · unfold rested1; rw [List.getElem?_eq_none (Nat.le_refl _)]
  | n + 1, s => by
    unfold restF; split
    · assumption
    · split
      · rename_i e; unfold rested1; rw [e]
      · exact restF_rested n _
end K07
end
section
open PySem L2 P3
set_option maxHeartbeats 1000000
namespace K07
noncomputable def room : Nat := 20
theorem restF_idem {rs : List Rw} {s : Seat} (h : rested1 rs s = true) (n : Nat) : restF rs n s = s := by
  cases n <;> (rw [restF, if_pos h])
section
variable {pg : Tb} (T : Has pg)
include T
theorem hands_loop (k : Nat) {ns : List Int} (hn : ns.length ≤ 63) {L s2 : List Str} {hs : List (Str × List Rw)} {p : PV} (P : ProgOk L s2 hs p) (xs0 : List PV) (o : Option Int) (g : PH) (u0 u1 u2 u3 : Option PV) :
    ∀ (js : List Nat) (kk : Int) (u5 u6 u7 u8 : Option PV), (∀ i ∈ js, i < hs.length) → 0 ≤ kk → kk + 100 * js.length ≤ 900000 → ∃ (kk' : Int) (u5' u6' u7' u8' : Option PV), kk ≤ kk' ∧ kk' ≤ kk + 100 * js.length ∧
      loopS ⟨none, xs0⟩ (fstep (gN 5) (sSeq (sAsg (eOp pIx (eOp pIx (eOp pIx (eVar 4) (eC (.int 4))) (eVar 5)) (eC (.int 1))) (gN 6)) (sSeq (sIf (mNot (mVal (eCall "_law_same" (aCons (eCall "first_seat" (aCons (eVar 4) (aCons (eVar 5) aNil))) (aCons (eCall "_law_rested" (aCons (eVar 6) (aCons (eTup (aCons (eC (.int 0)) (aCons (eTup aNil) (aCons (eTup aNil) aNil)))) aNil))) aNil))))) (sRet (eC (.bl false))) sNx) (sSeq (sAsg (eCall "_law_seat" (aCons (eVar 1) (aCons (eVar 4) (aCons (eVar 5) aNil)))) (gN 7)) (sSeq (sAsg (eCall "_law_rested" (aCons (eVar 6) (aCons (eVar 7) aNil))) (gN 8)) (sSeq (sIf (mNot (mVal (eCall "_law_same" (aCons (eCall "rested" (aCons (eVar 4) (aCons (eVar 5) (aCons (eVar 7) aNil)))) (aCons (eVar 8) aNil))))) (sRet (eC (.bl false))) sNx) (sIf (mNot (mVal (eCall "_law_same" (aCons (eCall "rested" (aCons (eVar 4) (aCons (eVar 5) (aCons (eVar 8) aNil)))) (aCons (eVar 8) aNil))))) (sRet (eC (.bl false))) sNx)))))) (run pg (k + 11))) (js.map fun i : Nat => PV.int (0 + (i : Int))) [u0, some (.ref 1), u2, u3, some p, u5, u6, u7, u8] (frO ns :: stL kk o :: g) = .ok (.nx [u0, some (.ref 1), u2, u3, some p, u5', u6', u7', u8']) (frO ns :: stL kk' o :: g) := by
  intro js
  induction js with
  | nil => intro kk u5 u6 u7 u8 _ _ _; exact ⟨kk, u5, u6, u7, u8, by omega, by simp, ev_lpN⟩
  | cons i js ih =>
    intro kk u5 u6 u7 u8 hi k0 k9
    rw [List.length_cons] at k9
    have hlt := hi i List.mem_cons_self
    obtain ⟨hd, ei⟩ : ∃ hd, hs[i]? = some hd := ⟨_, List.getElem?_eq_getElem hlt⟩
    obtain ⟨ha, hr⟩ := P.hand T ei
    have hL : L.length ≤ 20 := Nat.le_trans P.len (by decide)
    obtain ⟨s, ls, k1, a1, a2, a3, a4, a5, a6⟩ := seat_ok T (k + 8) hn P ei kk o g k0 (by omega)
    have h0 : SeatOk L hd.2 ⟨0, [], []⟩ := ⟨.nil, Nat.zero_le _⟩
    have zero : PV.tup [.int 0, .tup [], .tup []] = seatV ⟨0, [], []⟩ := rfl
    have ll : s.held.length ≤ 10 := by rw [a3, (sortS_perm _).length_eq]; exact Nat.le_trans a2.length_le P.locks
    have pl : ∀ t : Seat, SeatOk L hd.2 t → t.held.length ≤ 10 → plainV (seatV t) = true := fun t ht h1 => seat_plain t (by have := ht.pk.len; omega) (by omega)
    have sm : ∀ (t : Seat) (h : PH), SeatOk L hd.2 t → t.held.length ≤ 10 → run pg (k + 11) "_law_same" [seatV t, seatV t] h = .ok (.bl true) h := fun t h ht h1 => same_refl T (k + 10) h _ (pl t ht h1) (Nat.le_trans (seat_dp _) (by omega))
    have q0 := restF_ok hr 200 _ h0
    have q1 := restF_ok hr 200 _ a1
    have f1 := first_seat_eq T k (frO ns :: stL kk o :: g) hL ha hr
    have f2 := law_rested_eq T (k + 1) (frO ns :: stL kk o :: g) hL hr h0
    have f3 := law_rested_eq T (k + 1) (frO ns :: stL k1 o :: g) hL hr a1
    have f4 := rested_eq T (k + 1) (frO ns :: stL k1 o :: g) hL ha hr a1
    have f5 := rested_eq T (k + 1) (frO ns :: stL k1 o :: g) hL ha hr q1
    rw [restF_idem (restF_rested 200 s)] at f5
    rw [show k + 1 + 10 = k + 11 from rfl] at f2 f3 f4 f5
    rw [show k + 8 + 3 = k + 11 from rfl] at a6
    have s1 := sm _ (frO ns :: stL kk o :: g) q0 (by rw [restF_held]; exact Nat.zero_le _)
    have s2 := sm _ (frO ns :: stL k1 o :: g) q1 (by rw [restF_held]; exact ll)
    obtain ⟨bs, s3, s4, rfl⟩ := P.at_
    have at4 := ix_T (h := frO ns :: stL kk o :: g) (xs := hs.map handV) (i := i) (v := .tup [.str hd.1, rowsV hd.2]) (P3.atI_nat rfl (by rw [List.getElem?_map, ei]; rfl))
    obtain ⟨kk', u5', u6', u7', u8', b1, b2, b3⟩ := ih k1 (some (.int i)) (some (rowsV hd.2)) (some (seatV s)) (some (seatV (restF hd.2 200 s))) (fun x m => hi x (List.mem_cons_of_mem _ m)) (by omega) (by omega)
    refine ⟨kk', u5', u6', u7', u8', by omega, by rw [List.length_cons]; omega, ?_⟩
    rw [List.map_cons, ev_lpC]
    have iz : (0 : Int) + (i : Int) = (i : Int) := Int.zero_add _
    simp? (disch := omega) only [iz, at4, zero, f1, f2, f3, f4, f5, a6, s1, s2, ev_lpkN, b3]
theorem law_loop (k : Nat) {ns : List Int} (hn : ns.length ≤ 63) {L1 t1 L2 t2 : List Str} {hs1 hs2 : List (Str × List Rw)} {p1 p2 : PV} (P1 : ProgOk L1 t1 hs1 p1) (P2 : ProgOk L2 t2 hs2 p2) (xs0 : List PV) (o : Option Int) (u0 : Option PV) :
    ∀ (js : List Nat) (kk : Int) (u3 u4 u5 u6 u7 u8 : Option PV), 0 ≤ kk → kk + 1000 * js.length ≤ 900000 → ∃ (kk' : Int) (u3' u4' u5' u6' u7' u8' : Option PV),
      loopS ⟨none, xs0⟩ (fstep (gN 3) (sSeq (sAsg (eOp pIx (eVar 2) (eOp pMod (eVar 3) (eC (.int 2)))) (gN 4)) (sFor (iRange1 (aCons (eB pLen (aCons (eOp pIx (eVar 4) (eC (.int 4))) aNil)) aNil)) (gN 5) (sSeq (sAsg (eOp pIx (eOp pIx (eOp pIx (eVar 4) (eC (.int 4))) (eVar 5)) (eC (.int 1))) (gN 6)) (sSeq (sIf (mNot (mVal (eCall "_law_same" (aCons (eCall "first_seat" (aCons (eVar 4) (aCons (eVar 5) aNil))) (aCons (eCall "_law_rested" (aCons (eVar 6) (aCons (eTup (aCons (eC (.int 0)) (aCons (eTup aNil) (aCons (eTup aNil) aNil)))) aNil))) aNil))))) (sRet (eC (.bl false))) sNx) (sSeq (sAsg (eCall "_law_seat" (aCons (eVar 1) (aCons (eVar 4) (aCons (eVar 5) aNil)))) (gN 7)) (sSeq (sAsg (eCall "_law_rested" (aCons (eVar 6) (aCons (eVar 7) aNil))) (gN 8)) (sSeq (sIf (mNot (mVal (eCall "_law_same" (aCons (eCall "rested" (aCons (eVar 4) (aCons (eVar 5) (aCons (eVar 7) aNil)))) (aCons (eVar 8) aNil))))) (sRet (eC (.bl false))) sNx) (sIf (mNot (mVal (eCall "_law_same" (aCons (eCall "rested" (aCons (eVar 4) (aCons (eVar 5) (aCons (eVar 8) aNil)))) (aCons (eVar 8) aNil))))) (sRet (eC (.bl false))) sNx)))))))) (run pg (k + 11))) (js.map fun i : Nat => PV.int (0 + (i : Int))) [u0, some (.ref 1), some (.ref 2), u3, u4, u5, u6, u7, u8] [frO ns, stL kk o, .lst [p1, p2]] = .ok (.nx [u0, some (.ref 1), some (.ref 2), u3', u4', u5', u6', u7', u8']) [frO ns, stL kk' o, .lst [p1, p2]] := by
  intro js
  induction js with
  | nil => intro kk u3 u4 u5 u6 u7 u8 _ _; exact ⟨kk, u3, u4, u5, u6, u7, u8, ev_lpN⟩
  | cons i js ih =>
    intro kk u3 u4 u5 u6 u7 u8 k0 k9
    rw [List.length_cons] at k9
    have one : ∀ {L t : List Str} {hs : List (Str × List Rw)} {p : PV}, ProgOk L t hs p → atI [p1, p2] ((i : Int) % 2) = some p → ∃ (kk' : Int) (u3' u4' u5' u6' u7' u8' : Option PV),
      loopS ⟨none, xs0⟩ (fstep (gN 3) (sSeq (sAsg (eOp pIx (eVar 2) (eOp pMod (eVar 3) (eC (.int 2)))) (gN 4)) (sFor (iRange1 (aCons (eB pLen (aCons (eOp pIx (eVar 4) (eC (.int 4))) aNil)) aNil)) (gN 5) (sSeq (sAsg (eOp pIx (eOp pIx (eOp pIx (eVar 4) (eC (.int 4))) (eVar 5)) (eC (.int 1))) (gN 6)) (sSeq (sIf (mNot (mVal (eCall "_law_same" (aCons (eCall "first_seat" (aCons (eVar 4) (aCons (eVar 5) aNil))) (aCons (eCall "_law_rested" (aCons (eVar 6) (aCons (eTup (aCons (eC (.int 0)) (aCons (eTup aNil) (aCons (eTup aNil) aNil)))) aNil))) aNil))))) (sRet (eC (.bl false))) sNx) (sSeq (sAsg (eCall "_law_seat" (aCons (eVar 1) (aCons (eVar 4) (aCons (eVar 5) aNil)))) (gN 7)) (sSeq (sAsg (eCall "_law_rested" (aCons (eVar 6) (aCons (eVar 7) aNil))) (gN 8)) (sSeq (sIf (mNot (mVal (eCall "_law_same" (aCons (eCall "rested" (aCons (eVar 4) (aCons (eVar 5) (aCons (eVar 7) aNil)))) (aCons (eVar 8) aNil))))) (sRet (eC (.bl false))) sNx) (sIf (mNot (mVal (eCall "_law_same" (aCons (eCall "rested" (aCons (eVar 4) (aCons (eVar 5) (aCons (eVar 8) aNil)))) (aCons (eVar 8) aNil))))) (sRet (eC (.bl false))) sNx)))))))) (run pg (k + 11))) ((i :: js).map fun i : Nat => PV.int (0 + (i : Int))) [u0, some (.ref 1), some (.ref 2), u3, u4, u5, u6, u7, u8] [frO ns, stL kk o, .lst [p1, p2]] = .ok (.nx [u0, some (.ref 1), some (.ref 2), u3', u4', u5', u6', u7', u8']) [frO ns, stL kk' o, .lst [p1, p2]] := by
      intro L t hs p P ea
      have hm := P.many
      obtain ⟨k1, v5, v6, v7, v8, a1, a2, a3⟩ := hands_loop T k hn P (rangeP 0 hs.length) o [.lst [p1, p2]] u0 u0 (some (.ref 2)) (some (.int i)) (List.range hs.length) kk u5 u6 u7 u8 (fun x m => List.mem_range.mp m) k0 (by rw [List.length_range]; omega)
      rw [List.length_range] at a2
      rw [show (List.range hs.length).map (fun i : Nat => PV.int (0 + (i : Int))) = rangeP 0 hs.length from rfl] at a3
      obtain ⟨kk', w3, w4, w5, w6, w7, w8, b1⟩ := ih k1 (some (.int i)) (some p) v5 v6 v7 v8 (by omega) (by omega)
      refine ⟨kk', w3, w4, w5, w6, w7, w8, ?_⟩
      rw [List.map_cons, ev_lpC]
      obtain ⟨bs, s3, s4, rfl⟩ := P.at_
      have iz : (0 : Int) + (i : Int) = (i : Int) := Int.zero_add _
      simp? (disch := omega) only [iz, ea, List.length_map, Int.toNat_natCast, a3, ev_lpkN, b1]
    rcases (show (i : Int) % 2 = 0 ∨ (i : Int) % 2 = 1 by omega) with z | z
    · exact one P1 (by rw [z]; exact at_0)
    · exact one P2 (by rw [z]; exact at_1)
end
theorem law_true : ∀ ns : List Int, ns.length ≤ 63 → Ok (run tb (room + 1) "law" [.ref 0] [.fro (ns.map PV.int)]) fun v _ => v = .bl true := by
  intro ns hn
  have T : Has tb := has
  show Ok (run tb (20 + 1) "law" [.ref 0] [frO ns]) _
  rw [run_eq T.f_law rfl]
  have dk : dck (0 + 1) [((.inr "script" : Key), PV.ref 0), (.inr "k", .int 0)] [frO ns, .dct []] = .ok (.ref 1) [frO ns, stL 0 none] := by
    have mk : mergeP [] [((.inr "script" : Key), PV.ref 0), (.inr "k", .int 0)] = [(.inr "script", .ref 0), (.inr "k", .int 0)] := by simp [mergeP, putP, ofString_inj]
    have := ev_dck (h := [frO ns, .dct []]) (n := 1) (kvs := [((.inr "script" : Key), PV.ref 0), (.inr "k", .int 0)]) rfl (show 2 ≤ 15 by decide)
    rw [mk] at this; exact this
  obtain ⟨L1, t1, hs1, p1, k1, o1, P1, a1, a2, a3⟩ := program_ok T 10 hn 0 none [] (by decide) (by decide)
  obtain ⟨L2, t2, hs2, p2, k2, o2, P2, b1, b2, b3⟩ := program_ok T 10 hn k1 o1 [] (by omega) (by omega)
  obtain ⟨kk', u3, u4, u5, u6, u7, u8, le⟩ := law_loop T 9 hn P1 P2 (rangeP 0 10) o2 (some (.ref 0)) (List.range 10) k2 none none none none none none (by omega) (by rw [List.length_range]; omega)
  rw [show (List.range 10).map (fun i : Nat => PV.int (0 + (i : Int))) = rangeP 0 10 from rfl] at le
  simp? (disch := omega) only [d_law, b_law, ev_dict, ev_dcC, ev_dc1S, ev_dc2, ev_dc3, ev_dcN, dk, a3, b3, le]
  unfold P3.settle
  split <;> exact ⟨_, _, rfl, rfl⟩
end K07
end
section
open PySem PySem.W PyProof.Rows
set_option maxHeartbeats 8000000
namespace K07
open PySem L2 P3 PyProof.Rows
theorem all_mk {l : PySem.W.OpenLaw} {w : World} {K : PySem.W.Frag} {h : Heap} {mg : Str → Option Value} {fa : Addr} (X : K.In h) (G : h.Ns mainGlobals mg) (hfa : mg "law" = some (.ref fa)) {f0 : Addr} {od0 an0 : Option Addr} {sl0 : Array (Option Value)} {oc0 kV0 dc0 pm0 cd0 ct0 : Value} {f1 : Addr} {od1 an1 : Option Addr} {sl1 : Array (Option Value)} {oc1 kV1 dc1 pm1 cd1 ct1 : Value} {f2 : Addr} {od2 an2 : Option Addr} {sl2 : Array (Option Value)} {oc2 kV2 dc2 pm2 cd2 ct2 : Value} {f3 : Addr} {od3 an3 : Option Addr} {sl3 : Array (Option Value)} {oc3 kV3 dc3 pm3 cd3 ct3 : Value} {f4 : Addr} {od4 an4 : Option Addr} {sl4 : Array (Option Value)} {oc4 kV4 dc4 pm4 cd4 ct4 : Value} {f5 : Addr} {od5 an5 : Option Addr} {sl5 : Array (Option Value)} {oc5 kV5 dc5 pm5 cd5 ct5 : Value} {f6 : Addr} {od6 an6 : Option Addr} {sl6 : Array (Option Value)} {oc6 kV6 dc6 pm6 cd6 ct6 : Value} {f7 : Addr} {od7 an7 : Option Addr} {sl7 : Array (Option Value)} {oc7 kV7 dc7 pm7 cd7 ct7 : Value} {f8 : Addr} {od8 an8 : Option Addr} {sl8 : Array (Option Value)} {oc8 kV8 dc8 pm8 cd8 ct8 : Value} {f9 : Addr} {od9 an9 : Option Addr} {sl9 : Array (Option Value)} {oc9 kV9 dc9 pm9 cd9 ct9 : Value} {f10 : Addr} {od10 an10 : Option Addr} {sl10 : Array (Option Value)} {oc10 kV10 dc10 pm10 cd10 ct10 : Value} {f11 : Addr} {od11 an11 : Option Addr} {sl11 : Array (Option Value)} {oc11 kV11 dc11 pm11 cd11 ct11 : Value} {f12 : Addr} {od12 an12 : Option Addr} {sl12 : Array (Option Value)} {oc12 kV12 dc12 pm12 cd12 ct12 : Value} {f13 : Addr} {od13 an13 : Option Addr} {sl13 : Array (Option Value)} {oc13 kV13 dc13 pm13 cd13 ct13 : Value} {f14 : Addr} {od14 an14 : Option Addr} {sl14 : Array (Option Value)} {oc14 kV14 dc14 pm14 cd14 ct14 : Value} {f15 : Addr} {od15 an15 : Option Addr} {sl15 : Array (Option Value)} {oc15 kV15 dc15 pm15 cd15 ct15 : Value} {f16 : Addr} {od16 an16 : Option Addr} {sl16 : Array (Option Value)} {oc16 kV16 dc16 pm16 cd16 ct16 : Value} {f17 : Addr} {od17 an17 : Option Addr} {sl17 : Array (Option Value)} {oc17 kV17 dc17 pm17 cd17 ct17 : Value} {f18 : Addr} {od18 an18 : Option Addr} {sl18 : Array (Option Value)} {oc18 kV18 dc18 pm18 cd18 ct18 : Value} {f19 : Addr} {od19 an19 : Option Addr} {sl19 : Array (Option Value)} {oc19 kV19 dc19 pm19 cd19 ct19 : Value} {f20 : Addr} {od20 an20 : Option Addr} {sl20 : Array (Option Value)} {oc20 kV20 dc20 pm20 cd20 ct20 : Value} {f21 : Addr} {od21 an21 : Option Addr} {sl21 : Array (Option Value)} {oc21 kV21 dc21 pm21 cd21 ct21 : Value} {tWORTHS : Tok} {tMOST_OWN_ROWS : Tok}
    (a0 : PySem.W.nsIn K mainGlobals "worth" = some (some (.ref f0))) (l0 : K.lookup f0 = some ⟨oc0, od0, .func (PySem.W.fnOf "worth" "worth" (defArgs (top 2)) (defBody (top 2)) (defScope (top 2)) .none kV0 dc0 pm0 an0 cd0 ct0), sl0⟩) (c0 : PySem.W.codeIn K cd0 "worth" = true) (k0 : PySem.W.keepIn K (.ref f0) = true)
    (a1 : PySem.W.nsIn K mainGlobals "joined_worth" = some (some (.ref f1))) (l1 : K.lookup f1 = some ⟨oc1, od1, .func (PySem.W.fnOf "joined_worth" "joined_worth" (defArgs (top 3)) (defBody (top 3)) (defScope (top 3)) .none kV1 dc1 pm1 an1 cd1 ct1), sl1⟩) (c1 : PySem.W.codeIn K cd1 "joined_worth" = true) (k1 : PySem.W.keepIn K (.ref f1) = true)
    (a2 : PySem.W.nsIn K mainGlobals "rows_of" = some (some (.ref f2))) (l2 : K.lookup f2 = some ⟨oc2, od2, .func (PySem.W.fnOf "rows_of" "rows_of" (defArgs (top 5)) (defBody (top 5)) (defScope (top 5)) .none kV2 dc2 pm2 an2 cd2 ct2), sl2⟩) (c2 : PySem.W.codeIn K cd2 "rows_of" = true) (k2 : PySem.W.keepIn K (.ref f2) = true)
    (a3 : PySem.W.nsIn K mainGlobals "first_seat" = some (some (.ref f3))) (l3 : K.lookup f3 = some ⟨oc3, od3, .func (PySem.W.fnOf "first_seat" "first_seat" (defArgs (top 8)) (defBody (top 8)) (defScope (top 8)) .none kV3 dc3 pm3 an3 cd3 ct3), sl3⟩) (c3 : PySem.W.codeIn K cd3 "first_seat" = true) (k3 : PySem.W.keepIn K (.ref f3) = true)
    (a4 : PySem.W.nsIn K mainGlobals "rested" = some (some (.ref f4))) (l4 : K.lookup f4 = some ⟨oc4, od4, .func (PySem.W.fnOf "rested" "rested" (defArgs (top 9)) (defBody (top 9)) (defScope (top 9)) .none kV4 dc4 pm4 an4 cd4 ct4), sl4⟩) (c4 : PySem.W.codeIn K cd4 "rested" = true) (k4 : PySem.W.keepIn K (.ref f4) = true)
    (a5 : PySem.W.nsIn K mainGlobals "is_rested" = some (some (.ref f5))) (l5 : K.lookup f5 = some ⟨oc5, od5, .func (PySem.W.fnOf "is_rested" "is_rested" (defArgs (top 10)) (defBody (top 10)) (defScope (top 10)) .none kV5 dc5 pm5 an5 cd5 ct5), sl5⟩) (c5 : PySem.W.codeIn K cd5 "is_rested" = true) (k5 : PySem.W.keepIn K (.ref f5) = true)
    (a6 : PySem.W.nsIn K mainGlobals "is_own_row" = some (some (.ref f6))) (l6 : K.lookup f6 = some ⟨oc6, od6, .func (PySem.W.fnOf "is_own_row" "is_own_row" (defArgs (top 11)) (defBody (top 11)) (defScope (top 11)) .none kV6 dc6 pm6 an6 cd6 ct6), sl6⟩) (c6 : PySem.W.codeIn K cd6 "is_own_row" = true) (k6 : PySem.W.keepIn K (.ref f6) = true)
    (a7 : PySem.W.nsIn K mainGlobals "behind_own_row" = some (some (.ref f7))) (l7 : K.lookup f7 = some ⟨oc7, od7, .func (PySem.W.fnOf "behind_own_row" "behind_own_row" (defArgs (top 12)) (defBody (top 12)) (defScope (top 12)) .none kV7 dc7 pm7 an7 cd7 ct7), sl7⟩) (c7 : PySem.W.codeIn K cd7 "behind_own_row" = true) (k7 : PySem.W.keepIn K (.ref f7) = true)
    (a8 : PySem.W.nsIn K mainGlobals "laid" = some (some (.ref f8))) (l8 : K.lookup f8 = some ⟨oc8, od8, .func (PySem.W.fnOf "laid" "laid" (defArgs (top 13)) (defBody (top 13)) (defScope (top 13)) .none kV8 dc8 pm8 an8 cd8 ct8), sl8⟩) (c8 : PySem.W.codeIn K cd8 "laid" = true) (k8 : PySem.W.keepIn K (.ref f8) = true)
    (a9 : PySem.W.nsIn K mainGlobals "_law_draw" = some (some (.ref f9))) (l9 : K.lookup f9 = some ⟨oc9, od9, .func (PySem.W.fnOf "_law_draw" "_law_draw" (defArgs (top 15)) (defBody (top 15)) (defScope (top 15)) .none kV9 dc9 pm9 an9 cd9 ct9), sl9⟩) (c9 : PySem.W.codeIn K cd9 "_law_draw" = true) (k9 : PySem.W.keepIn K (.ref f9) = true)
    (a10 : PySem.W.nsIn K mainGlobals "_law_pick" = some (some (.ref f10))) (l10 : K.lookup f10 = some ⟨oc10, od10, .func (PySem.W.fnOf "_law_pick" "_law_pick" (defArgs (top 16)) (defBody (top 16)) (defScope (top 16)) .none kV10 dc10 pm10 an10 cd10 ct10), sl10⟩) (c10 : PySem.W.codeIn K cd10 "_law_pick" = true) (k10 : PySem.W.keepIn K (.ref f10) = true)
    (a11 : PySem.W.nsIn K mainGlobals "_law_names" = some (some (.ref f11))) (l11 : K.lookup f11 = some ⟨oc11, od11, .func (PySem.W.fnOf "_law_names" "_law_names" (defArgs (top 17)) (defBody (top 17)) (defScope (top 17)) .none kV11 dc11 pm11 an11 cd11 ct11), sl11⟩) (c11 : PySem.W.codeIn K cd11 "_law_names" = true) (k11 : PySem.W.keepIn K (.ref f11) = true)
    (a12 : PySem.W.nsIn K mainGlobals "_law_sum_in" = some (some (.ref f12))) (l12 : K.lookup f12 = some ⟨oc12, od12, .func (PySem.W.fnOf "_law_sum_in" "_law_sum_in" (defArgs (top 18)) (defBody (top 18)) (defScope (top 18)) .none kV12 dc12 pm12 an12 cd12 ct12), sl12⟩) (c12 : PySem.W.codeIn K cd12 "_law_sum_in" = true) (k12 : PySem.W.keepIn K (.ref f12) = true)
    (a13 : PySem.W.nsIn K mainGlobals "_law_sum" = some (some (.ref f13))) (l13 : K.lookup f13 = some ⟨oc13, od13, .func (PySem.W.fnOf "_law_sum" "_law_sum" (defArgs (top 19)) (defBody (top 19)) (defScope (top 19)) .none kV13 dc13 pm13 an13 cd13 ct13), sl13⟩) (c13 : PySem.W.codeIn K cd13 "_law_sum" = true) (k13 : PySem.W.keepIn K (.ref f13) = true)
    (a14 : PySem.W.nsIn K mainGlobals "_law_row" = some (some (.ref f14))) (l14 : K.lookup f14 = some ⟨oc14, od14, .func (PySem.W.fnOf "_law_row" "_law_row" (defArgs (top 20)) (defBody (top 20)) (defScope (top 20)) .none kV14 dc14 pm14 an14 cd14 ct14), sl14⟩) (c14 : PySem.W.codeIn K cd14 "_law_row" = true) (k14 : PySem.W.keepIn K (.ref f14) = true)
    (a15 : PySem.W.nsIn K mainGlobals "_law_program" = some (some (.ref f15))) (l15 : K.lookup f15 = some ⟨oc15, od15, .func (PySem.W.fnOf "_law_program" "_law_program" (defArgs (top 21)) (defBody (top 21)) (defScope (top 21)) .none kV15 dc15 pm15 an15 cd15 ct15), sl15⟩) (c15 : PySem.W.codeIn K cd15 "_law_program" = true) (k15 : PySem.W.keepIn K (.ref f15) = true)
    (a16 : PySem.W.nsIn K mainGlobals "_law_worth" = some (some (.ref f16))) (l16 : K.lookup f16 = some ⟨oc16, od16, .func (PySem.W.fnOf "_law_worth" "_law_worth" (defArgs (top 22)) (defBody (top 22)) (defScope (top 22)) .none kV16 dc16 pm16 an16 cd16 ct16), sl16⟩) (c16 : PySem.W.codeIn K cd16 "_law_worth" = true) (k16 : PySem.W.keepIn K (.ref f16) = true)
    (a17 : PySem.W.nsIn K mainGlobals "_law_own" = some (some (.ref f17))) (l17 : K.lookup f17 = some ⟨oc17, od17, .func (PySem.W.fnOf "_law_own" "_law_own" (defArgs (top 23)) (defBody (top 23)) (defScope (top 23)) .none kV17 dc17 pm17 an17 cd17 ct17), sl17⟩) (c17 : PySem.W.codeIn K cd17 "_law_own" = true) (k17 : PySem.W.keepIn K (.ref f17) = true)
    (a18 : PySem.W.nsIn K mainGlobals "_law_rested" = some (some (.ref f18))) (l18 : K.lookup f18 = some ⟨oc18, od18, .func (PySem.W.fnOf "_law_rested" "_law_rested" (defArgs (top 24)) (defBody (top 24)) (defScope (top 24)) .none kV18 dc18 pm18 an18 cd18 ct18), sl18⟩) (c18 : PySem.W.codeIn K cd18 "_law_rested" = true) (k18 : PySem.W.keepIn K (.ref f18) = true)
    (a19 : PySem.W.nsIn K mainGlobals "_law_seat" = some (some (.ref f19))) (l19 : K.lookup f19 = some ⟨oc19, od19, .func (PySem.W.fnOf "_law_seat" "_law_seat" (defArgs (top 25)) (defBody (top 25)) (defScope (top 25)) .none kV19 dc19 pm19 an19 cd19 ct19), sl19⟩) (c19 : PySem.W.codeIn K cd19 "_law_seat" = true) (k19 : PySem.W.keepIn K (.ref f19) = true)
    (a20 : PySem.W.nsIn K mainGlobals "_law_same" = some (some (.ref f20))) (l20 : K.lookup f20 = some ⟨oc20, od20, .func (PySem.W.fnOf "_law_same" "_law_same" (defArgs (top 26)) (defBody (top 26)) (defScope (top 26)) .none kV20 dc20 pm20 an20 cd20 ct20), sl20⟩) (c20 : PySem.W.codeIn K cd20 "_law_same" = true) (k20 : PySem.W.keepIn K (.ref f20) = true)
    (a21 : PySem.W.nsIn K mainGlobals "law" = some (some (.ref f21))) (l21 : K.lookup f21 = some ⟨oc21, od21, .func (PySem.W.fnOf "law" "law" (defArgs (top 27)) (defBody (top 27)) (defScope (top 27)) .none kV21 dc21 pm21 an21 cd21 ct21), sl21⟩) (c21 : PySem.W.codeIn K cd21 "law" = true) (k21 : PySem.W.keepIn K (.ref f21) = true)
    (z0 : PySem.W.nsIn K mainGlobals "len" = some none)
    (z1 : PySem.W.nsIn K mainGlobals "range" = some none)
    (z2 : PySem.W.nsIn K mainGlobals "isinstance" = some none)
    (z3 : PySem.W.nsIn K mainGlobals "int" = some none)
    (z4 : PySem.W.nsIn K mainGlobals "bool" = some none)
    (z5 : PySem.W.nsIn K mainGlobals "tuple" = some none)
    (z6 : PySem.W.nsIn K mainGlobals "dict" = some none)
    (z7 : PySem.W.nsIn K mainGlobals "sorted" = some none)
    (z8 : PySem.W.nsIn K mainGlobals "min" = some none)
    (z9 : PySem.W.nsIn K mainGlobals "max" = some none)
    (z10 : PySem.W.nsIn K mainGlobals "abs" = some none)
    (z11 : PySem.W.nsIn K mainGlobals "all" = some none)
    (z12 : PySem.W.nsIn K mainGlobals "any" = some none)
    (z13 : PySem.W.nsIn K mainGlobals "sum" = some none)
    (z14 : PySem.W.nsIn K mainGlobals "str" = some none)
    (z15 : PySem.W.nsIn K mainGlobals "list" = some none)
    (z16 : PySem.W.nsIn K mainGlobals "zip" = some none)
    (z17 : PySem.W.nsIn K mainGlobals "set" = some none)
    (z18 : PySem.W.nsIn K mainGlobals "repr" = some none)
    (z19 : PySem.W.nsIn K mainGlobals "enumerate" = some none)
    (wWORTHS : PySem.W.nsIn K mainGlobals "WORTHS" = some (some (.int 1000 tWORTHS)))
    (wMOST_OWN_ROWS : PySem.W.nsIn K mainGlobals "MOST_OWN_ROWS" = some (some (.int 200 tMOST_OWN_ROWS))) :
    ∃ fd : FuncData, (∀ (s : Shared) (v : Value), BindsTo s fd ⟨[v], []⟩ [("_law_script", v)]) ∧ ∀ base : Heap, K.In base → base.Ns mainGlobals mg → FnOk l.prog w K mg base CX0 (room + 1) fa fd ["_law_script"] (spOf K tb (room + 1) "law") := by
  have A0 : At K mg "worth" (top 2) := at_mk X G a0 l0 c0 k0
  have A1 : At K mg "joined_worth" (top 3) := at_mk X G a1 l1 c1 k1
  have A2 : At K mg "rows_of" (top 5) := at_mk X G a2 l2 c2 k2
  have A3 : At K mg "first_seat" (top 8) := at_mk X G a3 l3 c3 k3
  have A4 : At K mg "rested" (top 9) := at_mk X G a4 l4 c4 k4
  have A5 : At K mg "is_rested" (top 10) := at_mk X G a5 l5 c5 k5
  have A6 : At K mg "is_own_row" (top 11) := at_mk X G a6 l6 c6 k6
  have A7 : At K mg "behind_own_row" (top 12) := at_mk X G a7 l7 c7 k7
  have A8 : At K mg "laid" (top 13) := at_mk X G a8 l8 c8 k8
  have A9 : At K mg "_law_draw" (top 15) := at_mk X G a9 l9 c9 k9
  have A10 : At K mg "_law_pick" (top 16) := at_mk X G a10 l10 c10 k10
  have A11 : At K mg "_law_names" (top 17) := at_mk X G a11 l11 c11 k11
  have A12 : At K mg "_law_sum_in" (top 18) := at_mk X G a12 l12 c12 k12
  have A13 : At K mg "_law_sum" (top 19) := at_mk X G a13 l13 c13 k13
  have A14 : At K mg "_law_row" (top 20) := at_mk X G a14 l14 c14 k14
  have A15 : At K mg "_law_program" (top 21) := at_mk X G a15 l15 c15 k15
  have A16 : At K mg "_law_worth" (top 22) := at_mk X G a16 l16 c16 k16
  have A17 : At K mg "_law_own" (top 23) := at_mk X G a17 l17 c17 k17
  have A18 : At K mg "_law_rested" (top 24) := at_mk X G a18 l18 c18 k18
  have A19 : At K mg "_law_seat" (top 25) := at_mk X G a19 l19 c19 k19
  have A20 : At K mg "_law_same" (top 26) := at_mk X G a20 l20 c20 k20
  have A21 : At K mg "law" (top 27) := at_mk X G a21 l21 c21 k21
  have T : Top l.prog w K mg tb := ⟨(List.forall_mem_cons.mpr ⟨PySem.W.mg_none_of X G z0, (List.forall_mem_cons.mpr ⟨PySem.W.mg_none_of X G z1, (List.forall_mem_cons.mpr ⟨PySem.W.mg_none_of X G z2, (List.forall_mem_cons.mpr ⟨PySem.W.mg_none_of X G z3, (List.forall_mem_cons.mpr ⟨PySem.W.mg_none_of X G z4, (List.forall_mem_cons.mpr ⟨PySem.W.mg_none_of X G z5, (List.forall_mem_cons.mpr ⟨PySem.W.mg_none_of X G z6, (List.forall_mem_cons.mpr ⟨PySem.W.mg_none_of X G z7, (List.forall_mem_cons.mpr ⟨PySem.W.mg_none_of X G z8, (List.forall_mem_cons.mpr ⟨PySem.W.mg_none_of X G z9, (List.forall_mem_cons.mpr ⟨PySem.W.mg_none_of X G z10, (List.forall_mem_cons.mpr ⟨PySem.W.mg_none_of X G z11, (List.forall_mem_cons.mpr ⟨PySem.W.mg_none_of X G z12, (List.forall_mem_cons.mpr ⟨PySem.W.mg_none_of X G z13, (List.forall_mem_cons.mpr ⟨PySem.W.mg_none_of X G z14, (List.forall_mem_cons.mpr ⟨PySem.W.mg_none_of X G z15, (List.forall_mem_cons.mpr ⟨PySem.W.mg_none_of X G z16, (List.forall_mem_cons.mpr ⟨PySem.W.mg_none_of X G z17, (List.forall_mem_cons.mpr ⟨PySem.W.mg_none_of X G z18, (List.forall_mem_cons.mpr ⟨PySem.W.mg_none_of X G z19, (by intro p m; cases m)⟩)⟩)⟩)⟩)⟩)⟩)⟩)⟩)⟩)⟩)⟩)⟩)⟩)⟩)⟩)⟩)⟩)⟩)⟩)⟩), con_all (conT := conT) rfl (List.forall_mem_cons.mpr ⟨con_cv (PySem.W.mg_of X G wWORTHS) (.int _ _), (List.forall_mem_cons.mpr ⟨con_cv (PySem.W.mg_of X G wMOST_OWN_ROWS) (.int _ _), (by intro p m; cases m)⟩)⟩), dcs_all (dcT := dcT) rfl (by intro p m; cases m)⟩
  have gs : ∀ p ∈ fnT, ∃ st N, DefG l.prog w K mg tb p.1 p.2 st N := (List.forall_mem_cons.mpr ⟨⟨_, _, g_worth has A0⟩, (List.forall_mem_cons.mpr ⟨⟨_, _, g_joined_worth has A1⟩, (List.forall_mem_cons.mpr ⟨⟨_, _, g_rows_of has A2⟩, (List.forall_mem_cons.mpr ⟨⟨_, _, g_first_seat has A3⟩, (List.forall_mem_cons.mpr ⟨⟨_, _, g_rested has A4⟩, (List.forall_mem_cons.mpr ⟨⟨_, _, g_is_rested has A5⟩, (List.forall_mem_cons.mpr ⟨⟨_, _, g_is_own_row has A6⟩, (List.forall_mem_cons.mpr ⟨⟨_, _, g_behind_own_row has A7⟩, (List.forall_mem_cons.mpr ⟨⟨_, _, g_laid has A8⟩, (List.forall_mem_cons.mpr ⟨⟨_, _, g__law_draw has A9⟩, (List.forall_mem_cons.mpr ⟨⟨_, _, g__law_pick has A10⟩, (List.forall_mem_cons.mpr ⟨⟨_, _, g__law_names has A11⟩, (List.forall_mem_cons.mpr ⟨⟨_, _, g__law_sum_in has A12⟩, (List.forall_mem_cons.mpr ⟨⟨_, _, g__law_sum has A13⟩, (List.forall_mem_cons.mpr ⟨⟨_, _, g__law_row has A14⟩, (List.forall_mem_cons.mpr ⟨⟨_, _, g__law_program has A15⟩, (List.forall_mem_cons.mpr ⟨⟨_, _, g__law_worth has A16⟩, (List.forall_mem_cons.mpr ⟨⟨_, _, g__law_own has A17⟩, (List.forall_mem_cons.mpr ⟨⟨_, _, g__law_rested has A18⟩, (List.forall_mem_cons.mpr ⟨⟨_, _, g__law_seat has A19⟩, (List.forall_mem_cons.mpr ⟨⟨_, _, g__law_same has A20⟩, (List.forall_mem_cons.mpr ⟨⟨_, _, g_law has A21⟩, (by intro p m; cases m)⟩)⟩)⟩)⟩)⟩)⟩)⟩)⟩)⟩)⟩)⟩)⟩)⟩)⟩)⟩)⟩)⟩)⟩)⟩)⟩)⟩)⟩)
  exact law_fn T (good_all rfl gs) has.f_law rfl (g_law has A21) hfa
theorem walk {l : PySem.W.OpenLaw} {q : Program} {loose : List Str} {XP : (Str → Option Value) → Heap → Prop} {YP : World → Heap → Prop} {d : DefRec} {K : Params → PySem.W.Frag} (hn : l.most = some 63) (hdf : d.params.defaults = [])
    (hY : ∀ (w : World) (h : Heap), YP w h → (K w.params).In h)
    (F : ∀ (w : World) (mg : Str → Option Value) (fa : Addr) (h : Heap), (K w.params).In h → h.Ns mainGlobals mg → mg d.name = some (.ref fa) →
      ∃ fd : FuncData, (∀ (s : Shared) (u : Value), BindsTo s fd ⟨[u], []⟩ [("_law_script", u)]) ∧ ∀ base : Heap, (K w.params).In base → base.Ns mainGlobals mg → FnOk l.prog w (K w.params) mg base CX0 (room + 1) fa fd ["_law_script"] (spOf (K w.params) tb (room + 1) "law")) :
    PySem.W.WalkO q loose XP YP l.row.toRowW d [] (fun f vs => PySem.call f vs) :=
  L2.walk_of (n := 63) (k := room + 1) (x := "_law_script") (CX := fun _ => CX0) (sp := fun w => spOf (K w.params) tb (room + 1) "law") hn (by decide) hdf ⟨rfl, by decide, by decide, rfl⟩ hY F (fun _ H a ns hl hO hS => law_sp law_true H a ns hl hO hS) fun _ _ _ _ _ z => z
end K07
open PySem PySem.W PyProof.Rows
set_option maxRecDepth 100000 in
set_option maxHeartbeats 0 in
theorem PySem.Challenge.cw_leastrecord_k07_own_rows_holds : PySem.Challenge.rw_leastrecord_k07_own_rows.Holds := by
  w_on; o_law; k_head; (case hw => w_witness2)
  k_fill
  refine K07.walk (l := PySem.Challenge.rw_leastrecord_k07_own_rows) rfl rfl (fun w h Y => PySem.W.kIn_of Y) ?F
  case F =>
    intro w mg fa h KX G hmg
    refine' K07.all_mk KX G hmg ?a0 ?l0 ?c0 ?k0 ?a1 ?l1 ?c1 ?k1 ?a2 ?l2 ?c2 ?k2 ?a3 ?l3 ?c3 ?k3 ?a4 ?l4 ?c4 ?k4 ?a5 ?l5 ?c5 ?k5 ?a6 ?l6 ?c6 ?k6 ?a7 ?l7 ?c7 ?k7 ?a8 ?l8 ?c8 ?k8 ?a9 ?l9 ?c9 ?k9 ?a10 ?l10 ?c10 ?k10 ?a11 ?l11 ?c11 ?k11 ?a12 ?l12 ?c12 ?k12 ?a13 ?l13 ?c13 ?k13 ?a14 ?l14 ?c14 ?k14 ?a15 ?l15 ?c15 ?k15 ?a16 ?l16 ?c16 ?k16 ?a17 ?l17 ?c17 ?k17 ?a18 ?l18 ?c18 ?k18 ?a19 ?l19 ?c19 ?k19 ?a20 ?l20 ?c20 ?k20 ?a21 ?l21 ?c21 ?k21 ?z0 ?z1 ?z2 ?z3 ?z4 ?z5 ?z6 ?z7 ?z8 ?z9 ?z10 ?z11 ?z12 ?z13 ?z14 ?z15 ?z16 ?z17 ?z18 ?z19 ?wWORTHS ?wMOST_OWN_ROWS
    (case a0 => k_is)
    (case l0 => k_is)
    (case c0 => k_is)
    (case k0 => k_is)
    (case a1 => k_is)
    (case l1 => k_is)
    (case c1 => k_is)
    (case k1 => k_is)
    (case a2 => k_is)
    (case l2 => k_is)
    (case c2 => k_is)
    (case k2 => k_is)
    (case a3 => k_is)
    (case l3 => k_is)
    (case c3 => k_is)
    (case k3 => k_is)
    (case a4 => k_is)
    (case l4 => k_is)
    (case c4 => k_is)
    (case k4 => k_is)
    (case a5 => k_is)
    (case l5 => k_is)
    (case c5 => k_is)
    (case k5 => k_is)
    (case a6 => k_is)
    (case l6 => k_is)
    (case c6 => k_is)
    (case k6 => k_is)
    (case a7 => k_is)
    (case l7 => k_is)
    (case c7 => k_is)
    (case k7 => k_is)
    (case a8 => k_is)
    (case l8 => k_is)
    (case c8 => k_is)
    (case k8 => k_is)
    (case a9 => k_is)
    (case l9 => k_is)
    (case c9 => k_is)
    (case k9 => k_is)
    (case a10 => k_is)
    (case l10 => k_is)
    (case c10 => k_is)
    (case k10 => k_is)
    (case a11 => k_is)
    (case l11 => k_is)
    (case c11 => k_is)
    (case k11 => k_is)
    (case a12 => k_is)
    (case l12 => k_is)
    (case c12 => k_is)
    (case k12 => k_is)
    (case a13 => k_is)
    (case l13 => k_is)
    (case c13 => k_is)
    (case k13 => k_is)
    (case a14 => k_is)
    (case l14 => k_is)
    (case c14 => k_is)
    (case k14 => k_is)
    (case a15 => k_is)
    (case l15 => k_is)
    (case c15 => k_is)
    (case k15 => k_is)
    (case a16 => k_is)
    (case l16 => k_is)
    (case c16 => k_is)
    (case k16 => k_is)
    (case a17 => k_is)
    (case l17 => k_is)
    (case c17 => k_is)
    (case k17 => k_is)
    (case a18 => k_is)
    (case l18 => k_is)
    (case c18 => k_is)
    (case k18 => k_is)
    (case a19 => k_is)
    (case l19 => k_is)
    (case c19 => k_is)
    (case k19 => k_is)
    (case a20 => k_is)
    (case l20 => k_is)
    (case c20 => k_is)
    (case k20 => k_is)
    (case a21 => k_is)
    (case l21 => k_is)
    (case c21 => k_is)
    (case k21 => k_is)
    (case z0 => k_is)
    (case z1 => k_is)
    (case z2 => k_is)
    (case z3 => k_is)
    (case z4 => k_is)
    (case z5 => k_is)
    (case z6 => k_is)
    (case z7 => k_is)
    (case z8 => k_is)
    (case z9 => k_is)
    (case z10 => k_is)
    (case z11 => k_is)
    (case z12 => k_is)
    (case z13 => k_is)
    (case z14 => k_is)
    (case z15 => k_is)
    (case z16 => k_is)
    (case z17 => k_is)
    (case z18 => k_is)
    (case z19 => k_is)
    (case wWORTHS => k_is)
    (case wMOST_OWN_ROWS => k_is)
end
end
end
