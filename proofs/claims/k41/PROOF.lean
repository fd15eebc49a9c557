import PyProof.Rows.All
import HandS.ForMost
import HandS.TupAny
import HandS.TupMul
import HandS.ForExc
import HandS.EndBits
import HandS.Wide
import HandS.WideBits
import HandS.Zip
import HandS.IsInst
import HandS.ExcIs
import HandS.Flow
import HandS.Strs
import HandS.Conv
import HandS.Style
import HandS.GenList
import HandS.ExcCtx
import HandS.Hot
import HandS.HotCalls
import HandS.WordsExc
import HandS.Text
import HandS.RaiseMore
import KE.GoesEnumKw
import HandS.Nested
import HandS.ExcInit
import KE.KSuper
import KE.KExcSuper
import HandS.ExcField
import KE.KExcIs
import HandS.FStr
import HandS.FStrTup
import PyProof.ListStr
import HandS.ExcOwn
import HandS.SetFor
import HandS.More
import HandS.Sort
import PyProof.Rows.SetFrom
import HandS.IterVal
import HandS.Iter
import PyProof.Rows.CallKwBuiltin
import KE.GoesZip
import KE.GoesMore
import KE.GoesEnum
import PyProof.P3Eq
import KE.KOpsOwn
import KE.KCallOwn
import KE.KTupSum
import HandS.Star
import HandS.Defaults
import HandS.ClsMeth
import PySem.Challenge.RW_choosersrow_k41_settled_queries
import Open.SpecLaws
import KE.OsGo
import KE.RegKSuper
set_option Elab.async false
set_option linter.all false
set_option maxRecDepth 100000
set_option maxHeartbeats 4000000
namespace DW
open PySem PySem.Spec PyProof.Rows L2
/-- the object of a new tuple -/
abbrev tupObj (its : List Value) : Obj := { cls := .type "tuple", data := .seq its.toArray }
theorem tup_okN {P : Program} {w : World} {H : Hp} {h : Heap} {xs : List V} {its : List Value} (hz : xs.length ≤ sizeLine) (r : Vals xs its) :
    ObjOk P w H (h.push (tupObj its)) h.objs.size (.frz (tupObj its) (.tup xs)) := ⟨Heap.get?_push_size _ rfl, hz, its, r, IsTup.new _ _⟩
section
variable {X : Cx} {pins : List (Addr × Obj)} {σ : L2.St} {H : Hp} {s : Shared} {Q : VK}
/-- what is wished of a new tuple -/
def NewT (H : Hp) (xs : List V) (Q : VK) : Prop := ∀ p o, o.dict = none → o.cls = .type "tuple" → H p = none → Q (.ref p) (upd H p (.frz o (.tup xs)))
theorem new_tup {xs : List V} {its : List Value} (I : Inv X pins σ H s) (hz : xs.length ≤ sizeLine) (r : Vals xs its) (q : NewT H xs Q) : EP X pins σ Q (.ref s.heap.objs.size) { s with heap := s.heap.push (tupObj its) } :=
  ⟨.ref s.heap.objs.size, _, I.laid (t' := s.toks) (fun b u e => Heap.get?_push_of_some _ e) (Nat.le_refl _) (tup_okN hz r), rfl, q _ _ rfl rfl (I.hok.fresh (Nat.le_refl _))⟩
end
def tTupN (t : TA) : TE := fun σ H Q => t σ H fun xs H1 => xs.length ≤ sizeLine ∧ NewT H1 xs Q
theorem pe_tupN {X : Cx} {es : List Expr} {x1 : Nat} {pos : Pos} {t : TA} (h : PA X es t) : PE X (.Tuple es x1 pos) (tTupN t) :=
  ⟨fun pins s σ H Q I hq => wpAny_Tuple_spliced (thn (h.run pos pins s σ H _ I hq) fun us s1 ⟨xs, H1, I1, r, z, q⟩ => ⟨by rw [← r.length]; exact z, new_tup I1 z r q⟩)⟩
/-- t + u -/
def rCatN (K : PySem.W.Frag) : R2 := fun x y H Q => ∃ a b xs ys, x = .ref a ∧ y = .ref b ∧ SqT K H a xs ∧ SqT K H b ys ∧ xs.length + ys.length ≤ sizeLine ∧
  (xs = [] → Q (.ref b) H) ∧ (xs ≠ [] → ys = [] → Q (.ref a) H) ∧ (xs ≠ [] → ys ≠ [] → NewT H (xs ++ ys) Q)
theorem op_catN {X : Cx} : OpR X (binaryOp .Add) (rCatN X.K) := by
  intro pins s σ H x y v u Q I rx ry h
  obtain ⟨a, b, xs, ys, rfl, rfl, ha, hb, hz, q0, q1, q2⟩ := h
  cases rx
  cases ry
  obtain ⟨its, r1, p1, _⟩ := I.tuple ha
  obtain ⟨its2, r2, p2, _⟩ := I.tuple hb
  by_cases hx : xs = []
  · subst hx
    cases r1
    exact cat_tup0 p1 p2 ⟨.ref b, H, I, rfl, q0 rfl⟩
  · refine HT.cat_tup p1 p2 (fun z => hx (r1.nil_iff.mp z)) (fun z => ⟨.ref a, H, I, rfl, q1 hx (r2.nil_iff.mp z)⟩) (fun z => ?_) (by rw [← r1.length, ← r2.length]; exact hz)
    exact new_tup I (by rw [List.length_append]; exact hz) (r1.append r2) (q2 hx fun w => z (r2.nil_iff.mpr w))
/-- t[lo:hi] -/
def rSlN (K : PySem.W.Frag) : V → Option Int → Option Int → Hp → VK → Prop := fun x lo hi H Q => ∃ a xs, x = .ref a ∧ SqT K H a xs ∧
  (HT.sIx xs.length 0 lo = 0 ∧ HT.sIx xs.length xs.length hi = xs.length → Q (.ref a) H) ∧ (¬ (HT.sIx xs.length 0 lo = 0 ∧ HT.sIx xs.length xs.length hi = xs.length) → NewT H (cutV xs lo hi) Q)
theorem sl_tupN {X : Cx} : SlR X (rSlN X.K) := by
  intro pins s σ H x v vl vu lo hi sl Q I rx hs pl pu h
  obtain ⟨a, xs, rfl, hx, q1, q2⟩ := h
  cases rx
  obtain ⟨its, r, ht, hz⟩ := I.tuple hx
  have many : its.toArray.size = xs.length := by rw [List.size_toArray]; exact r.length.symm
  refine ⟨"tuple", _, PyProof.Rows.slot_tuple_getitem.lookup, ht.typeIs, ?_⟩
  by_cases hw : HT.sIx xs.length 0 lo = 0 ∧ HT.sIx xs.length xs.length hi = xs.length
  · exact getItem_tuple_whole ht hs pl pu (by rw [many]; exact hw) ⟨.ref a, H, I, rfl, q1 hw⟩
  · refine HT.getItem_tuple_cut ht hs pl pu (by rw [many]; exact hw) ?_ (by rw [many]; exact hz)
    rw [many]
    exact new_tup I (Nat.le_trans (cutV_length xs lo hi) hz) ((r.drop (HT.sIx xs.length 0 lo)).take (HT.sIx xs.length xs.length hi - HT.sIx xs.length 0 lo)) (q2 hw)
/-- tuple(xs) -/
theorem call_tupleN {X : Cx} : CallR X (.type "tuple") (fun xs H Q => ∃ p ys, xs = [.ref p] ∧ ((SqL X.K H p ys ∧ NewT H ys Q) ∨ (SqT X.K H p ys ∧ Q (.ref p) H))) := by
  intro pins s σ H xs us Q I r h
  obtain ⟨p, ys, rfl, h⟩ := h
  obtain ⟨u, rfl, rx⟩ := vals1 r
  cases rx
  rcases h with ⟨hq, q⟩ | ⟨hq, q⟩
  · obtain ⟨its, r', pl, hz⟩ := I.list hq
    have many := r'.length
    refine call_tuple_list pl.isList (fun h' kp => ?_) (by simp only [List.size_toArray] <;> omega)
    have I1 : Inv X pins σ H { s with heap := h' } := I.kept (t' := s.toks) kp
    exact new_tup I1 hz r' q
  · obtain ⟨its, r', pl, hz⟩ := I.tuple hq
    exact call_tuple_same pl ⟨.ref p, H, I, rfl, q⟩
end DW
set_option Elab.async false
set_option linter.all false
set_option maxRecDepth 100000
namespace DW
open PySem PySem.Spec L2
abbrev Fg := PySem.W.Frag
/-- plain data: what a value stands for; hd: a value taken as it is (a handle, a def, a type) -/
inductive D where
  | non | bl (b : Bool) | int (i : Int) | str (x : Str)
  | tup (xs : List D) | lst (xs : List D)
  | pr (xs : List D)
  | obj (C : Addr) (ns : List Str) (ds : List D)
  | hd (v : V)
  | scr (ns : List Int)
/-- what stands at a handle's address: a list that may change, one that stands still, an instance in the making -/
inductive Cell where
  | lst (ds : List D) | frz (ds : List D) | ins (C : Addr) (ns : List Str) (ds : List D)
  /-- a range object -/
  | rng (lo hi : Int)
abbrev Sto := Addr → Option Cell
def sset (μ : Sto) (a : Addr) (c : Cell) : Sto := fun b => if b = a then some c else μ b
theorem sset_same {μ : Sto} {a : Addr} {c : Cell} : sset μ a c a = some c := by unfold sset; rw [if_pos rfl]
theorem sset_ne {μ : Sto} {a b : Addr} {c : Cell} (h : b ≠ a) : sset μ a c b = μ b := by unfold sset; rw [if_neg h]
theorem sset_sset {μ : Sto} {a : Addr} {c d : Cell} : sset (sset μ a c) a d = sset μ a d := by
  funext b; unfold sset; split <;> rfl
def still : Option Cell → Prop
  | some (.lst _) => False
  | some (.ins _ _ _) => False
  | _ => True
/-- nothing that may change stands at a -/
def NM (μ : Sto) (a : Addr) : Prop := still (μ a)
theorem NM.of {μ : Sto} {a : Addr} (h : μ a = none) : NM μ a := by unfold NM; rw [h]; exact trivial
theorem NM.frz {μ : Sto} {a : Addr} {ds : List D} (h : μ a = some (.frz ds)) : NM μ a := by unfold NM; rw [h]; exact trivial
theorem NM.notL {μ : Sto} {a : Addr} {ds : List D} (h : NM μ a) (q : μ a = some (.lst ds)) : False := by unfold NM at h; rw [q] at h; exact h
theorem NM.notI {μ : Sto} {a C : Addr} {ns : List Str} {ds : List D} (h : NM μ a) (q : μ a = some (.ins C ns ds)) : False := by unfold NM at h; rw [q] at h; exact h
def SqLw (K : Fg) (a : Addr) (xs : List V) : Prop :=
  ∃ (o : Obj) (its : Array Value) (n : Nat), K.lookup a = some o ∧ o.cls = .type "list" ∧ o.dict = none ∧ o.data = .seq its n ∧ its.size ≤ sizeLine ∧ Vals xs its.toList
def SqTw (K : Fg) (a : Addr) (xs : List V) : Prop :=
  ∃ (o : Obj) (its : Array Value) (n : Nat), K.lookup a = some o ∧ o.cls = .type "tuple" ∧ o.dict = none ∧ o.data = .seq its n ∧ its.size ≤ sizeLine ∧ Vals xs its.toList
def LstAt (μ : Sto) (H : Hp) (a : Addr) (xs : List V) : Prop := H a = some (.lst xs) ∧ NM μ a
def ScrAt (K : Fg) (μ : Sto) (H : Hp) (a : Addr) (xs : List V) : Prop := (Rd H a (.lst xs) ∧ NM μ a) ∨ SqLw K a xs
def TupAt (K : Fg) (μ : Sto) (H : Hp) (a : Addr) (xs : List V) : Prop := (∃ o : Obj, H a = some (.frz o (.tup xs)) ∧ o.dict = none ∧ o.cls = .type "tuple" ∧ NM μ a) ∨ SqTw K a xs
/-- a tuple that is taken apart at once -/
def PrAt (μ : Sto) (H : Hp) (a : Addr) (xs : List V) : Prop := Rd H a (.tup xs) ∧ NM μ a
theorem LstAt.sq {K : Fg} {μ : Sto} {H : Hp} {a : Addr} {xs : List V} (h : LstAt μ H a xs) : SqL K H a xs := .inl (.inl h.1)
theorem ScrAt.sq {K : Fg} {μ : Sto} {H : Hp} {a : Addr} {xs : List V} (h : ScrAt K μ H a xs) : SqL K H a xs := h.elim (fun q => .inl q.1) fun q => .inr q
theorem TupAt.sq {K : Fg} {μ : Sto} {H : Hp} {a : Addr} {xs : List V} (h : TupAt K μ H a xs) : SqT K H a xs := h.elim (fun ⟨o, q, _⟩ => .inl (.inr ⟨o, q⟩)) fun ⟨o, its, n, q1, q2, _, q3⟩ => .inr ⟨o, its, n, q1, q2, q3⟩
theorem PrAt.sq {K : Fg} {μ : Sto} {H : Hp} {a : Addr} {xs : List V} (h : PrAt μ H a xs) : SqT K H a xs := .inl h.1
/-- what values stand for what data -/
inductive Reps (K : Fg) (μ : Sto) (H : Hp) : List V → List D → Prop
  | nil : Reps K μ H [] []
  | non {vs ds} : Reps K μ H vs ds → Reps K μ H (.non :: vs) (.non :: ds)
  | bl {vs ds} (b : Bool) : Reps K μ H vs ds → Reps K μ H (.bl b :: vs) (.bl b :: ds)
  | int {vs ds} (i : Int) : Reps K μ H vs ds → Reps K μ H (.int i :: vs) (.int i :: ds)
  | str {vs ds} (x : Str) : Reps K μ H vs ds → Reps K μ H (.str x :: vs) (.str x :: ds)
  | hd {vs ds} (v : V) : Reps K μ H vs ds → Reps K μ H (v :: vs) (.hd v :: ds)
  | tup {vs ds a us es} : TupAt K μ H a us → Reps K μ H us es → Reps K μ H vs ds → Reps K μ H (.ref a :: vs) (.tup es :: ds)
  | pr {vs ds a us es} : PrAt μ H a us → Reps K μ H us es → Reps K μ H vs ds → Reps K μ H (.ref a :: vs) (.pr es :: ds)
  | scr {vs ds a ns} : ScrAt K μ H a (ns.map V.int) → Reps K μ H vs ds → Reps K μ H (.ref a :: vs) (.scr ns :: ds)
  | lst {vs ds a us es} : LstAt μ H a us → Reps K μ H us es → Reps K μ H vs ds → Reps K μ H (.ref a :: vs) (.lst es :: ds)
  | obj {vs ds a C dx ns us es} : H a = some (.ins C dx (ns.zip us)) → NM μ a → us.length = ns.length → Reps K μ H us es → Reps K μ H vs ds → Reps K μ H (.ref a :: vs) (.obj C ns es :: ds)
abbrev Rep (K : Fg) (μ : Sto) (H : Hp) (v : V) (d : D) : Prop := Reps K μ H [v] [d]
section
variable {K : Fg} {μ μ' μ'' : Sto} {H H' H'' : Hp} {v w : V} {d e : D} {vs us : List V} {ds es : List D}
theorem Reps.length (h : Reps K μ H vs ds) : vs.length = ds.length := by
  induction h <;> simp_all
theorem Reps.split (h : Reps K μ H (v :: vs) (d :: ds)) : Rep K μ H v d ∧ Reps K μ H vs ds := by
  cases h with
  | non r => exact ⟨.non .nil, r⟩
  | bl b r => exact ⟨.bl b .nil, r⟩
  | int i r => exact ⟨.int i .nil, r⟩
  | str x r => exact ⟨.str x .nil, r⟩
  | hd v r => exact ⟨.hd v .nil, r⟩
  | tup h1 h2 r => exact ⟨.tup h1 h2 .nil, r⟩
  | pr h1 h2 r => exact ⟨.pr h1 h2 .nil, r⟩
  | lst h1 h2 r => exact ⟨.lst h1 h2 .nil, r⟩
  | scr h1 r => exact ⟨.scr h1 .nil, r⟩
  | obj h1 h2 h3 h4 r => exact ⟨.obj h1 h2 h3 h4 .nil, r⟩
theorem Reps.cons (h : Rep K μ H v d) (r : Reps K μ H vs ds) : Reps K μ H (v :: vs) (d :: ds) := by
  cases h with
  | non _ => exact .non r
  | bl b _ => exact .bl b r
  | int i _ => exact .int i r
  | str x _ => exact .str x r
  | hd v _ => exact .hd v r
  | tup h1 h2 _ => exact .tup h1 h2 r
  | pr h1 h2 _ => exact .pr h1 h2 r
  | lst h1 h2 _ => exact .lst h1 h2 r
  | scr h1 _ => exact .scr h1 r
  | obj h1 h2 h3 h4 _ => exact .obj h1 h2 h3 h4 r
theorem Reps.get (h : Reps K μ H vs ds) : ∀ {i : Nat} {d : D}, ds[i]? = some d → ∃ v, vs[i]? = some v ∧ Rep K μ H v d := by
  intro i
  induction i generalizing vs ds with
  | zero =>
    intro d e
    cases ds with
    | nil => cases e
    | cons x r =>
      cases vs with
      | nil => have := h.length; simp at this
      | cons v vs =>
        cases e
        exact ⟨v, rfl, h.split.1⟩
  | succ i ih =>
    intro d e
    cases ds with
    | nil => cases e
    | cons x r =>
      cases vs with
      | nil => have := h.length; simp at this
      | cons v vs => exact ih h.split.2 e
theorem Reps.getV (h : Reps K μ H vs ds) {i : Nat} {v : V} (e : vs[i]? = some v) : ∃ d, ds[i]? = some d ∧ Rep K μ H v d := by
  have hi : i < ds.length := by rw [← h.length]; exact (List.getElem?_eq_some_iff.mp e).1
  obtain ⟨v', e', r⟩ := h.get (List.getElem?_eq_getElem hi)
  rw [e] at e'
  cases e'
  exact ⟨_, List.getElem?_eq_getElem hi, r⟩
theorem Reps.append (h : Reps K μ H vs ds) (r : Reps K μ H us es) : Reps K μ H (vs ++ us) (ds ++ es) := by
  induction vs generalizing ds with
  | nil => cases h; exact r
  | cons v vs ih =>
    cases ds with
    | nil => have := h.length; simp at this
    | cons d ds => exact .cons h.split.1 (ih h.split.2)
theorem Reps.take (h : Reps K μ H vs ds) : ∀ n, Reps K μ H (vs.take n) (ds.take n) := by
  intro n
  induction n generalizing vs ds with
  | zero => exact .nil
  | succ n ih =>
    cases ds with
    | nil =>
      cases vs with
      | nil => exact .nil
      | cons v vs => have := h.length; simp at this
    | cons d ds =>
      cases vs with
      | nil => have := h.length; simp at this
      | cons v vs => exact .cons h.split.1 (ih h.split.2)
theorem Reps.drop (h : Reps K μ H vs ds) : ∀ n, Reps K μ H (vs.drop n) (ds.drop n) := by
  intro n
  induction n generalizing vs ds with
  | zero => exact h
  | succ n ih =>
    cases ds with
    | nil =>
      cases vs with
      | nil => exact .nil
      | cons v vs => have := h.length; simp at this
    | cons d ds =>
      cases vs with
      | nil => have := h.length; simp at this
      | cons v vs => exact ih h.split.2
theorem Reps.set (h : Reps K μ H vs ds) (r : Rep K μ H v d) : ∀ j, Reps K μ H (vs.set j v) (ds.set j d) := by
  intro j
  induction j generalizing vs ds with
  | zero =>
    cases ds with
    | nil =>
      cases vs with
      | nil => exact .nil
      | cons v vs => have := h.length; simp at this
    | cons d ds =>
      cases vs with
      | nil => have := h.length; simp at this
      | cons v vs => exact .cons r h.split.2
  | succ n ih =>
    cases ds with
    | nil =>
      cases vs with
      | nil => exact .nil
      | cons v vs => have := h.length; simp at this
    | cons d ds =>
      cases vs with
      | nil => have := h.length; simp at this
      | cons v vs => exact .cons h.split.1 (ih h.split.2)
theorem Reps.reverse (h : Reps K μ H vs ds) : Reps K μ H vs.reverse ds.reverse := by
  induction vs generalizing ds with
  | nil => cases h; exact .nil
  | cons v vs ih =>
    cases ds with
    | nil => have := h.length; simp at this
    | cons d ds =>
      rw [List.reverse_cons, List.reverse_cons]
      exact (ih h.split.2).append (.cons h.split.1 .nil)
/-- all that stands still there, stands still here; nothing is gone -/
structure Evo (μ : Sto) (H : Hp) (μ' : Sto) (H' : Hp) : Prop where
  st : ∀ b o, H b = some o → NM μ b → H' b = some o ∧ NM μ' b
  th : ∀ b, H' b = none → H b = none
theorem Evo.refl : Evo μ H μ H := ⟨fun _ _ h n => ⟨h, n⟩, fun _ h => h⟩
theorem Evo.trans (a : Evo μ H μ' H') (b : Evo μ' H' μ'' H'') : Evo μ H μ'' H'' := ⟨fun c o h n => b.st c o (a.st c o h n).1 (a.st c o h n).2, fun c h => a.th c (b.th c h)⟩
theorem Evo.rd {a : Addr} {u : HO} (e : Evo μ H μ' H') (h : Rd H a u) (n : NM μ a) : Rd H' a u ∧ NM μ' a := by
  rcases h with h | ⟨o, h⟩
  · exact ⟨.inl (e.st a _ h n).1, (e.st a _ h n).2⟩
  · exact ⟨.inr ⟨o, (e.st a _ h n).1⟩, (e.st a _ h n).2⟩
theorem LstAt.mono {a : Addr} {xs : List V} (e : Evo μ H μ' H') (h : LstAt μ H a xs) : LstAt μ' H' a xs := e.st _ _ h.1 h.2
theorem ScrAt.mono {a : Addr} {xs : List V} (e : Evo μ H μ' H') (h : ScrAt K μ H a xs) : ScrAt K μ' H' a xs := by
  rcases h with ⟨h, n⟩ | h
  · exact .inl (e.rd h n)
  · exact .inr h
theorem TupAt.mono {a : Addr} {xs : List V} (e : Evo μ H μ' H') (h : TupAt K μ H a xs) : TupAt K μ' H' a xs := by
  rcases h with ⟨o, h, d, c, n⟩ | h
  · exact .inl ⟨o, (e.st a _ h n).1, d, c, (e.st a _ h n).2⟩
  · exact .inr h
theorem Reps.mono (e : Evo μ H μ' H') (h : Reps K μ H vs ds) : Reps K μ' H' vs ds := by
  induction h with
  | nil => exact .nil
  | non _ i => exact .non i
  | bl b _ i => exact .bl b i
  | int b _ i => exact .int b i
  | str b _ i => exact .str b i
  | hd b _ i => exact .hd b i
  | tup h1 _ _ i1 i2 => exact .tup (h1.mono e) i1 i2
  | pr h1 _ _ i1 i2 => exact .pr ⟨(e.rd h1.1 h1.2).1, (e.rd h1.1 h1.2).2⟩ i1 i2
  | lst h1 _ _ i1 i2 => exact .lst (h1.mono e) i1 i2
  | scr h1 _ i1 => exact .scr (h1.mono e) i1
  | obj h1 h2 h3 _ _ i1 i2 => exact .obj (e.st _ _ h1 h2).1 (e.st _ _ h1 h2).2 h3 i1 i2
/-- what is said of the handles holds of the heap -/
def CellOk (K : Fg) (μ : Sto) (H : Hp) (a : Addr) : Cell → Prop
  | .lst ds => ∃ vs, H a = some (.lst vs) ∧ Reps K μ H vs ds
  | .frz ds => ∃ vs, H a = some (.lst vs) ∧ Reps K μ H vs ds
  | .ins C ns ds => ∃ dx us, H a = some (.ins C dx (ns.zip us)) ∧ us.length = ns.length ∧ Reps K μ H us ds
  | .rng lo hi => H a = some (.rng lo hi)
def StoOk (K : Fg) (μ : Sto) (H : Hp) : Prop := ∀ a c, μ a = some c → CellOk K μ H a c
theorem CellOk.there {a : Addr} {c : Cell} (h : CellOk K μ H a c) : ∃ o, H a = some o := by
  cases c with
  | lst ds => obtain ⟨_, e, _⟩ := h; exact ⟨_, e⟩
  | frz ds => obtain ⟨_, e, _⟩ := h; exact ⟨_, e⟩
  | ins C ns ds => obtain ⟨_, _, e, _⟩ := h; exact ⟨_, e⟩
  | rng lo hi => exact ⟨_, h⟩
theorem StoOk.fresh {p : Addr} (s : StoOk K μ H) (h : H p = none) : μ p = none := by
  cases e : μ p with
  | none => rfl
  | some c =>
    obtain ⟨o, q⟩ := (s p c e).there
    rw [h] at q
    cases q
theorem CellOk.mono {a : Addr} {c : Cell} (e : Evo μ H μ' H') (hs : ∀ o, H a = some o → H' a = some o) (h : CellOk K μ H a c) : CellOk K μ' H' a c := by
  cases c with
  | lst ds => obtain ⟨vs, q, r⟩ := h; exact ⟨vs, hs _ q, r.mono e⟩
  | frz ds => obtain ⟨vs, q, r⟩ := h; exact ⟨vs, hs _ q, r.mono e⟩
  | ins C ns ds => obtain ⟨dx, us, q, l, r⟩ := h; exact ⟨dx, us, hs _ q, l, r.mono e⟩
  | rng lo hi => exact hs _ h
/-- a new object -/
theorem upd_th {p : Addr} {o : HO} {b : Addr} (h : upd H p o b = none) : H b = none := by
  by_cases e : b = p
  · subst e; rw [upd_same] at h; cases h
  · rw [upd_ne e] at h; exact h
theorem Evo.new {p : Addr} {o : HO} (h : H p = none) : Evo μ H μ (upd H p o) := ⟨fun b u e n => ⟨by rw [upd_ne (ne_of_none e h)]; exact e, n⟩, fun b q => upd_th q⟩
theorem StoOk.new {p : Addr} {o : HO} (s : StoOk K μ H) (h : H p = none) : StoOk K μ (upd H p o) := fun a c e =>
  (s a c e).mono (.new h) fun u q => by rw [upd_ne (ne_of_none q h)]; exact q
theorem NM.new {p : Addr} (s : StoOk K μ H) (h : H p = none) : NM μ p := .of (s.fresh h)
/-- a new object that has a cell -/
theorem Evo.newC {p : Addr} {o : HO} {c : Cell} (s : StoOk K μ H) (h : H p = none) : Evo μ H (sset μ p c) (upd H p o) := ⟨fun b u e n => by
  have hb : b ≠ p := ne_of_none e h
  refine ⟨by rw [upd_ne hb]; exact e, ?_⟩
  unfold NM
  rw [sset_ne hb]
  exact n, fun b q => upd_th q⟩
/-- the cell at p changes; nothing else does -/
theorem Evo.cell {p : Addr} {o : HO} {c c' : Cell} (hp : μ p = some c) (hn : ¬ NM μ p) : Evo μ H (sset μ p c') (upd H p o) := ⟨fun b u e n => by
  have hb : b ≠ p := fun q => hn (q ▸ n)
  refine ⟨by rw [upd_ne hb]; exact e, ?_⟩
  unfold NM
  rw [sset_ne hb]
  exact n, fun b q => upd_th q⟩
theorem StoOk.cell {p : Addr} {o : HO} {c' : Cell} (s : StoOk K μ H) (e : Evo μ H (sset μ p c') (upd H p o)) (h : CellOk K (sset μ p c') (upd H p o) p c') : StoOk K (sset μ p c') (upd H p o) := fun a x q => by
  by_cases ha : a = p
  · subst ha
    rw [sset_same] at q
    cases q
    exact h
  · rw [sset_ne ha] at q
    exact (s a x q).mono e fun u z => by rw [upd_ne ha]; exact z
/-- a list comes to rest -/
theorem Evo.rest {p : Addr} {ds : List D} (hp : μ p = some (.lst ds)) : Evo μ H (sset μ p (.frz ds)) H := ⟨fun b u e n => by
  have hb : b ≠ p := fun q => by subst q; exact n.notL hp
  refine ⟨e, ?_⟩
  unfold NM
  rw [sset_ne hb]
  exact n, fun _ q => q⟩
theorem StoOk.rest {p : Addr} {ds : List D} (s : StoOk K μ H) (hp : μ p = some (.lst ds)) : StoOk K (sset μ p (.frz ds)) H := fun a x q => by
  by_cases ha : a = p
  · subst ha
    rw [sset_same] at q
    cases q
    exact (s a _ hp).mono (.rest hp) fun _ z => z
  · rw [sset_ne ha] at q
    exact (s a x q).mono (.rest hp) fun _ z => z
/-- fewer cells -/
def Sub (μ μ' : Sto) : Prop := ∀ a c, μ a = some c → μ' a = some c
theorem Sub.refl : Sub μ μ := fun _ _ h => h
theorem Sub.trans (a : Sub μ μ') (b : Sub μ' μ'') : Sub μ μ'' := fun c x h => b c x (a c x h)
theorem Sub.set {p : Addr} {c : Cell} (s : Sub μ μ') (h : μ p = none) : Sub μ (sset μ' p c) := fun a x e => by
  have : a ≠ p := fun q => by subst q; rw [h] at e; cases e
  rw [sset_ne this]
  exact s a x e
theorem Sub.none {p : Addr} (s : Sub μ μ') (h : μ' p = none) : μ p = none := by
  cases e : μ p with
  | none => rfl
  | some c => rw [s p c e] at h; cases h
theorem Sub.nm {a : Addr} (s : Sub μ μ') (h : NM μ' a) : NM μ a := by
  unfold NM at h ⊢
  cases e : μ a with
  | none => exact trivial
  | some c => rw [s a c e] at h; exact h
theorem Sub.evo (s : Sub μ' μ) : Evo μ H μ' H := ⟨fun b o e n => ⟨e, s.nm n⟩, fun _ q => q⟩
/-- without the cell at p -/
def sdel (μ : Sto) (p : Addr) : Sto := fun b => if b = p then none else μ b
theorem sdel_sub {p : Addr} : Sub (sdel μ p) μ := fun a c e => by
  unfold sdel at e
  split at e
  · cases e
  · exact e
theorem sdel_sset {p : Addr} {c : Cell} (h : μ p = none) : sdel (sset μ p c) p = μ := by
  funext b; unfold sdel sset; by_cases e : b = p
  · subst e; rw [if_pos rfl, h]
  · rw [if_neg e, if_neg e]
theorem sdel_same {p : Addr} : sdel μ p p = none := by unfold sdel; rw [if_pos rfl]
theorem Sub.sto (s : Sub μ' μ) (h : StoOk K μ H) : StoOk K μ' H := fun a c e => (h a c (s a c e)).mono s.evo fun _ z => z
/-- the names' values -/
abbrev DEnv := List (Option D)
structure EnvOk (K : Fg) (μ : Sto) (H : Hp) (σ : St) (δ : DEnv) : Prop where
  len : σ.length = δ.length
  at_ : ∀ (i : Nat) (d : D), δ[i]? = some (some d) → ∃ v, σ[i]? = some (some v) ∧ Rep K μ H v d
theorem EnvOk.mono {σ : St} {δ : DEnv} (e : Evo μ H μ' H') (h : EnvOk K μ H σ δ) : EnvOk K μ' H' σ δ := ⟨h.len, fun i d q => by
  obtain ⟨v, a, b⟩ := h.at_ i d q
  exact ⟨v, a, b.mono e⟩⟩
theorem EnvOk.set {σ : St} {δ : DEnv} (h : EnvOk K μ H σ δ) (r : Rep K μ H v d) (j : Nat) : EnvOk K μ H (σ.set j (some v)) (δ.set j (some d)) := ⟨by rw [List.length_set, List.length_set]; exact h.len, fun i x q => by
  rw [List.getElem?_set] at q
  rw [List.getElem?_set]
  by_cases hj : j = i
  · rw [if_pos hj] at q ⊢
    rw [h.len]
    by_cases hl : j < δ.length
    · rw [if_pos hl] at q ⊢
      cases q
      exact ⟨v, rfl, r⟩
    · rw [if_neg hl] at q
      cases q
  · rw [if_neg hj] at q ⊢
    exact h.at_ i x q⟩
/-- what is known where one stands -/
structure Sm (K : Fg) (H0 : Hp) (μ0 : Sto) (σ : St) (H : Hp) (δ : DEnv) (μ : Sto) : Prop where
  evo : Evo μ0 H0 μ H
  sto : StoOk K μ H
  env : EnvOk K μ H σ δ
theorem Sm.step {H0 : Hp} {μ0 : Sto} {σ : St} {δ : DEnv} (S : Sm K H0 μ0 σ H δ μ) (e : Evo μ H μ' H') (s : StoOk K μ' H') : Sm K H0 μ0 σ H' δ μ' := ⟨S.evo.trans e, s, S.env.mono e⟩
theorem Sm.set {H0 : Hp} {μ0 : Sto} {σ : St} {δ : DEnv} (S : Sm K H0 μ0 σ H δ μ) (r : Rep K μ H v d) (j : Nat) : Sm K H0 μ0 (σ.set j (some v)) H (δ.set j (some d)) μ := ⟨S.evo, S.sto, S.env.set r j⟩
end
end DW
set_option Elab.async false
set_option linter.all false
set_option maxRecDepth 100000
namespace DW
open PySem PySem.Spec L2
/-- an exception that is on its way: its class, its own fields -/
inductive XD where
  | mk (C : Addr) (fs : Option (List Str × List D))
abbrev XP := XD → DEnv → Sto → Prop
abbrev DK := D → Sto → Prop
def RepX (K : Fg) (μ : Sto) (H : Hp) (cls : Value) (dd : Option Addr) : XD → Prop
  | .mk C none => cls = .ref C ∧ dd = none
  | .mk C (some (ns, ds)) => cls = .ref C ∧ ∃ d us, dd = some d ∧ H d = some (.xd (ns.zip us)) ∧ NM μ d ∧ us.length = ns.length ∧ Reps K μ H us ds
/-- where a piece of code stands: the written part, the heap and the handles at the entry, what is wished of exceptions -/
structure Bx (K : Fg) where
  H0 : Hp
  μ0 : Sto
  W : WX
  Ψ : XP
  hW : ∀ cls dd σ H x δ μ, Sm K H0 μ0 σ H δ μ → RepX K μ H cls dd x → Ψ x δ μ → W cls dd σ H
/-- the same, from a later moment on -/
abbrev Bx.re {K : Fg} (B : Bx K) (H1 : Hp) (μ1 : Sto) (e : Evo B.μ0 B.H0 μ1 H1) : Bx K := ⟨H1, μ1, B.W, B.Ψ, fun cls dd σ H x δ μ S => B.hW cls dd σ H x δ μ ⟨e.trans S.evo, S.sto, S.env⟩⟩
abbrev DE := XP → DEnv → Sto → DK → Prop
abbrev DA := XP → DEnv → Sto → (List D → Sto → Prop) → Prop
abbrev DT := XP → DEnv → Sto → (Bool → Sto → Prop) → Prop
structure DEnds where
  nx : DEnv → Sto → Prop
  rt : D → Sto → Prop
  bk : DEnv → Sto → Prop
  ct : DEnv → Sto → Prop
abbrev DSt := XP → DEnds → DEnv → Sto → Prop
section
variable {K : Fg} (B : Bx K)
abbrev Bx.S {K : Fg} (B : Bx K) (σ : L2.St) (H : Hp) (δ : DEnv) (μ : Sto) : Prop := Sm K B.H0 B.μ0 σ H δ μ
/-- the reading te follows from the data's reading φ -/
def SE (te : TE) (φ : DE) : Prop := ∀ (σ : L2.St) (H : Hp) (δ : DEnv) (μ : Sto) (Φ : DK) (Q : VK), B.S σ H δ μ → φ B.Ψ δ μ Φ →
  (∀ v H' d μ', B.S σ H' δ μ' → Evo μ H μ' H' → Rep K μ' H' v d → Φ d μ' → Q v H') → te σ H Q
def SA (ta : TA) (φ : DA) : Prop := ∀ (σ : L2.St) (H : Hp) (δ : DEnv) (μ : Sto) (Φ : List D → Sto → Prop) (Q : List V → Hp → Prop), B.S σ H δ μ → φ B.Ψ δ μ Φ →
  (∀ vs H' ds μ', B.S σ H' δ μ' → Evo μ H μ' H' → Reps K μ' H' vs ds → Φ ds μ' → Q vs H') → ta σ H Q
def ST (tt : TT) (φ : DT) : Prop := ∀ (σ : L2.St) (H : Hp) (δ : DEnv) (μ : Sto) (Φ : Bool → Sto → Prop) (Q : Bool → Hp → Prop), B.S σ H δ μ → φ B.Ψ δ μ Φ →
  (∀ b H' μ', B.S σ H' δ μ' → Evo μ H μ' H' → Φ b μ' → Q b H') → tt σ H Q
structure EO (D : Ends) (Δ : DEnds) : Prop where
  nx : ∀ σ H δ μ, B.S σ H δ μ → Δ.nx δ μ → D.nx σ H
  rt : ∀ v H d μ σ δ, B.S σ H δ μ → Rep K μ H v d → Δ.rt d μ → D.rt v H
  bk : ∀ σ H δ μ, B.S σ H δ μ → Δ.bk δ μ → D.bk σ H
  ct : ∀ σ H δ μ, B.S σ H δ μ → Δ.ct δ μ → D.ct σ H
def SS (ts : TS) (φ : DSt) : Prop := ∀ (D : Ends) (Δ : DEnds) (σ : L2.St) (H : Hp) (δ : DEnv) (μ : Sto), EO B D Δ → B.S σ H δ μ → φ B.Ψ Δ δ μ → ts D σ H
end
section
variable {K : Fg} {B : Bx K} {te ta tb tc : TE} {φ φa φb φc : DE} {tt tu : TT} {θ ϑ : DT} {tas : TA} {ψ : DA} {ts tz : TS} {ω ζ : DSt}
def dVar (i : Nat) : DE := fun _ δ μ Φ => ∃ d, δ[i]? = some (some d) ∧ Φ d μ
theorem sVar {i : Nat} : SE B (tVar i) (dVar i) := fun σ H δ μ Φ Q S h k => by
  obtain ⟨d, e, h⟩ := h
  obtain ⟨v, ev, r⟩ := S.env.at_ i d e
  exact ⟨v, ev, k v H d μ S .refl r h⟩
/-- a name that holds a list's handle, read as the list: it changes no more -/
def dRest (i : Nat) : DE := fun _ δ μ Φ => ∃ a ds, δ[i]? = some (some (.hd (.ref a))) ∧ μ a = some (.lst ds) ∧ Φ (.lst ds) (sset μ a (.frz ds))
theorem Rep.hd_inv {K : Fg} {μ : Sto} {H : Hp} {v w : V} (h : Rep K μ H v (.hd w)) : v = w := by cases h; rfl
theorem sRest {i : Nat} : SE B (tVar i) (dRest i) := fun σ H δ μ Φ Q S h k => by
  obtain ⟨a, ds, e, hm, h⟩ := h
  obtain ⟨v, ev, r⟩ := S.env.at_ i _ e
  obtain rfl := Rep.hd_inv r
  have ev2 : Evo μ H (sset μ a (.frz ds)) H := .rest hm
  have st2 := S.sto.rest hm
  obtain ⟨vs, q1, q2⟩ := st2 a _ sset_same
  exact ⟨_, ev, k _ H _ _ (S.step ev2 st2) ev2 (.lst ⟨q1, .frz sset_same⟩ q2 .nil) h⟩
def dC (d : D) : DE := fun _ _ μ Φ => Φ d μ
theorem sC {v : V} {d : D} (r : ∀ K μ H, Rep K μ H v d) : SE B (tC v) (dC d) := fun σ H δ μ Φ Q S h k => k v H d μ S .refl (r _ _ _) h
theorem sInt {i : Int} : SE B (tC (.int i)) (dC (.int i)) := sC fun _ _ _ => .int i .nil
theorem sStr {x : Str} : SE B (tC (.str x)) (dC (.str x)) := sC fun _ _ _ => .str x .nil
theorem sBl {b : Bool} : SE B (tC (.bl b)) (dC (.bl b)) := sC fun _ _ _ => .bl b .nil
theorem sNon : SE B (tC .non) (dC .non) := sC fun _ _ _ => .non .nil
theorem sHd {v : V} : SE B (tC v) (dC (.hd v)) := sC fun _ _ _ => .hd v .nil
/-- an operator by data -/
abbrev DO := D → D → Sto → DK → Prop
def RO (K : Fg) (r : R2) (ρ : DO) : Prop := ∀ (H : Hp) (μ : Sto) (v w : V) (d e : D) (Φ : DK) (Q : VK), StoOk K μ H → Rep K μ H v d → Rep K μ H w e → ρ d e μ Φ →
  (∀ z H' c μ', Evo μ H μ' H' → StoOk K μ' H' → Rep K μ' H' z c → Φ c μ' → Q z H') → r v w H Q
def dOp (ρ : DO) (φa φb : DE) : DE := fun Ψ δ μ Φ => φa Ψ δ μ fun x μ1 => φb Ψ δ μ1 fun y μ2 => ρ x y μ2 Φ
theorem sOp {r : R2} {ρ : DO} (h : RO K r ρ) (a : SE B ta φa) (b : SE B tb φb) : SE B (tOp r ta tb) (dOp ρ φa φb) := fun σ H δ μ Φ Q S q k =>
  a σ H δ μ _ _ S q fun v H1 x μ1 S1 e1 r1 q1 => b σ H1 δ μ1 _ _ S1 q1 fun w H2 y μ2 S2 e2 r2 q2 =>
    h H2 μ2 v w x y Φ Q S2.sto (Reps.mono e2 r1) r2 q2 fun z H3 c μ3 e3 s3 r3 p => k z H3 c μ3 (S2.step e3 s3) ((e1.trans e2).trans e3) r3 p
abbrev DU := D → Sto → DK → Prop
def dUn (ρ : DU) (φa : DE) : DE := fun Ψ δ μ Φ => φa Ψ δ μ fun x μ1 => ρ x μ1 Φ
def dTest (φ : DE) : DT := fun Ψ δ μ Φ => φ Ψ δ μ fun x μ1 => ∃ b, x = .bl b ∧ Φ b μ1
theorem Rep.bl_inv {K : Fg} {μ : Sto} {H : Hp} {v : V} {b : Bool} (h : Rep K μ H v (.bl b)) : v = .bl b := by cases h; rfl
theorem Rep.int_inv {K : Fg} {μ : Sto} {H : Hp} {v : V} {b : Int} (h : Rep K μ H v (.int b)) : v = .int b := by cases h; rfl
theorem Rep.non_inv {K : Fg} {μ : Sto} {H : Hp} {v : V} (h : Rep K μ H v .non) : v = .non := by cases h; rfl
theorem sTest (a : SE B ta φa) : ST B (tTest ta) (dTest φa) := fun σ H δ μ Φ Q S q k =>
  a σ H δ μ _ _ S q fun v H1 x μ1 S1 e1 r1 q1 => by
    obtain ⟨b, rfl, q2⟩ := q1
    obtain rfl := Rep.bl_inv r1
    exact ⟨b, rfl, k b H1 μ1 S1 e1 q2⟩
theorem sB (a : SE B ta φa) : ST B (tB ta) (dTest φa) := fun σ H δ μ Φ Q S q k =>
  a σ H δ μ _ _ S q fun v H1 x μ1 S1 e1 r1 q1 => by
    obtain ⟨b, rfl, q2⟩ := q1
    obtain rfl := Rep.bl_inv r1
    exact ⟨b, rfl, k b H1 μ1 S1 e1 q2⟩
def dAnd (θ ϑ : DT) : DT := fun Ψ δ μ Φ => θ Ψ δ μ fun b μ1 => (b = true → ϑ Ψ δ μ1 Φ) ∧ (b = false → Φ false μ1)
def dOr (θ ϑ : DT) : DT := fun Ψ δ μ Φ => θ Ψ δ μ fun b μ1 => (b = true → Φ true μ1) ∧ (b = false → ϑ Ψ δ μ1 Φ)
def dNot (θ : DT) : DT := fun Ψ δ μ Φ => θ Ψ δ μ fun b μ1 => Φ (!b) μ1
theorem sAnd (a : ST B tt θ) (b : ST B tu ϑ) : ST B (tAnd tt tu) (dAnd θ ϑ) := fun σ H δ μ Φ Q S q k =>
  a σ H δ μ _ _ S q fun v H1 μ1 S1 e1 q1 => by
    cases v with
    | true => exact b σ H1 δ μ1 _ _ S1 (q1.1 rfl) fun w H2 μ2 S2 e2 q2 => k w H2 μ2 S2 (e1.trans e2) q2
    | false => exact k false H1 μ1 S1 e1 (q1.2 rfl)
theorem sOr (a : ST B tt θ) (b : ST B tu ϑ) : ST B (tOr tt tu) (dOr θ ϑ) := fun σ H δ μ Φ Q S q k =>
  a σ H δ μ _ _ S q fun v H1 μ1 S1 e1 q1 => by
    cases v with
    | true => exact k true H1 μ1 S1 e1 (q1.1 rfl)
    | false => exact b σ H1 δ μ1 _ _ S1 (q1.2 rfl) fun w H2 μ2 S2 e2 q2 => k w H2 μ2 S2 (e1.trans e2) q2
theorem sNot (a : ST B tt θ) : ST B (tNot tt) (dNot θ) := fun σ H δ μ Φ Q S q k =>
  a σ H δ μ _ _ S q fun v H1 μ1 S1 e1 q1 => k (!v) H1 μ1 S1 e1 q1
def dAndV (φa φb : DE) : DE := fun Ψ δ μ Φ => φa Ψ δ μ fun x μ1 => ∃ b, x = .bl b ∧ (b = true → φb Ψ δ μ1 Φ) ∧ (b = false → Φ (.bl false) μ1)
def dOrV (φa φb : DE) : DE := fun Ψ δ μ Φ => φa Ψ δ μ fun x μ1 => ∃ b, x = .bl b ∧ (b = true → Φ (.bl true) μ1) ∧ (b = false → φb Ψ δ μ1 Φ)
def dNotV (φa : DE) : DE := fun Ψ δ μ Φ => φa Ψ δ μ fun x μ1 => ∃ b, x = .bl b ∧ Φ (.bl (!b)) μ1
theorem sAndV (a : SE B ta φa) (b : SE B tb φb) : SE B (tAndV ta tb) (dAndV φa φb) := fun σ H δ μ Φ Q S q k =>
  a σ H δ μ _ _ S q fun v H1 x μ1 S1 e1 r1 q1 => by
    obtain ⟨c, rfl, q2, q3⟩ := q1
    obtain rfl := Rep.bl_inv r1
    refine ⟨c, rfl, ?_⟩
    cases c with
    | true => exact b σ H1 δ μ1 _ _ S1 (q2 rfl) fun w H2 y μ2 S2 e2 r2 p => k w H2 y μ2 S2 (e1.trans e2) r2 p
    | false => exact k _ H1 _ μ1 S1 e1 (.bl false .nil) (q3 rfl)
theorem sOrV (a : SE B ta φa) (b : SE B tb φb) : SE B (tOrV ta tb) (dOrV φa φb) := fun σ H δ μ Φ Q S q k =>
  a σ H δ μ _ _ S q fun v H1 x μ1 S1 e1 r1 q1 => by
    obtain ⟨c, rfl, q2, q3⟩ := q1
    obtain rfl := Rep.bl_inv r1
    refine ⟨c, rfl, ?_⟩
    cases c with
    | true => exact k _ H1 _ μ1 S1 e1 (.bl true .nil) (q2 rfl)
    | false => exact b σ H1 δ μ1 _ _ S1 (q3 rfl) fun w H2 y μ2 S2 e2 r2 p => k w H2 y μ2 S2 (e1.trans e2) r2 p
theorem sNotV (a : SE B ta φa) : SE B (tNotV ta) (dNotV φa) := fun σ H δ μ Φ Q S q k =>
  a σ H δ μ _ _ S q fun v H1 x μ1 S1 e1 r1 q1 => by
    obtain ⟨c, rfl, q2⟩ := q1
    obtain rfl := Rep.bl_inv r1
    exact ⟨c, rfl, k _ H1 _ μ1 S1 e1 (.bl _ .nil) q2⟩
def dIf (θ : DT) (φa φb : DE) : DE := fun Ψ δ μ Φ => θ Ψ δ μ fun b μ1 => (b = true → φa Ψ δ μ1 Φ) ∧ (b = false → φb Ψ δ μ1 Φ)
theorem sIf (c : ST B tt θ) (a : SE B ta φa) (b : SE B tb φb) : SE B (tIf tt ta tb) (dIf θ φa φb) := fun σ H δ μ Φ Q S q k =>
  c σ H δ μ _ _ S q fun v H1 μ1 S1 e1 q1 => by
    cases v with
    | true => exact a σ H1 δ μ1 _ _ S1 (q1.1 rfl) fun w H2 y μ2 S2 e2 r2 p => k w H2 y μ2 S2 (e1.trans e2) r2 p
    | false => exact b σ H1 δ μ1 _ _ S1 (q1.2 rfl) fun w H2 y μ2 S2 e2 r2 p => k w H2 y μ2 S2 (e1.trans e2) r2 p
/-- a comparison of three -/
def dChain (ρ ρ' : DO) (φa φb φc : DE) : DE := fun Ψ δ μ Φ => φa Ψ δ μ fun x μ1 => φb Ψ δ μ1 fun y μ2 => ρ x y μ2 fun z μ3 => ∃ b, z = .bl b ∧ (b = true → φc Ψ δ μ3 fun u μ4 => ρ' y u μ4 Φ) ∧ (b = false → Φ (.bl false) μ3)
theorem sChain {r r' : R2} {ρ ρ' : DO} (h : RO K r ρ) (h' : RO K r' ρ') (a : SE B ta φa) (b : SE B tb φb) (c : SE B tc φc) : SE B (tChain r r' ta tb tc) (dChain ρ ρ' φa φb φc) := fun σ H δ μ Φ Q S q k =>
  a σ H δ μ _ _ S q fun v H1 x μ1 S1 e1 r1 q1 => b σ H1 δ μ1 _ _ S1 q1 fun w H2 y μ2 S2 e2 r2 q2 =>
    h H2 μ2 v w x y _ _ S2.sto (Reps.mono e2 r1) r2 q2 fun z H3 d μ3 e3 s3 r3 p => by
      obtain ⟨i, rfl, p1, p2⟩ := p
      obtain rfl := Rep.bl_inv r3
      refine ⟨i, rfl, ?_⟩
      have S3 := S2.step e3 s3
      cases i with
      | true =>
        exact c σ H3 δ μ3 _ _ S3 (p1 rfl) fun w4 H4 y4 μ4 S4 e4 r4 p4 =>
          h' H4 μ4 w w4 y y4 _ _ S4.sto (Reps.mono (e3.trans e4) r2) r4 p4 fun z5 H5 d5 μ5 e5 s5 r5 p5 => k z5 H5 d5 μ5 (S4.step e5 s5) (((e1.trans e2).trans e3).trans (e4.trans e5)) r5 p5
      | false => exact k _ H3 _ μ3 S3 ((e1.trans e2).trans e3) (.bl false .nil) (p2 rfl)
def dNil : DA := fun _ _ μ Φ => Φ [] μ
def dCons (φ : DE) (ψ : DA) : DA := fun Ψ δ μ Φ => φ Ψ δ μ fun x μ1 => ψ Ψ δ μ1 fun xs μ2 => Φ (x :: xs) μ2
theorem sNil : SA B tNil dNil := fun σ H δ μ Φ Q S q k => k [] H [] μ S .refl .nil q
theorem sCons (a : SE B ta φa) (b : SA B tas ψ) : SA B (tCons ta tas) (dCons φa ψ) := fun σ H δ μ Φ Q S q k =>
  a σ H δ μ _ _ S q fun v H1 x μ1 S1 e1 r1 q1 => b σ H1 δ μ1 _ _ S1 q1 fun vs H2 xs μ2 S2 e2 r2 q2 => k _ H2 _ μ2 S2 (e1.trans e2) (.cons (Reps.mono e2 r1) r2) q2
def dTup (ψ : DA) : DE := fun Ψ δ μ Φ => ψ Ψ δ μ fun xs μ1 => xs.length ≤ 100000 ∧ Φ (.tup xs) μ1
theorem rep_tup {K : Fg} {μ : Sto} {H : Hp} {p : Addr} {vs : List V} {ds : List D} (s : StoOk K μ H) (hp : H p = none) (r : Reps K μ H vs ds) : Rep K μ (upd H p (.tup vs)) (.ref p) (.pr ds) :=
  .pr ⟨.inl upd_same, .new s hp⟩ (r.mono (.new hp)) .nil
theorem rep_tupN {K : Fg} {μ : Sto} {H : Hp} {p : Addr} {o : Obj} {vs : List V} {ds : List D} (s : StoOk K μ H) (hp : H p = none) (ho : o.dict = none) (hc : o.cls = .type "tuple") (r : Reps K μ H vs ds) : Rep K μ (upd H p (.frz o (.tup vs))) (.ref p) (.tup ds) :=
  .tup (.inl ⟨o, upd_same, ho, hc, .new s hp⟩) (r.mono (.new hp)) .nil
theorem rep_lst {K : Fg} {μ : Sto} {H : Hp} {p : Addr} {vs : List V} {ds : List D} (s : StoOk K μ H) (hp : H p = none) (r : Reps K μ H vs ds) : Rep K μ (upd H p (.lst vs)) (.ref p) (.lst ds) :=
  .lst ⟨upd_same, .new s hp⟩ (r.mono (.new hp)) .nil
theorem sz {n : Nat} (h : n ≤ 100000) : n ≤ sizeLine := Nat.le_trans h (by decide)
theorem sTup (b : SA B tas ψ) : SE B (tTupN tas) (dTup ψ) := fun σ H δ μ Φ Q S q k =>
  b σ H δ μ _ _ S q fun vs H1 xs μ1 S1 e1 r1 q1 => ⟨sz (by rw [r1.length]; exact q1.1), fun p o ho hc hp => k _ _ _ μ1 (S1.step (.new hp) (S1.sto.new hp)) (e1.trans (.new hp)) (rep_tupN S1.sto hp ho hc r1) q1.2⟩
def dLst (ψ : DA) : DE := fun Ψ δ μ Φ => ψ Ψ δ μ fun xs μ1 => xs.length ≤ 100000 ∧ Φ (.lst xs) μ1
theorem sLst (b : SA B tas ψ) : SE B (tLst tas) (dLst ψ) := fun σ H δ μ Φ Q S q k =>
  b σ H δ μ _ _ S q fun vs H1 xs μ1 S1 e1 r1 q1 => ⟨sz (by rw [r1.length]; exact q1.1), fun p hp => k _ _ _ μ1 (S1.step (.new hp) (S1.sto.new hp)) (e1.trans (.new hp)) (rep_lst S1.sto hp r1) q1.2⟩
/-- a list that will change: its handle -/
def dOwn (ψ : DA) : DE := fun Ψ δ μ Φ => ψ Ψ δ μ fun xs μ1 => xs.length ≤ 100000 ∧ ∀ p, μ1 p = none → Φ (.hd (.ref p)) (sset μ1 p (.lst xs))
theorem sto_own {K : Fg} {μ : Sto} {H : Hp} {p : Addr} {vs : List V} {ds : List D} (s : StoOk K μ H) (hp : H p = none) (r : Reps K μ H vs ds) : StoOk K (sset μ p (.lst ds)) (upd H p (.lst vs)) :=
  s.cell (.newC s hp) ⟨vs, upd_same, r.mono (.newC s hp)⟩
theorem sOwn (b : SA B tas ψ) : SE B (tLst tas) (dOwn ψ) := fun σ H δ μ Φ Q S q k =>
  b σ H δ μ _ _ S q fun vs H1 xs μ1 S1 e1 r1 q1 => ⟨sz (by rw [r1.length]; exact q1.1), fun p hp =>
    k _ _ _ _ (S1.step (.newC S1.sto hp) (sto_own S1.sto hp r1)) (e1.trans (.newC S1.sto hp)) (.hd _ .nil) (q1.2 p (S1.sto.fresh hp))⟩
def dSeq (ω ζ : DSt) : DSt := fun Ψ Δ δ μ => ω Ψ { Δ with nx := ζ Ψ Δ } δ μ
theorem sSeq (a : SS B ts ω) (b : SS B tz ζ) : SS B (tSeq ts tz) (dSeq ω ζ) := fun D Δ σ H δ μ E S q =>
  a { D with nx := tz D } { Δ with nx := ζ B.Ψ Δ } σ H δ μ ⟨fun σ' H' δ' μ' S' q' => b D Δ σ' H' δ' μ' E S' q', E.rt, E.bk, E.ct⟩ S q
def dNext : DSt := fun _ Δ δ μ => Δ.nx δ μ
theorem sNext : SS B tNext dNext := fun D Δ σ H δ μ E S q => E.nx σ H δ μ S q
def dBreak : DSt := fun _ Δ δ μ => Δ.bk δ μ
def dCont : DSt := fun _ Δ δ μ => Δ.ct δ μ
def dDrop (φ : DE) : DSt := fun Ψ Δ δ μ => φ Ψ δ μ fun _ μ1 => Δ.nx δ μ1
theorem sDrop (a : SE B ta φa) : SS B (tDrop ta) (dDrop φa) := fun D Δ σ H δ μ E S q => a σ H δ μ _ _ S q fun v H1 x μ1 S1 e1 r1 q1 => E.nx σ H1 δ μ1 S1 q1
def dRet (φ : DE) : DSt := fun Ψ Δ δ μ => φ Ψ δ μ Δ.rt
theorem sRet (a : SE B ta φa) : SS B (tRet ta) (dRet φa) := fun D Δ σ H δ μ E S q => a σ H δ μ _ _ S q fun v H1 x μ1 S1 e1 r1 q1 => E.rt v H1 x μ1 σ δ S1 r1 q1
def dRetN : DSt := fun _ Δ δ μ => Δ.rt .non μ
def dIfS (θ : DT) (ω ζ : DSt) : DSt := fun Ψ Δ δ μ => θ Ψ δ μ fun b μ1 => (b = true → ω Ψ Δ δ μ1) ∧ (b = false → ζ Ψ Δ δ μ1)
theorem sIfS (c : ST B tt θ) (a : SS B ts ω) (b : SS B tz ζ) : SS B (tIfS tt ts tz) (dIfS θ ω ζ) := fun D Δ σ H δ μ E S q =>
  c σ H δ μ _ _ S q fun v H1 μ1 S1 e1 q1 => by
    cases v with
    | true => exact a D Δ σ H1 δ μ1 E S1 (q1.1 rfl)
    | false => exact b D Δ σ H1 δ μ1 E S1 (q1.2 rfl)
/-- targets -/
abbrev DG := D → DEnv → Sto → (DEnv → Sto → Prop) → Prop
def SG {K : Fg} (B : Bx K) (g : TG) (γ : DG) : Prop := ∀ (v : V) (d : D) (σ : L2.St) (H : Hp) (δ : DEnv) (μ : Sto) (Φ : DEnv → Sto → Prop) (Q : L2.St → Hp → Prop), B.S σ H δ μ → Rep K μ H v d → γ d δ μ Φ →
  (∀ σ' H' δ' μ', B.S σ' H' δ' μ' → Evo μ H μ' H' → Φ δ' μ' → Q σ' H') → g v σ H Q
def SGs {K : Fg} (B : Bx K) (g : TGs) (γ : List D → DEnv → Sto → (DEnv → Sto → Prop) → Prop) : Prop := ∀ (v : List V) (d : List D) (σ : L2.St) (H : Hp) (δ : DEnv) (μ : Sto) (Φ : DEnv → Sto → Prop) (Q : L2.St → Hp → Prop), B.S σ H δ μ → Reps K μ H v d → γ d δ μ Φ →
  (∀ σ' H' δ' μ', B.S σ' H' δ' μ' → Evo μ H μ' H' → Φ δ' μ' → Q σ' H') → g v σ H Q
def eName (i : Nat) : DG := fun d δ μ Φ => Φ (δ.set i (some d)) μ
theorem sName {i : Nat} : SG B (gName i) (eName i) := fun v d σ H δ μ Φ Q S r q k => k _ H _ μ (S.set r i) .refl q
def eNil : List D → DEnv → Sto → (DEnv → Sto → Prop) → Prop := fun ds δ μ Φ => ds = [] ∧ Φ δ μ
def eCons (γ : DG) (η : List D → DEnv → Sto → (DEnv → Sto → Prop) → Prop) : List D → DEnv → Sto → (DEnv → Sto → Prop) → Prop := fun ds δ μ Φ => ∃ d r, ds = d :: r ∧ γ d δ μ fun δ' μ' => η r δ' μ' Φ
theorem sgNil : SGs B gNil eNil := fun v d σ H δ μ Φ Q S r q k => by
  obtain ⟨rfl, q⟩ := q
  cases r
  exact ⟨rfl, k σ H δ μ S .refl q⟩
theorem sgCons {g : TG} {gs : TGs} {γ : DG} {η : List D → DEnv → Sto → (DEnv → Sto → Prop) → Prop} (a : SG B g γ) (b : SGs B gs η) : SGs B (gCons g gs) (eCons γ η) := fun v d σ H δ μ Φ Q S r q k => by
  obtain ⟨x, xs, rfl, q⟩ := q
  cases v with
  | nil => have := r.length; simp at this
  | cons v vs =>
    exact ⟨v, vs, rfl, a v x σ H δ μ _ _ S r.split.1 q fun σ1 H1 δ1 μ1 S1 e1 q1 => b vs xs σ1 H1 δ1 μ1 _ _ S1 (r.split.2.mono e1) q1 fun σ2 H2 δ2 μ2 S2 e2 q2 => k σ2 H2 δ2 μ2 S2 (e1.trans e2) q2⟩
def tpl : D → Option (List D)
  | .tup ds => some ds
  | .pr ds => some ds
  | _ => none
def eTup (n : Nat) (η : List D → DEnv → Sto → (DEnv → Sto → Prop) → Prop) : DG := fun d δ μ Φ => ∃ ds, tpl d = some ds ∧ ds.length = n ∧ η ds δ μ Φ
theorem Rep.tup_inv {K : Fg} {μ : Sto} {H : Hp} {v : V} {ds : List D} (h : Rep K μ H v (.tup ds)) : ∃ a vs, v = .ref a ∧ TupAt K μ H a vs ∧ Reps K μ H vs ds := by
  cases h with
  | tup h1 h2 _ => exact ⟨_, _, rfl, h1, h2⟩
theorem Rep.lst_inv {K : Fg} {μ : Sto} {H : Hp} {v : V} {ds : List D} (h : Rep K μ H v (.lst ds)) : ∃ a vs, v = .ref a ∧ LstAt μ H a vs ∧ Reps K μ H vs ds := by
  cases h with
  | lst h1 h2 _ => exact ⟨_, _, rfl, h1, h2⟩
theorem Rep.tpl_inv {K : Fg} {μ : Sto} {H : Hp} {v : V} {d : D} {ds : List D} (h : Rep K μ H v d) (e : tpl d = some ds) : ∃ a vs, v = .ref a ∧ SqT K H a vs ∧ Reps K μ H vs ds := by
  cases h with
  | tup h1 h2 _ => cases e; exact ⟨_, _, rfl, h1.sq, h2⟩
  | pr h1 h2 _ => cases e; exact ⟨_, _, rfl, h1.sq, h2⟩
  | _ => cases e
theorem sgTup {n : Nat} {gs : TGs} {η : List D → DEnv → Sto → (DEnv → Sto → Prop) → Prop} (b : SGs B gs η) : SG B (gTup K n gs) (eTup n η) := fun v d σ H δ μ Φ Q S r q k => by
  obtain ⟨ds, ed, hn, q⟩ := q
  obtain ⟨a, vs, rfl, ht, hr⟩ := Rep.tpl_inv r ed
  exact ⟨a, vs, rfl, ht, by rw [hr.length]; exact hn, b vs ds σ H δ μ Φ Q S hr q k⟩
def dAsg (φ : DE) (γ : DG) : DSt := fun Ψ Δ δ μ => φ Ψ δ μ fun x μ1 => γ x δ μ1 Δ.nx
theorem sAsg {g : TG} {γ : DG} (a : SE B ta φa) (b : SG B g γ) : SS B (tAsg ta g) (dAsg φa γ) := fun D Δ σ H δ μ E S q =>
  a σ H δ μ _ _ S q fun v H1 x μ1 S1 e1 r1 q1 => b v x σ H1 δ μ1 _ _ S1 r1 q1 fun σ2 H2 δ2 μ2 S2 e2 q2 => E.nx σ2 H2 δ2 μ2 S2 q2
/-- x += e -/
def dAug (i : Nat) (φ : DE) (ρ : DO) : DSt := fun Ψ Δ δ μ => ∃ x, δ[i]? = some (some x) ∧ φ Ψ δ μ fun y μ1 => ρ x y μ1 fun z μ2 => Δ.nx (δ.set i (some z)) μ2
/-- while, by a word and a number that falls -/
def dWhile (θ : DT) (ω : DSt) : DSt := fun Ψ Δ δ μ => ∃ W : Nat → DEnv → Sto → Prop, (∃ m, W m δ μ) ∧ ∀ m δ μ, W m δ μ → θ Ψ δ μ fun b μ1 =>
  (b = true → ω Ψ { Δ with nx := fun δ' μ' => ∃ m', m' < m ∧ W m' δ' μ', ct := fun δ' μ' => ∃ m', m' < m ∧ W m' δ' μ', bk := Δ.nx } δ μ1) ∧ (b = false → Δ.nx δ μ1)
theorem sWhile (c : ST B tt θ) (a : SS B ts ω) : SS B (tWhile tt ts) (dWhile θ ω) := fun D Δ σ H δ μ E S q => by
  obtain ⟨W, ⟨m0, w0⟩, q⟩ := q
  refine ⟨fun m σ H => ∃ δ μ, B.S σ H δ μ ∧ W m δ μ, ⟨m0, δ, μ, S, w0⟩, fun m σ1 H1 ⟨δ1, μ1, S1, w1⟩ => ?_⟩
  refine c σ1 H1 δ1 μ1 _ _ S1 (q m δ1 μ1 w1) fun b H2 μ2 S2 e2 q2 => ?_
  cases b with
  | true =>
    refine ⟨fun σ' H' => ∃ δ' μ', B.S σ' H' δ' μ' ∧ ∃ m', m' < m ∧ W m' δ' μ', fun σ' H' ⟨δ', μ', S', m', hm, w'⟩ => ⟨m', hm, δ', μ', S', w'⟩, ?_⟩
    exact a _ { Δ with nx := fun δ' μ' => ∃ m', m' < m ∧ W m' δ' μ', ct := fun δ' μ' => ∃ m', m' < m ∧ W m' δ' μ', bk := Δ.nx } σ1 H2 δ1 μ2 ⟨fun σ' H' δ' μ' S' q' => ⟨δ', μ', S', q'⟩, E.rt, E.nx, fun σ' H' δ' μ' S' q' => ⟨δ', μ', S', q'⟩⟩ S2 (q2.1 rfl)
  | false => exact E.nx _ _ _ _ S2 (q2.2 rfl)
end
end DW
set_option Elab.async false
set_option linter.all false
set_option maxRecDepth 100000
namespace DW
open PySem PySem.Spec L2
section
variable {K : Fg}
def oI (C : Int → Int → Prop) (g : Int → Int → D) : DO := fun x y μ Φ => ∃ i j, x = .int i ∧ y = .int j ∧ C i j ∧ Φ (g i j) μ
def oI0 (g : Int → Int → D) : DO := fun x y μ Φ => ∃ i j, x = .int i ∧ y = .int j ∧ Φ (g i j) μ
theorem roI {C : Int → Int → Prop} {g : Int → Int → V} {g' : Int → Int → D} (hg : ∀ i j μ H, Rep K μ H (g i j) (g' i j)) : RO K (rI C g) (oI C g') := fun H μ v w d e Φ Q s r1 r2 q k => by
  obtain ⟨i, j, rfl, rfl, hc, q⟩ := q
  exact ⟨i, j, Rep.int_inv r1, Rep.int_inv r2, hc, k _ H _ μ .refl s (hg i j μ H) q⟩
theorem roI0 {g : Int → Int → V} {g' : Int → Int → D} (hg : ∀ i j μ H, Rep K μ H (g i j) (g' i j)) : RO K (rI0 g) (oI0 g') := fun H μ v w d e Φ Q s r1 r2 q k => by
  obtain ⟨i, j, rfl, rfl, q⟩ := q
  exact ⟨i, j, Rep.int_inv r1, Rep.int_inv r2, k _ H _ μ .refl s (hg i j μ H) q⟩
theorem roInt {C : Int → Int → Prop} {g : Int → Int → Int} : RO K (rI C fun i j => .int (g i j)) (oI C fun i j => .int (g i j)) := roI fun _ _ _ _ => .int _ .nil
theorem roInt0 {g : Int → Int → Int} : RO K (rI0 fun i j => .int (g i j)) (oI0 fun i j => .int (g i j)) := roI0 fun _ _ _ _ => .int _ .nil
theorem roBl0 {g : Int → Int → Bool} : RO K (rI0 fun i j => .bl (g i j)) (oI0 fun i j => .bl (g i j)) := roI0 fun _ _ _ _ => .bl _ .nil
def uI (g : Int → Int) : DU := fun x μ Φ => ∃ i, x = .int i ∧ Φ (.int (g i)) μ
def sEq : D → D → Option Bool
  | .int i, .int j => some (decide (i = j))
  | .str i, .str j => some (decide (i = j))
  | .bl i, .bl j => some (decide (i = j))
  | .non, .non => some true
  | .non, .int _ => some false
  | .int _, .non => some false
  | .non, .bl _ => some false
  | .bl _, .non => some false
  | .non, .str _ => some false
  | .str _, .non => some false
  | .int _, .str _ => some false
  | .str _, .int _ => some false
  | .bl _, .str _ => some false
  | .str _, .bl _ => some false
  | _, _ => none
theorem sEq_ok {μ : Sto} {H : Hp} {v w : V} {d e : D} {b : Bool} (r1 : Rep K μ H v d) (r2 : Rep K μ H w e) (h : sEq d e = some b) : scal v w = true ∧ decide (v = w) = b := by
  cases d <;> cases e <;> (first | (unfold sEq at h; cases h; done) | skip) <;> cases r1 <;> cases r2 <;> (injection h with h; subst h; first | exact ⟨rfl, by simp⟩ | exact ⟨rfl, rfl⟩)
def oEq : DO := fun x y μ Φ => ∃ b, sEq x y = some b ∧ Φ (.bl b) μ
def oNe : DO := fun x y μ Φ => ∃ b, sEq x y = some b ∧ Φ (.bl (!b)) μ
theorem roEq : RO K rEq oEq := fun H μ v w d e Φ Q s r1 r2 q k => by
  obtain ⟨b, hb, q⟩ := q
  obtain ⟨h1, h2⟩ := sEq_ok r1 r2 hb
  exact ⟨h1, by rw [h2]; exact k _ H _ μ .refl s (.bl _ .nil) q⟩
theorem roNe : RO K rNe oNe := fun H μ v w d e Φ Q s r1 r2 q k => by
  obtain ⟨b, hb, q⟩ := q
  obtain ⟨h1, h2⟩ := sEq_ok r1 r2 hb
  exact ⟨h1, by rw [h2]; exact k _ H _ μ .refl s (.bl _ .nil) q⟩
def isNone : D → Option Bool
  | .non => some true
  | .bl _ => some false
  | .int _ => some false
  | .str _ => some false
  | .tup _ => some false
  | .lst _ => some false
  | .obj _ _ _ => some false
  | _ => none
theorem isNone_ok {μ : Sto} {H : Hp} {v : V} {d : D} {b : Bool} (r1 : Rep K μ H v d) (h : isNone d = some b) : decide (v = .non) = b := by
  cases d <;> unfold isNone at h <;> first | (cases h; done) | (cases h; cases r1; rfl) | (cases h; cases r1; simp)
def oIsN : DO := fun x y μ Φ => y = .non ∧ ∃ b, isNone x = some b ∧ Φ (.bl b) μ
def oNotN : DO := fun x y μ Φ => y = .non ∧ ∃ b, isNone x = some b ∧ Φ (.bl (!b)) μ
theorem roNotN : RO K (fun x y H Q => y = .non ∧ Q (.bl (!decide (x = .non))) H) oNotN := fun H μ v w d e Φ Q s r1 r2 q k => by
  obtain ⟨rfl, b, hb, q⟩ := q
  exact ⟨Rep.non_inv r2, by rw [isNone_ok r1 hb]; exact k _ H _ μ .refl s (.bl _ .nil) q⟩
def flatD : D → Bool
  | .non => true
  | .bl _ => true
  | .int _ => true
  | .str _ => true
  | _ => false
def eqF : D → D → Bool
  | .non, .non => true
  | .bl a, .bl b => a == b
  | .bl a, .int b => (if a then 1 else 0) == b
  | .int a, .bl b => a == (if b then 1 else 0)
  | .int a, .int b => a == b
  | .str a, .str b => a == b
  | _, _ => false
theorem flatD_ok {μ : Sto} {H : Hp} {v : V} {d : D} (r : Rep K μ H v d) (h : flatD d = true) : flatV v = true := by
  cases d <;> (first | (exact absurd h Bool.false_ne_true) | skip) <;> cases r <;> rfl
theorem eqF_ok {μ : Sto} {H : Hp} {v w : V} {d e : D} (r1 : Rep K μ H v d) (r2 : Rep K μ H w e) (f1 : flatD d = true) (f2 : flatD e = true) : eqV v w = eqF d e := by
  cases d <;> (first | (exact absurd f1 Bool.false_ne_true) | skip) <;> cases r1 <;> cases e <;> (first | (exact absurd f2 Bool.false_ne_true) | skip) <;> cases r2 <;> rfl
theorem flatAll_ok {μ : Sto} {H : Hp} : ∀ {vs : List V} {ds : List D}, Reps K μ H vs ds → ds.all flatD = true → vs.all flatV = true
  | [], [], _, _ => rfl
  | [], _ :: _, r, _ => by have := r.length; simp at this
  | _ :: _, [], r, _ => by have := r.length; simp at this
  | v :: vs, d :: ds, r, h => by
    rw [List.all_cons, Bool.and_eq_true] at h ⊢
    exact ⟨flatD_ok r.split.1 h.1, flatAll_ok r.split.2 h.2⟩
def inD (x : D) (ds : List D) : Bool := ds.any fun y => eqF y x
theorem inD_ok {μ : Sto} {H : Hp} {v : V} {d : D} (r1 : Rep K μ H v d) (f1 : flatD d = true) : ∀ {vs : List V} {ds : List D}, Reps K μ H vs ds → ds.all flatD = true → inV v vs = inD d ds
  | [], [], _, _ => rfl
  | [], _ :: _, r, _ => by have := r.length; simp at this
  | _ :: _, [], r, _ => by have := r.length; simp at this
  | w :: vs, e :: ds, r, h => by
    rw [List.all_cons, Bool.and_eq_true] at h
    have ih := inD_ok r1 f1 r.split.2 h.2
    unfold inV inD at ih ⊢
    rw [List.any_cons, List.any_cons, eqF_ok r.split.1 r1 h.1 f1, ih]
/-- the items of a tuple, of a list, of a handle's list -/
inductive Items (μ : Sto) : D → List D → Prop
  | tup (ds) : Items μ (.tup ds) ds
  | lst (ds) : Items μ (.lst ds) ds
  | own {a ds} : μ a = some (.lst ds) → Items μ (.hd (.ref a)) ds
  | frz {a ds} : μ a = some (.frz ds) → Items μ (.hd (.ref a)) ds
  | scr (ns) : Items μ (.scr ns) (ns.map .int)
theorem reps_ints {μ : Sto} {H : Hp} : ∀ (ns : List Int), Reps K μ H (ns.map V.int) (ns.map D.int)
  | [] => .nil
  | n :: ns => .int n (reps_ints ns)
theorem Items.ok {μ : Sto} {H : Hp} {v : V} {d : D} {ds : List D} (s : StoOk K μ H) (r : Rep K μ H v d) (h : Items μ d ds) : ∃ a vs, v = .ref a ∧ (SqL K H a vs ∨ SqT K H a vs) ∧ Reps K μ H vs ds := by
  cases h with
  | tup => obtain ⟨a, vs, rfl, h1, h2⟩ := Rep.tup_inv r; exact ⟨a, vs, rfl, .inr h1.sq, h2⟩
  | lst => obtain ⟨a, vs, rfl, h1, h2⟩ := Rep.lst_inv r; exact ⟨a, vs, rfl, .inl h1.sq, h2⟩
  | own h => obtain rfl := Rep.hd_inv r; obtain ⟨vs, h1, h2⟩ := s _ _ h; exact ⟨_, vs, rfl, .inl (.of h1), h2⟩
  | frz h => obtain rfl := Rep.hd_inv r; obtain ⟨vs, h1, h2⟩ := s _ _ h; exact ⟨_, vs, rfl, .inl (.of h1), h2⟩
  | scr ns =>
    cases r with
    | scr h1 _ => exact ⟨_, _, rfl, .inl h1.sq, reps_ints ns⟩
def oIn (neg : Bool) : DO := fun x y μ Φ => ∃ ds, Items μ y ds ∧ flatD x = true ∧ ds.all flatD = true ∧ Φ (.bl (if neg then !inD x ds else inD x ds)) μ
theorem roIn {neg : Bool} : RO K (rIn K neg) (oIn neg) := fun H μ v w d e Φ Q s r1 r2 q k => by
  obtain ⟨ds, hi, f1, f2, q⟩ := q
  obtain ⟨a, vs, rfl, h1, h2⟩ := hi.ok s r2
  refine ⟨a, vs, rfl, h1, flatD_ok r1 f1, flatAll_ok h2 f2, ?_⟩
  rw [inD_ok r1 f1 h2 f2]
  exact k _ H _ μ .refl s (.bl _ .nil) q
theorem atI_reps {μ : Sto} {H : Hp} {vs : List V} {ds : List D} (r : Reps K μ H vs ds) {i : Int} {d : D} (h : atI ds i = some d) : ∃ v, atI vs i = some v ∧ Rep K μ H v d := by
  unfold atI at h ⊢
  rw [r.length]
  cases e : ixN ds.length i with
  | none => rw [e] at h; cases h
  | some j => rw [e] at h; exact r.get h
def isTup : D → Bool
  | .tup _ => true
  | _ => false
def oIxT : DO := fun x y μ Φ => ∃ ds i d, x = .tup ds ∧ y = .int i ∧ atI ds i = some d ∧ Φ d μ
theorem roIxT : RO K (rIxT K) oIxT := fun H μ v w d e Φ Q s r1 r2 q k => by
  obtain ⟨ds, i, c, rfl, rfl, hi, q⟩ := q
  obtain ⟨a, vs, rfl, h1, h2⟩ := Rep.tup_inv r1
  obtain ⟨z, hz, rz⟩ := atI_reps h2 hi
  exact ⟨a, vs, i, z, rfl, Rep.int_inv r2, h1.sq, hz, k _ H _ μ .refl s rz q⟩
def oIxL : DO := fun x y μ Φ => ∃ ds i d, Items μ x ds ∧ isTup x = false ∧ y = .int i ∧ atI ds i = some d ∧ Φ d μ
theorem Items.okL {μ : Sto} {H : Hp} {v : V} {d : D} {ds : List D} (s : StoOk K μ H) (r : Rep K μ H v d) (h : Items μ d ds) (n : isTup d = false) : ∃ a vs, v = .ref a ∧ SqL K H a vs ∧ Reps K μ H vs ds := by
  cases h with
  | tup => cases n
  | lst => obtain ⟨a, vs, rfl, h1, h2⟩ := Rep.lst_inv r; exact ⟨a, vs, rfl, h1.sq, h2⟩
  | own h => obtain rfl := Rep.hd_inv r; obtain ⟨vs, h1, h2⟩ := s _ _ h; exact ⟨_, vs, rfl, .of h1, h2⟩
  | frz h => obtain rfl := Rep.hd_inv r; obtain ⟨vs, h1, h2⟩ := s _ _ h; exact ⟨_, vs, rfl, .of h1, h2⟩
  | scr ns =>
    cases r with
    | scr h1 _ => exact ⟨_, _, rfl, h1.sq, reps_ints ns⟩
theorem roIxL : RO K (rIxL K) oIxL := fun H μ v w d e Φ Q s r1 r2 q k => by
  obtain ⟨ds, i, c, hi, hn, rfl, ha, q⟩ := q
  obtain ⟨a, vs, rfl, h1, h2⟩ := hi.okL s r1 hn
  obtain ⟨z, hz, rz⟩ := atI_reps h2 ha
  exact ⟨a, vs, i, z, rfl, Rep.int_inv r2, h1, hz, k _ H _ μ .refl s rz q⟩
/-- t + u, tuples -/
def oCatT : DO := fun x y μ Φ => ∃ xs ys, x = .tup xs ∧ y = .tup ys ∧ xs.length + ys.length ≤ 100000 ∧ Φ (.tup (xs ++ ys)) μ
theorem roCatT : RO K (rCatN K) oCatT := fun H μ v w d e Φ Q s r1 r2 q k => by
  obtain ⟨xs, ys, rfl, rfl, hz, q⟩ := q
  obtain ⟨a, vs, rfl, h1, h2⟩ := Rep.tup_inv r1
  obtain ⟨b, us, rfl, h3, h4⟩ := Rep.tup_inv r2
  refine ⟨a, b, vs, us, rfl, rfl, h1.sq, h3.sq, sz (by rw [h2.length, h4.length]; exact hz), fun e => ?_, fun _ e => ?_, fun _ _ p o ho hc hp => ?_⟩
  · subst e
    have ex : xs = [] := List.eq_nil_of_length_eq_zero (by rw [← h2.length]; rfl)
    subst ex
    exact k _ H _ μ .refl s r2 q
  · subst e
    have ex : ys = [] := List.eq_nil_of_length_eq_zero (by rw [← h4.length]; rfl)
    subst ex
    rw [List.append_nil] at q
    exact k _ H _ μ .refl s r1 q
  · exact k _ _ _ μ (.new hp) (s.new hp) (rep_tupN s hp ho hc (h2.append h4)) q
/-- xs + ys, lists -/
def oCatL : DO := fun x y μ Φ => ∃ xs ys, x = .lst xs ∧ y = .lst ys ∧ xs.length + ys.length ≤ 100000 ∧ Φ (.lst (xs ++ ys)) μ
theorem roCatL : RO K rCat oCatL := fun H μ v w d e Φ Q s r1 r2 q k => by
  obtain ⟨xs, ys, rfl, rfl, hz, q⟩ := q
  obtain ⟨a, vs, rfl, h1, h2⟩ := Rep.lst_inv r1
  obtain ⟨b, us, rfl, h3, h4⟩ := Rep.lst_inv r2
  exact ⟨a, b, vs, us, rfl, rfl, h1.1, h3.1, sz (by rw [h2.length, h4.length]; exact hz), fun p hp => k _ _ _ μ (.new hp) (s.new hp) (rep_lst s hp (h2.append h4)) q⟩
/-- t * k for k of two or more -/
theorem reps_rep {μ : Sto} {H : Hp} {vs : List V} {ds : List D} (r : Reps K μ H vs ds) : ∀ n, Reps K μ H (List.replicate n vs).flatten (List.replicate n ds).flatten
  | 0 => .nil
  | n + 1 => by
    rw [List.replicate_succ, List.replicate_succ, List.flatten_cons, List.flatten_cons]
    exact r.append (reps_rep r n)
def dNoPart : XP → DEnv → Sto → (Option Int → Sto → Prop) → Prop := fun _ _ μ Φ => Φ none μ
def dPart (φ : DE) : XP → DEnv → Sto → (Option Int → Sto → Prop) → Prop := fun Ψ δ μ Φ => φ Ψ δ μ fun x μ1 => ∃ i, x = .int i ∧ Φ (some i) μ1
def SO (B : Bx K) (to : TO) (φ : XP → DEnv → Sto → (Option Int → Sto → Prop) → Prop) : Prop := ∀ (σ : L2.St) (H : Hp) (δ : DEnv) (μ : Sto) (Φ : Option Int → Sto → Prop) (Q : Option Int → Hp → Prop), B.S σ H δ μ → φ B.Ψ δ μ Φ →
  (∀ o H' μ', B.S σ H' δ μ' → Evo μ H μ' H' → Φ o μ' → Q o H') → to σ H Q
theorem sNoPart {B : Bx K} : SO B tNoPart dNoPart := fun σ H δ μ Φ Q S q k => k none H μ S .refl q
theorem sPart {B : Bx K} {te : TE} {φ : DE} (a : SE B te φ) : SO B (tPart te) (dPart φ) := fun σ H δ μ Φ Q S q k =>
  a σ H δ μ _ _ S q fun v H1 x μ1 S1 e1 r1 q1 => by
    obtain ⟨i, rfl, q2⟩ := q1
    obtain rfl := Rep.int_inv r1
    exact ⟨i, rfl, k (some i) H1 μ1 S1 e1 q2⟩
def cutD (xs : List D) (lo hi : Option Int) : List D := (xs.drop (HT.sIx xs.length 0 lo)).take (HT.sIx xs.length xs.length hi - HT.sIx xs.length 0 lo)
theorem cut_reps {μ : Sto} {H : Hp} {vs : List V} {ds : List D} (r : Reps K μ H vs ds) (lo hi : Option Int) : Reps K μ H (cutV vs lo hi) (cutD ds lo hi) := by
  unfold cutV cutD
  rw [r.length]
  exact (r.drop _).take _
def dSlT (φ : DE) (ol oh : XP → DEnv → Sto → (Option Int → Sto → Prop) → Prop) : DE := fun Ψ δ μ Φ => φ Ψ δ μ fun x μ1 => ol Ψ δ μ1 fun lo μ2 => oh Ψ δ μ2 fun hi μ3 => ∃ ds, x = .tup ds ∧ Φ (.tup (cutD ds lo hi)) μ3
theorem cutD_whole {ds : List D} {lo hi : Option Int} (h : HT.sIx ds.length 0 lo = 0 ∧ HT.sIx ds.length ds.length hi = ds.length) : cutD ds lo hi = ds := by
  unfold cutD
  rw [h.1, h.2, List.drop_zero, Nat.sub_zero, List.take_length]
theorem sSlT {B : Bx K} {te : TE} {tl th : TO} {φ : DE} {ol oh : XP → DEnv → Sto → (Option Int → Sto → Prop) → Prop} (a : SE B te φ) (b : SO B tl ol) (c : SO B th oh) : SE B (tSl (rSlN K) te tl th) (dSlT φ ol oh) := fun σ H δ μ Φ Q S q k =>
  a σ H δ μ _ _ S q fun v H1 x μ1 S1 e1 r1 q1 => b σ H1 δ μ1 _ _ S1 q1 fun lo H2 μ2 S2 e2 q2 => c σ H2 δ μ2 _ _ S2 q2 fun hi H3 μ3 S3 e3 q3 => by
    obtain ⟨ds, rfl, q3⟩ := q3
    obtain ⟨p, vs, rfl, h1, h2⟩ := Rep.tup_inv ((r1.mono e2).mono e3)
    refine ⟨p, vs, rfl, h1.sq, fun w => ?_, fun w o ob hd hc ho => ?_⟩
    · rw [h2.length] at w
      rw [cutD_whole w] at q3
      exact k _ H3 _ μ3 S3 ((e1.trans e2).trans e3) (.tup h1 h2 .nil) q3
    · exact k _ _ _ μ3 (S3.step (.new ho) (S3.sto.new ho)) (((e1.trans e2).trans e3).trans (.new ho)) (rep_tupN S3.sto ho hd hc (cut_reps h2 lo hi)) q3
def dSlL (φ : DE) (ol oh : XP → DEnv → Sto → (Option Int → Sto → Prop) → Prop) : DE := fun Ψ δ μ Φ => φ Ψ δ μ fun x μ1 => ol Ψ δ μ1 fun lo μ2 => oh Ψ δ μ2 fun hi μ3 => ∃ ds, Items μ3 x ds ∧ isTup x = false ∧ Φ (.lst (cutD ds lo hi)) μ3
theorem sSlL {B : Bx K} {te : TE} {tl th : TO} {φ : DE} {ol oh : XP → DEnv → Sto → (Option Int → Sto → Prop) → Prop} (a : SE B te φ) (b : SO B tl ol) (c : SO B th oh) : SE B (tSl (rSlL K) te tl th) (dSlL φ ol oh) := fun σ H δ μ Φ Q S q k =>
  a σ H δ μ _ _ S q fun v H1 x μ1 S1 e1 r1 q1 => b σ H1 δ μ1 _ _ S1 q1 fun lo H2 μ2 S2 e2 q2 => c σ H2 δ μ2 _ _ S2 q2 fun hi H3 μ3 S3 e3 q3 => by
    obtain ⟨ds, hi', hn, q3⟩ := q3
    obtain ⟨p, vs, rfl, h1, h2⟩ := hi'.okL S3.sto ((r1.mono e2).mono e3) hn
    exact ⟨p, vs, rfl, h1, fun o ho => k _ _ _ μ3 (S3.step (.new ho) (S3.sto.new ho)) (((e1.trans e2).trans e3).trans (.new ho)) (rep_lst S3.sto ho (cut_reps h2 lo hi)) q3⟩
/-- xs[::-1], lists -/
def dRevL (φ : DE) : DE := fun Ψ δ μ Φ => φ Ψ δ μ fun x μ1 => ∃ ds, Items μ1 x ds ∧ isTup x = false ∧ Φ (.lst ds.reverse) μ1
abbrev DC := List D → Sto → DK → Prop
def RC (K : Fg) (r : List V → Hp → VK → Prop) (ρ : DC) : Prop := ∀ (H : Hp) (μ : Sto) (vs : List V) (ds : List D) (Φ : DK) (Q : VK), StoOk K μ H → Reps K μ H vs ds → ρ ds μ Φ →
  (∀ z H' c μ', Evo μ H μ' H' → StoOk K μ' H' → Rep K μ' H' z c → Φ c μ' → Q z H') → r vs H Q
def dCB (ρ : DC) (ψ : DA) : DE := fun Ψ δ μ Φ => ψ Ψ δ μ fun xs μ1 => ρ xs μ1 Φ
theorem sCB {B : Bx K} {r : List V → Hp → VK → Prop} {ρ : DC} {tas : TA} {ψ : DA} (h : RC K r ρ) (a : SA B tas ψ) : SE B (tCB r tas) (dCB ρ ψ) := fun σ H δ μ Φ Q S q k =>
  a σ H δ μ _ _ S q fun vs H1 xs μ1 S1 e1 r1 q1 => h H1 μ1 vs xs Φ Q S1.sto r1 q1 fun z H3 c μ3 e3 s3 r3 p => k z H3 c μ3 (S1.step e3 s3) (e1.trans e3) r3 p
theorem reps1 {μ : Sto} {H : Hp} {vs : List V} {d : D} (r : Reps K μ H vs [d]) : ∃ v, vs = [v] ∧ Rep K μ H v d := by
  cases vs with
  | nil => have := r.length; simp at this
  | cons v vs =>
    cases vs with
    | nil => exact ⟨v, rfl, r⟩
    | cons w vs => have := r.length; simp at this
theorem reps2 {μ : Sto} {H : Hp} {vs : List V} {d e : D} (r : Reps K μ H vs [d, e]) : ∃ v w, vs = [v, w] ∧ Rep K μ H v d ∧ Rep K μ H w e := by
  cases vs with
  | nil => have := r.length; simp at this
  | cons v vs =>
    obtain ⟨w, rfl, r2⟩ := reps1 r.split.2
    exact ⟨v, w, rfl, r.split.1, r2⟩
def cLen : DC := fun xs μ Φ => ∃ x ds, xs = [x] ∧ Items μ x ds ∧ Φ (.int ds.length) μ
theorem rcLen : RC K (fun xs H Q => ∃ p ys, xs = [.ref p] ∧ (SqL K H p ys ∨ SqT K H p ys) ∧ Q (.int ys.length) H) cLen := fun H μ vs ds Φ Q s r q k => by
  obtain ⟨x, es, rfl, hi, q⟩ := q
  obtain ⟨v, rfl, r⟩ := reps1 r
  obtain ⟨a, us, rfl, h1, h2⟩ := hi.ok s r
  refine ⟨a, us, rfl, h1, ?_⟩
  rw [h2.length]
  exact k _ H _ μ .refl s (.int _ .nil) q
/-- list(..) of a list or tuple -/
def cList : DC := fun xs μ Φ => ∃ x ds, xs = [x] ∧ Items μ x ds ∧ Φ (.lst ds) μ
theorem rcList : RC K (fun xs H Q => ∃ p ys, xs = [.ref p] ∧ (SqL K H p ys ∨ SqT K H p ys) ∧ ∀ l, H l = none → Q (.ref l) (upd H l (.lst ys))) cList := fun H μ vs ds Φ Q s r q k => by
  obtain ⟨x, es, rfl, hi, q⟩ := q
  obtain ⟨v, rfl, r⟩ := reps1 r
  obtain ⟨a, us, rfl, h1, h2⟩ := hi.ok s r
  exact ⟨a, us, rfl, h1, fun p hp => k _ _ _ μ (.new hp) (s.new hp) (rep_lst s hp h2) q⟩
/-- the same, a handle -/
def cListOwn : DC := fun xs μ Φ => ∃ x ds, xs = [x] ∧ Items μ x ds ∧ ∀ p, μ p = none → Φ (.hd (.ref p)) (sset μ p (.lst ds))
theorem rcListOwn : RC K (fun xs H Q => ∃ p ys, xs = [.ref p] ∧ (SqL K H p ys ∨ SqT K H p ys) ∧ ∀ l, H l = none → Q (.ref l) (upd H l (.lst ys))) cListOwn := fun H μ vs ds Φ Q s r q k => by
  obtain ⟨x, es, rfl, hi, q⟩ := q
  obtain ⟨v, rfl, r⟩ := reps1 r
  obtain ⟨a, us, rfl, h1, h2⟩ := hi.ok s r
  exact ⟨a, us, rfl, h1, fun p hp => k _ _ _ _ (.newC s hp) (sto_own s hp h2) (.hd _ .nil) (q p (s.fresh hp))⟩
def cTuple : DC := fun xs μ Φ => ∃ x ds, xs = [x] ∧ Items μ x ds ∧ Φ (.tup ds) μ
theorem rcTuple : RC K (fun xs H Q => ∃ p ys, xs = [.ref p] ∧ ((SqL K H p ys ∧ NewT H ys Q) ∨ (SqT K H p ys ∧ Q (.ref p) H))) cTuple := fun H μ vs ds Φ Q s r q k => by
  obtain ⟨x, es, rfl, hi, q⟩ := q
  obtain ⟨v, rfl, r⟩ := reps1 r
  cases hi with
  | tup => obtain ⟨a, us, rfl, h1, h2⟩ := Rep.tup_inv r; exact ⟨a, us, rfl, .inr ⟨h1.sq, k _ H _ μ .refl s r q⟩⟩
  | lst => obtain ⟨a, us, rfl, h1, h2⟩ := (Items.lst es).okL s r rfl; exact ⟨a, us, rfl, .inl ⟨h1, fun p o ho hc hp => k _ _ _ μ (.new hp) (s.new hp) (rep_tupN s hp ho hc h2) q⟩⟩
  | own h => obtain ⟨a, us, rfl, h1, h2⟩ := (Items.own h).okL s r rfl; exact ⟨a, us, rfl, .inl ⟨h1, fun p o ho hc hp => k _ _ _ μ (.new hp) (s.new hp) (rep_tupN s hp ho hc h2) q⟩⟩
  | frz h => obtain ⟨a, us, rfl, h1, h2⟩ := (Items.frz h).okL s r rfl; exact ⟨a, us, rfl, .inl ⟨h1, fun p o ho hc hp => k _ _ _ μ (.new hp) (s.new hp) (rep_tupN s hp ho hc h2) q⟩⟩
  | scr ns => obtain ⟨a, us, rfl, h1, h2⟩ := (Items.scr ns).okL s r rfl; exact ⟨a, us, rfl, .inl ⟨h1, fun p o ho hc hp => k _ _ _ μ (.new hp) (s.new hp) (rep_tupN s hp ho hc h2) q⟩⟩
def cInt : DC := fun xs μ Φ => ∃ i, xs = [.int i] ∧ Φ (.int i) μ ∨ ∃ b, xs = [.bl b] ∧ Φ (.int (if b then 1 else 0)) μ
theorem rcInt : RC K (fun xs H Q => (∃ i, xs = [.int i] ∧ Q (.int i) H) ∨ ∃ k, xs = [.bl k] ∧ Q (.int (if k then 1 else 0)) H) cInt := fun H μ vs ds Φ Q s r q k => by
  obtain ⟨i, q⟩ := q
  rcases q with ⟨rfl, q⟩ | ⟨b, rfl, q⟩
  · obtain ⟨v, rfl, r⟩ := reps1 r
    obtain rfl := Rep.int_inv r
    exact .inl ⟨i, rfl, k _ H _ μ .refl s r q⟩
  · obtain ⟨v, rfl, r⟩ := reps1 r
    obtain rfl := Rep.bl_inv r
    exact .inr ⟨b, rfl, k _ H _ μ .refl s (.int _ .nil) q⟩
theorem reps_bls {μ : Sto} {H : Hp} : ∀ {vs : List V} {bs : List Bool}, Reps K μ H vs (bs.map .bl) → vs = bs.map .bl
  | [], [], _ => rfl
  | [], _ :: _, r => by have := r.length; simp at this
  | _ :: _, [], r => by have := r.length; simp at this
  | v :: vs, b :: bs, r => by
    have e := Rep.bl_inv r.split.1
    have ih := reps_bls r.split.2
    rw [e, ih, List.map_cons]
theorem reps_intsV {μ : Sto} {H : Hp} : ∀ {vs : List V} {ns : List Int}, Reps K μ H vs (ns.map .int) → vs = ns.map .int
  | [], [], _ => rfl
  | [], _ :: _, r => by have := r.length; simp at this
  | _ :: _, [], r => by have := r.length; simp at this
  | v :: vs, b :: bs, r => by
    have e := Rep.int_inv r.split.1
    have ih := reps_intsV r.split.2
    rw [e, ih, List.map_cons]
def cAll : DC := fun xs μ Φ => ∃ bs : List Bool, xs = [.lst (bs.map .bl)] ∧ Φ (.bl (bs.all id)) μ
def cAny : DC := fun xs μ Φ => ∃ bs : List Bool, xs = [.lst (bs.map .bl)] ∧ Φ (.bl (bs.any id)) μ
theorem rcAll : RC K (rAll K) cAll := fun H μ vs ds Φ Q s r q k => by
  obtain ⟨bs, rfl, q⟩ := q
  obtain ⟨v, rfl, r⟩ := reps1 r
  obtain ⟨a, us, rfl, h1, h2⟩ := Rep.lst_inv r
  have e := reps_bls h2
  subst e
  exact ⟨a, bs, rfl, h1.sq, k _ H _ μ .refl s (.bl _ .nil) q⟩
def cMin2 : DC := fun xs μ Φ => ∃ i j, xs = [.int i, .int j] ∧ Φ (.int (if j < i then j else i)) μ
def cDivmod : DC := fun xs μ Φ => ∃ i j, xs = [.int i, .int j] ∧ CDivP i j ∧ Φ (.pr [.int (i / j), .int (i % j)]) μ
def tyD : D → Option String
  | .non => some "NoneType"
  | .bl _ => some "bool"
  | .int _ => some "int"
  | .str _ => some "str"
  | .tup _ => some "tuple"
  | .lst _ => some "list"
  | _ => none
theorem tyD_ok {μ : Sto} {H : Hp} {v : V} {d : D} {n : String} (r : Rep K μ H v d) (h : tyD d = some n) : TyX K H v (.type n) := by
  cases d with
  | non => cases h; cases r; exact .base .non
  | bl b => cases h; cases r; exact .base (.bl b)
  | int i => cases h; cases r; exact .base (.int i)
  | str i => cases h; cases r; exact .base (.str i)
  | tup ds =>
    cases h
    obtain ⟨a, vs, rfl, h1, h2⟩ := Rep.tup_inv r
    rcases h1 with ⟨o, h1, _⟩ | ⟨o, its, n, h1, h3, _⟩
    · exact .fTuple h1
    · exact .kTuple h1 h3
  | lst ds =>
    cases h
    obtain ⟨a, vs, rfl, h1, h2⟩ := Rep.lst_inv r
    exact .base (.lst h1.1)
  | obj C ns ds => cases h
  | hd v => cases h
  | scr ns => cases h
  | pr ns => cases h
def instB : D → String → Option Bool
  | .non, "int" => some false | .non, "bool" => some false | .non, "str" => some false | .non, "tuple" => some false | .non, "list" => some false
  | .int _, "int" => some true | .int _, "bool" => some false | .int _, "str" => some false | .int _, "tuple" => some false | .int _, "list" => some false
  | .bl _, "int" => some true | .bl _, "bool" => some true | .bl _, "str" => some false | .bl _, "tuple" => some false | .bl _, "list" => some false
  | .str _, "int" => some false | .str _, "bool" => some false | .str _, "str" => some true | .str _, "tuple" => some false | .str _, "list" => some false
  | .tup _, "int" => some false | .tup _, "bool" => some false | .tup _, "str" => some false | .tup _, "tuple" => some true | .tup _, "list" => some false
  | .lst _, "int" => some false | .lst _, "bool" => some false | .lst _, "str" => some false | .lst _, "tuple" => some false | .lst _, "list" => some true
  | _, _ => none
theorem instB_ok {d : D} {T : String} {b : Bool} (h : instB d T = some b) : ∃ n, tyD d = some n ∧ kitB n T = some b := by
  unfold instB at h
  split at h <;> first | (cases h; done) | (cases h; exact ⟨_, rfl, by decide +kernel⟩)
def cIsi (T : String) : DC := fun xs μ Φ => ∃ x b, xs = [x, .hd (.ty T)] ∧ instB x T = some b ∧ Φ (.bl b) μ
theorem rcIsi {T : String} : RC K (rIsi K) (cIsi T) := fun H μ vs ds Φ Q s r q k => by
  obtain ⟨x, b, rfl, hi, q⟩ := q
  obtain ⟨n, hn, hk⟩ := instB_ok hi
  obtain ⟨v, w, rfl, r1, r2⟩ := reps2 r
  obtain rfl := Rep.hd_inv r2
  exact ⟨v, _, _, _, b, rfl, .ty T, tyD_ok r1 hn, kit_ty hk, k _ H _ μ .refl s (.bl _ .nil) q⟩
def dApp (φa φb : DE) : DE := fun Ψ δ μ Φ => φa Ψ δ μ fun x μ1 => ∃ a ds, x = .hd (.ref a) ∧ μ1 a = some (.lst ds) ∧ φb Ψ δ μ1 fun y μ2 => ∃ es, μ2 a = some (.lst es) ∧ es.length ≤ 100000 ∧ Φ .non (sset μ2 a (.lst (es ++ [y])))
theorem own_upd {μ : Sto} {H : Hp} {a : Addr} {ds es : List D} {us : List V} (s : StoOk K μ H) (h : μ a = some (.lst ds)) (r : Reps K (sset μ a (.lst es)) (upd H a (.lst us)) us es) : Evo μ H (sset μ a (.lst es)) (upd H a (.lst us)) ∧ StoOk K (sset μ a (.lst es)) (upd H a (.lst us)) := by
  have e : Evo μ H (sset μ a (.lst es)) (upd H a (.lst us)) := .cell h fun n => n.notL h
  exact ⟨e, s.cell e ⟨us, upd_same, r⟩⟩
theorem own_evo {μ : Sto} {H : Hp} {a : Addr} {ds es : List D} {us : List V} (h : μ a = some (.lst ds)) : Evo μ H (sset μ a (.lst es)) (upd H a (.lst us)) := .cell h fun n => n.notL h
theorem sApp {B : Bx K} {ta tb : TE} {φa φb : DE} (a : SE B ta φa) (b : SE B tb φb) : SE B (tBM K "list" rAppend ta (tCons tb tNil)) (dApp φa φb) := fun σ H δ μ Φ Q S q k =>
  a σ H δ μ _ _ S q fun v H1 x μ1 S1 e1 r1 q1 => by
    obtain ⟨p, ds, rfl, hp, q1⟩ := q1
    obtain rfl := Rep.hd_inv r1
    obtain ⟨us, h1, h2⟩ := S1.sto _ _ hp
    refine ⟨.inl ⟨rfl, us, .of h1⟩, b σ H1 δ μ1 _ _ S1 q1 fun w H2 y μ2 S2 e2 r2 q2 => ?_⟩
    obtain ⟨es, hp2, hz, q2⟩ := q2
    obtain ⟨ws, h3, h4⟩ := S2.sto _ _ hp2
    refine ⟨p, ws, w, rfl, rfl, h3, Nat.lt_of_le_of_lt (by rw [h4.length]; exact hz) (by decide), ?_⟩
    have e3 : Evo μ2 H2 (sset μ2 p (.lst (es ++ [y]))) (upd H2 p (.lst (ws ++ [w]))) := own_evo hp2
    obtain ⟨e4, s4⟩ := own_upd S2.sto hp2 ((h4.append r2).mono e3)
    exact k _ _ _ _ (S2.step e4 s4) ((e1.trans e2).trans e4) (.non .nil) q2
/-- o[i] = e, o a handle of a list -/
def eSub (φo φi : DE) : XP → D → DEnv → Sto → (DEnv → Sto → Prop) → Prop := fun Ψ d δ μ Φ => φo Ψ δ μ fun x μ1 => φi Ψ δ μ1 fun y μ2 => ∃ a ds i j, x = .hd (.ref a) ∧ y = .int i ∧ μ2 a = some (.lst ds) ∧ ixN ds.length i = some j ∧ Φ δ (sset μ2 a (.lst (ds.set j d)))
theorem sSub {B : Bx K} {ta tb : TE} {φa φb : DE} (a : SE B ta φa) (b : SE B tb φb) : SG B (gSub ta tb rSetL) (eSub φa φb B.Ψ) := fun v d σ H δ μ Φ Q S r q k =>
  a σ H δ μ _ _ S q fun o H1 x μ1 S1 e1 r1 q1 => b σ H1 δ μ1 _ _ S1 q1 fun i H2 y μ2 S2 e2 r2 q2 => by
    obtain ⟨p, ds, i, j, rfl, rfl, hp, hj, q2⟩ := q2
    obtain rfl := Rep.hd_inv r1
    obtain rfl := Rep.int_inv r2
    obtain ⟨us, h1, h2⟩ := S2.sto _ _ hp
    refine ⟨p, us, i, j, rfl, rfl, h1, by rw [h2.length]; exact hj, ?_⟩
    have e3 : Evo μ2 H2 (sset μ2 p (.lst (ds.set j d))) (upd H2 p (.lst (us.set j v))) := own_evo hp
    obtain ⟨e4, s4⟩ := own_upd S2.sto hp ((h2.set ((r.mono e1).mono e2) j).mono e3)
    exact k σ _ δ _ (S2.step e4 s4) ((e1.trans e2).trans e4) q2
def dAsgS (φ φo φi : DE) : DSt := fun Ψ Δ δ μ => φ Ψ δ μ fun x μ1 => eSub φo φi Ψ x δ μ1 Δ.nx
theorem sAsgS {B : Bx K} {te ta tb : TE} {φ φa φb : DE} (e : SE B te φ) (a : SE B ta φa) (b : SE B tb φb) : SS B (tAsg te (gSub ta tb rSetL)) (dAsgS φ φa φb) := fun D Δ σ H δ μ E S q =>
  e σ H δ μ _ _ S q fun v H1 x μ1 S1 e1 r1 q1 => sSub a b v x σ H1 δ μ1 _ _ S1 r1 q1 fun σ2 H2 δ2 μ2 S2 e2 q2 => E.nx σ2 H2 δ2 μ2 S2 q2
end
end DW
set_option Elab.async false
set_option linter.all false
set_option maxRecDepth 100000
namespace DW
open PySem PySem.Spec L2
section
variable {K : Fg} {B : Bx K}
abbrev DI := XP → DEnv → Sto → (List D → Sto → Prop) → Prop
/-- the iterator hands out the items, as long as what stood still stands -/
def IterOk (K : Fg) (μ1 : Sto) (H1 : Hp) (J : It) (xs : List D) : Prop := ∀ (i : Nat) (H : Hp) (μ : Sto), StoOk K μ H → Evo μ1 H1 μ H →
  (i < xs.length → J.go i H ∧ ∀ x H', J.yld i H x H' → ∃ d, xs[i]? = some d ∧ StoOk K μ H' ∧ Evo μ H μ H' ∧ Rep K μ H' x d) ∧ (xs.length ≤ i → J.stop i H)
def SI (B : Bx K) (wi : TI) (ι : DI) : Prop := ∀ (σ : L2.St) (H : Hp) (δ : DEnv) (μ : Sto) (Φ : List D → Sto → Prop) (R : It → Hp → Prop), B.S σ H δ μ → ι B.Ψ δ μ Φ →
  (∀ xs J H' μ', B.S σ H' δ μ' → Evo μ H μ' H' → IterOk K μ' H' J xs → Φ xs μ' → R J H') → wi σ H R
def iSeqT (φ : DE) : DI := fun Ψ δ μ Φ => φ Ψ δ μ fun x μ1 => ∃ ds, x = .tup ds ∧ Φ ds μ1
def iSeqL (φ : DE) : DI := fun Ψ δ μ Φ => φ Ψ δ μ fun x μ1 => ∃ ds, x = .lst ds ∧ Φ ds μ1
theorem siT {te : TE} {φ : DE} (a : SE B te φ) : SI B (iTup K te) (iSeqT φ) := fun σ H δ μ Φ R S q k =>
  a σ H δ μ _ _ S q fun v H1 x μ1 S1 e1 r1 q1 => by
    obtain ⟨ds, rfl, q2⟩ := q1
    obtain ⟨p, vs, rfl, h1, h2⟩ := Rep.tup_inv r1
    refine ⟨p, rfl, ⟨vs, h1.sq⟩, k ds _ H1 μ1 S1 e1 (fun i H2 μ2 s2 e2 => ⟨fun hi => ?_, fun hi => ⟨vs, (h1.mono e2).sq, by rw [h2.length]; exact hi⟩⟩) q2⟩
    have hv : i < vs.length := by rw [h2.length]; exact hi
    refine ⟨⟨vs, vs[i], (h1.mono e2).sq, List.getElem?_eq_getElem hv⟩, fun x H' ⟨eH, hy⟩ => ?_⟩
    subst eH
    obtain ⟨d, hd, rd⟩ := (h2.mono e2).getV (hy vs (h1.mono e2).sq)
    exact ⟨d, hd, s2, .refl, rd⟩
theorem siL {te : TE} {φ : DE} (a : SE B te φ) : SI B (iList K te) (iSeqL φ) := fun σ H δ μ Φ R S q k =>
  a σ H δ μ _ _ S q fun v H1 x μ1 S1 e1 r1 q1 => by
    obtain ⟨ds, rfl, q2⟩ := q1
    obtain ⟨p, vs, rfl, h1, h2⟩ := Rep.lst_inv r1
    refine ⟨p, rfl, ⟨vs, h1.sq⟩, k ds _ H1 μ1 S1 e1 (fun i H2 μ2 s2 e2 => ⟨fun hi => ?_, fun hi => ⟨vs, (h1.mono e2).sq, by rw [h2.length]; exact hi⟩⟩) q2⟩
    have hv : i < vs.length := by rw [h2.length]; exact hi
    refine ⟨⟨vs, vs[i], (h1.mono e2).sq, List.getElem?_eq_getElem hv⟩, fun x H' ⟨eH, hy⟩ => ?_⟩
    subst eH
    obtain ⟨d, hd, rd⟩ := (h2.mono e2).getV (hy vs (h1.mono e2).sq)
    exact ⟨d, hd, s2, .refl, rd⟩
def rngD (lo : Int) (n : Nat) : List D := (List.range n).map fun (i : Nat) => .int (lo + (i : Int))
theorem rngD_len {lo : Int} {n : Nat} : (rngD lo n).length = n := by unfold rngD; rw [List.length_map, List.length_range]
theorem rngD_at {lo : Int} {n i : Nat} (h : i < n) : (rngD lo n)[i]? = some (.int (lo + (i : Int))) := by
  unfold rngD
  rw [List.getElem?_map, List.getElem?_range h]
  rfl
theorem iter_rng {μ : Sto} {H : Hp} {lo : Int} {n : Nat} : IterOk K μ H (Itr lo n) (rngD lo n) := fun i H2 μ2 s2 e2 => by
  rw [rngD_len]
  refine ⟨fun hi => ⟨hi, fun x H' ⟨eH, hy⟩ => ?_⟩, fun hi => hi⟩
  subst eH hy
  exact ⟨_, rngD_at hi, s2, .refl, .int _ .nil⟩
def iR1 (φ : DE) : DI := fun Ψ δ μ Φ => φ Ψ δ μ fun x μ1 => ∃ j, x = .int j ∧ j < 4611686018427387904 ∧ -4611686018427387904 ≤ j ∧ Φ (rngD 0 j.toNat) μ1
theorem siR1 {te : TE} {φ : DE} (a : SE B te φ) : SI B (iRng1 (tCons te tNil)) (iR1 φ) := fun σ H δ μ Φ R S q k =>
  a σ H δ μ _ _ S q fun v H1 x μ1 S1 e1 r1 q1 => by
    obtain ⟨j, rfl, h1, h2, q2⟩ := q1
    obtain rfl := Rep.int_inv r1
    exact ⟨j, rfl, by omega, by omega, k _ _ H1 μ1 S1 e1 iter_rng q2⟩
def iR2 (φ φ' : DE) : DI := fun Ψ δ μ Φ => φ Ψ δ μ fun x μ1 => φ' Ψ δ μ1 fun y μ2 => ∃ i j, x = .int i ∧ y = .int j ∧ (-4611686018427387904 ≤ i ∧ i < 4611686018427387904 ∧ -4611686018427387904 ≤ j ∧ j < 4611686018427387904) ∧ Φ (rngD i (j - i).toNat) μ2
/-- zip of two tuples -/
def iZipT (φ φ' : DE) : DI := fun Ψ δ μ Φ => φ Ψ δ μ fun x μ1 => φ' Ψ δ μ1 fun y μ2 => ∃ xs ys, x = .tup xs ∧ y = .tup ys ∧ Φ ((xs.zip ys).map fun p => .pr [p.1, p.2]) μ2
/-- a text, sign by sign -/
def iText (φ : DE) : DI := fun Ψ δ μ Φ => φ Ψ δ μ fun x μ1 => ∃ s, x = .str s ∧ Φ (s.cps.toList.map fun c => .str ⟨#[c]⟩) μ1
/-- a loop -/
def dFor (ι : DI) (γ : DG) (ω : DSt) : DSt := fun Ψ Δ δ μ => ι Ψ δ μ fun xs μ1 => ∃ W : Nat → DEnv → Sto → Prop, W 0 δ μ1 ∧
  (∀ i d δ' μ', xs[i]? = some d → W i δ' μ' → γ d δ' μ' fun δ2 μ2 => ω Ψ { Δ with nx := W (i + 1), ct := W (i + 1), bk := Δ.nx } δ2 μ2) ∧ ∀ δ' μ', W xs.length δ' μ' → Δ.nx δ' μ'
theorem sFor {wi : TI} {g : TG} {tb : TS} {ι : DI} {γ : DG} {ω : DSt} (a : SI B wi ι) (b : ∀ H1 μ1 e, SG (B.re H1 μ1 e) g γ) (c : ∀ H1 μ1 e, SS (B.re H1 μ1 e) tb ω) : SS B (tFor wi g tb) (dFor ι γ ω) := fun D Δ σ H δ μ E S q =>
  a σ H δ μ _ _ S q fun xs J H1 μ1 S1 e1 it q1 => by
    obtain ⟨W, w0, ws, wd⟩ := q1
    refine ⟨fun i m σ' H' => m = xs.length - i ∧ i ≤ xs.length ∧ ∃ δ' μ', (B.re H1 μ1 S1.evo).S σ' H' δ' μ' ∧ W i δ' μ', ⟨xs.length, by simp, Nat.zero_le _, δ, μ1, ⟨.refl, S1.sto, S1.env⟩, w0⟩, ?_⟩
    rintro i m σ' H' ⟨rfl, hi, δ', μ', S', w⟩
    by_cases hlt : i < xs.length
    · obtain ⟨hgo, hy⟩ := (it i H' μ' S'.sto S'.evo).1 hlt
      refine .inr ⟨hgo, fun σ2 H2 => ∃ δ2 μ2, (B.re H1 μ1 S1.evo).S σ2 H2 δ2 μ2 ∧ W (i + 1) δ2 μ2, fun σ2 H2 ⟨δ2, μ2, S2, w2⟩ => ⟨xs.length - (i + 1), by omega, rfl, by omega, δ2, μ2, S2, w2⟩, fun x H2 y => ?_⟩
      obtain ⟨d, hd, s2, e2, r2⟩ := hy x H2 y
      refine b H1 μ1 S1.evo x d σ' H2 δ' μ' _ _ (S'.step e2 s2) r2 (ws i d δ' μ' hd w) fun σ3 H3 δ3 μ3 S3 e3 q3 => ?_
      exact c H1 μ1 S1.evo _ { Δ with nx := W (i + 1), ct := W (i + 1), bk := Δ.nx } σ3 H3 δ3 μ3 ⟨fun σ4 H4 δ4 μ4 S4 q4 => ⟨δ4, μ4, S4, q4⟩, fun v4 H4 d4 μ4 σ4 δ4 S4 r4 q4 => E.rt v4 H4 d4 μ4 σ4 δ4 ⟨S1.evo.trans S4.evo, S4.sto, S4.env⟩ r4 q4, fun σ4 H4 δ4 μ4 S4 q4 => E.nx σ4 H4 δ4 μ4 ⟨S1.evo.trans S4.evo, S4.sto, S4.env⟩ q4, fun σ4 H4 δ4 μ4 S4 q4 => ⟨δ4, μ4, S4, q4⟩⟩ S3 q3
    · have e : i = xs.length := by omega
      subst e
      exact .inl ⟨(it _ H' μ' S'.sto S'.evo).2 (Nat.le_refl _), E.nx σ' H' δ' μ' ⟨S1.evo.trans S'.evo, S'.sto, S'.env⟩ (wd δ' μ' w)⟩
def dwipe (δ : DEnv) : List Nat → DEnv
  | [] => δ
  | v :: vs => (dwipe δ vs).set v none
theorem EnvOk.unset {μ : Sto} {H : Hp} {σ : L2.St} {δ : DEnv} (h : EnvOk K μ H σ δ) (j : Nat) : EnvOk K μ H (σ.set j none) (δ.set j none) := ⟨by rw [List.length_set, List.length_set]; exact h.len, fun i x q => by
  rw [List.getElem?_set] at q
  by_cases hj : j = i
  · rw [if_pos hj] at q
    split at q <;> cases q
  · rw [if_neg hj] at q
    obtain ⟨v, e, r⟩ := h.at_ i x q
    exact ⟨v, by rw [List.getElem?_set, if_neg hj]; exact e, r⟩⟩
theorem EnvOk.wipe {μ : Sto} {H : Hp} {σ : L2.St} {δ : DEnv} (h : EnvOk K μ H σ δ) : ∀ vs, EnvOk K μ H (L2.wipe σ vs) (dwipe δ vs)
  | [] => h
  | v :: vs => (EnvOk.wipe h vs).unset v
theorem wipe_get (σ : L2.St) : ∀ (vs : List Nat) (i : Nat), (L2.wipe σ vs)[i]? = if i ∈ vs ∧ i < σ.length then some none else σ[i]?
  | [], i => by simp [L2.wipe]
  | v :: vs, i => by
    have ih := wipe_get σ vs i
    show ((L2.wipe σ vs).set v none)[i]? = _
    rw [List.getElem?_set, L2.wipe_length, ih]
    by_cases h : v = i
    · subst h
      rw [if_pos rfl]
      by_cases hl : v < σ.length
      · rw [if_pos hl, if_pos ⟨List.mem_cons_self, hl⟩]
      · rw [if_neg hl, if_neg fun z => hl z.2, List.getElem?_eq_none (by omega)]
    · rw [if_neg h]
      have : (i ∈ v :: vs ∧ i < σ.length) ↔ (i ∈ vs ∧ i < σ.length) := by
        constructor
        · rintro ⟨a, b⟩
          rcases List.mem_cons.mp a with e | e
          · exact absurd e.symm h
          · exact ⟨e, b⟩
        · rintro ⟨a, b⟩
          exact ⟨List.mem_cons_of_mem _ a, b⟩
      simp only [this]
theorem wipe_set {σ : L2.St} {vs : List Nat} {j : Nat} {x : Option V} (h : j ∈ vs) : L2.wipe (σ.set j x) vs = L2.wipe σ vs := by
  apply List.ext_getElem?
  intro i
  rw [wipe_get, wipe_get, List.length_set, List.getElem?_set]
  by_cases hi : i ∈ vs ∧ i < σ.length
  · rw [if_pos hi, if_pos hi]
  · rw [if_neg hi, if_neg hi]
    by_cases e : j = i
    · subst e
      rw [if_pos rfl, if_neg (fun z => hi ⟨h, z⟩), List.getElem?_eq_none (Nat.le_of_not_lt fun z => hi ⟨h, z⟩)]
    · rw [if_neg e]
theorem wipe_wipe {σ : L2.St} {vs : List Nat} : L2.wipe (L2.wipe σ vs) vs = L2.wipe σ vs := by
  apply List.ext_getElem?
  intro i
  rw [wipe_get, L2.wipe_length, wipe_get]
  split <;> rfl
/-- a target stores nothing but own names -/
def GW (vs : List Nat) (g : TG) : Prop := ∀ (v : V) (σ W : L2.St) (H : Hp) (Q : L2.St → Hp → Prop), L2.wipe σ vs = W → g v σ H Q → g v σ H fun σ2 H2 => L2.wipe σ2 vs = W ∧ Q σ2 H2
theorem gwName {vs : List Nat} {j : Nat} (h : j ∈ vs) : GW vs (gName j) := fun v σ W H Q e q => ⟨by rw [wipe_set h]; exact e, q⟩
def dLc (ι : DI) (γ : DG) (θ : DT) (φ : DE) (vs : List Nat) : DE := fun Ψ δ μ Φ => ι Ψ δ μ fun xs μ1 => ∀ p, μ1 p = none → ∃ W : Nat → Sto → Prop, W 0 (sset μ1 p (.lst [])) ∧
  (∀ i d μ2, xs[i]? = some d → W i μ2 → γ d (dwipe δ vs) μ2 fun δ3 μ3 => θ Ψ δ3 μ3 fun b μ4 =>
    (b = true → φ Ψ δ3 μ4 fun y μ5 => ∃ acc, μ5 p = some (.lst acc) ∧ acc.length ≤ 100000 ∧ W (i + 1) (sset μ5 p (.lst (acc ++ [y])))) ∧ (b = false → W (i + 1) μ4)) ∧
  ∀ μ2, W xs.length μ2 → ∃ acc, μ2 p = some (.lst acc) ∧ Φ (.lst acc) (sdel μ2 p)
theorem sLc {wi : TI} {g : TG} {tt : TT} {te : TE} {vs : List Nat} {ι : DI} {γ : DG} {θ : DT} {φ : DE} (a : SI B wi ι) (w : GW vs g) (b : ∀ H1 μ1 e, SG (B.re H1 μ1 e) g γ) (c : ∀ H1 μ1 e, ST (B.re H1 μ1 e) tt θ) (d : ∀ H1 μ1 e, SE (B.re H1 μ1 e) te φ) :
    SE B (tLc wi g tt te vs) (dLc ι γ θ φ vs) := fun σ H δ μ Φ Q S q k =>
  a σ H δ μ _ _ S q fun xs J H1 μ1 S1 e1 it q1 => fun p hp => by
    have hμp : μ1 p = none := S1.sto.fresh hp
    obtain ⟨W, w0, ws, wd⟩ := q1 p hμp
    refine ⟨fun i m H' => m = xs.length - i ∧ i ≤ xs.length ∧ ∃ μ', Evo μ1 H1 μ' H' ∧ StoOk K μ' H' ∧ W i μ', ⟨xs.length, by simp, Nat.zero_le _, _, .newC S1.sto hp, sto_own S1.sto hp .nil, w0⟩, ?_⟩
    rintro i m H' ⟨rfl, hi, μ', e', s', wi'⟩
    by_cases hlt : i < xs.length
    · obtain ⟨hgo, hy⟩ := (it i H' μ' s' e').1 hlt
      refine .inr ⟨hgo, fun H2 => ∃ μ2, Evo μ1 H1 μ2 H2 ∧ StoOk K μ2 H2 ∧ W (i + 1) μ2, fun H2 ⟨μ2, e2, s2, w2⟩ => ⟨xs.length - (i + 1), by omega, rfl, by omega, μ2, e2, s2, w2⟩, fun x H2 y => ?_⟩
      obtain ⟨dd, hd, s2, e2, r2⟩ := hy x H2 y
      have S2 : (B.re H1 μ1 S1.evo).S (L2.wipe σ vs) H2 (dwipe δ vs) μ' := ⟨e'.trans e2, s2, ((S1.env.mono e').mono e2).wipe vs⟩
      refine w x (L2.wipe σ vs) (L2.wipe σ vs) H2 _ wipe_wipe ?_
      refine b H1 μ1 S1.evo x dd (L2.wipe σ vs) H2 (dwipe δ vs) μ' _ _ S2 r2 (ws i dd μ' hd wi') fun σ3 H3 δ3 μ3 S3 e3 q3 => ?_
      refine c H1 μ1 S1.evo σ3 H3 δ3 μ3 _ _ S3 q3 fun b4 H4 μ4 S4 e4 q4 => ?_
      cases b4 with
      | true =>
        rw [if_pos rfl]
        refine d H1 μ1 S1.evo σ3 H4 δ3 μ4 _ _ S4 (q4.1 rfl) fun v5 H5 y5 μ5 S5 e5 r5 q5 => ?_
        obtain ⟨acc, hacc, hz, w5⟩ := q5
        obtain ⟨us, h5, hr5⟩ := S5.sto _ _ hacc
        have e6 : Evo μ5 H5 (sset μ5 p (.lst (acc ++ [y5]))) (upd H5 p (.lst (us ++ [v5]))) := own_evo hacc
        obtain ⟨e7, s7⟩ := own_upd S5.sto hacc ((hr5.append r5).mono e6)
        exact ⟨us, h5, Nat.lt_of_le_of_lt (by rw [hr5.length]; exact hz) (by decide), _, S5.evo.trans e7, s7, w5⟩
      | false =>
        rw [if_neg Bool.false_ne_true]
        exact ⟨μ4, S4.evo, S4.sto, q4.2 rfl⟩
    · have e : i = xs.length := by omega
      subst e
      obtain ⟨acc, hacc, q2⟩ := wd μ' wi'
      obtain ⟨us, h5, hr5⟩ := s' _ _ hacc
      refine .inl ⟨(it _ H' μ' s' e').2 (Nat.le_refl _), ?_⟩
      have e8 : Evo μ1 H1 (sdel μ' p) H' := e'.trans sdel_sub.evo
      exact k (.ref p) H' (.lst acc) (sdel μ' p) (S1.step e8 (sdel_sub.sto s')) (e1.trans e8) (.lst ⟨h5, .of sdel_same⟩ (hr5.mono sdel_sub.evo) .nil) q2
def dYes : DT := fun _ _ μ Φ => Φ true μ
theorem sYes : ST B tYes dYes := fun σ H δ μ Φ Q S q k => k true H μ S .refl q
abbrev Con := List D → Sto → DK → (XD → Sto → Prop) → Prop
def spOf (K : Fg) (c : Con) : Sp := fun vs H Q E => ∃ μ ds Φ Ψ, StoOk K μ H ∧ Reps K μ H vs ds ∧ c ds μ Φ Ψ ∧
  (∀ v H' d μ', Evo μ H μ' H' → StoOk K μ' H' → Rep K μ' H' v d → Φ d μ' → Q v H') ∧
  ∀ cls dd H' x μ', Evo μ H μ' H' → StoOk K μ' H' → RepX K μ' H' cls dd x → Ψ x μ' → E cls dd H'
/-- a call that raises nothing -/
def dCall (c : Con) (ψ : DA) : DE := fun Ψ δ μ Φ => ψ Ψ δ μ fun xs μ1 => c xs μ1 Φ fun _ _ => False
theorem sCall {c : Con} {tas : TA} {ψ : DA} (a : SA B tas ψ) : SE B (tCall (spOf K c) [] E0 tas) (dCall c ψ) := fun σ H δ μ Φ Q S q k =>
  a σ H δ μ _ _ S q fun vs H1 xs μ1 S1 e1 r1 q1 => by
    rw [List.append_nil]
    exact ⟨μ1, xs, Φ, fun _ _ => False, S1.sto, r1, q1, fun v H2 d μ2 e2 s2 r2 q2 => k v H2 d μ2 (S1.step e2 s2) (e1.trans e2) r2 q2, fun _ _ _ _ _ _ _ _ z => z⟩
/-- a call that may raise -/
def dCallS (c : Con) (ψ : DA) : DE := fun Ψ δ μ Φ => ψ Ψ δ μ fun xs μ1 => c xs μ1 Φ fun x μ2 => Ψ x δ μ2
theorem sCallS {c : Con} {tas : TA} {ψ : DA} (a : SA B tas ψ) : SE B (tCallS (spOf K c) (WE B.W) tas) (dCallS c ψ) := fun σ H δ μ Φ Q S q k =>
  a σ H δ μ _ _ S q fun vs H1 xs μ1 S1 e1 r1 q1 =>
    ⟨μ1, xs, Φ, fun x μ2 => B.Ψ x δ μ2, S1.sto, r1, q1, fun v H2 d μ2 e2 s2 r2 q2 => k v H2 d μ2 (S1.step e2 s2) (e1.trans e2) r2 q2, fun cls dd H2 x μ2 e2 s2 r2 q2 => B.hW cls dd σ H2 x δ μ2 (S1.step e2 s2) r2 q2⟩
/-- raise C('..'), a class without own fields -/
def dRaise0 (C : Addr) : DSt := fun Ψ _ δ μ => Ψ (.mk C none) δ μ
theorem sRaise0 {C : Addr} : SS B (fun _ σ H => (fun (_ : L2.St) (H : Hp) (Q : XK) => Q (.ref C) none H) σ H fun cls d H' => B.W cls d σ H') (dRaise0 C) := fun D Δ σ H δ μ E S q => B.hW _ _ σ H (.mk C none) δ μ S ⟨rfl, rfl⟩ q
def dstart (N : List Str) (ds : List D) : DEnv := ds.map some ++ List.replicate (N.length - ds.length) none
theorem env_start {μ : Sto} {H : Hp} {N : List Str} {vs : List V} {ds : List D} (r : Reps K μ H vs ds) : EnvOk K μ H (L2.start N vs) (dstart N ds) := by
  have hl := r.length
  refine ⟨by unfold L2.start dstart; simp [hl], fun i d q => ?_⟩
  unfold dstart at q
  unfold L2.start
  by_cases h : i < ds.length
  · rw [List.getElem?_append_left (by simpa using h), List.getElem?_map] at q
    cases e : ds[i]? with
    | none => rw [e] at q; cases q
    | some y =>
      rw [e] at q
      cases q
      obtain ⟨v, ev, rv⟩ := r.get e
      exact ⟨v, by rw [List.getElem?_append_left (by simpa [hl] using h), List.getElem?_map, ev]; rfl, rv⟩
  · rw [List.getElem?_append_right (by simpa using h), List.getElem?_replicate] at q
    split at q <;> cases q
/-- what a def's body must bring about -/
abbrev goalE (Φ : DK) : DEnds := ⟨fun _ μ' => ∃ μ2, Sub μ2 μ' ∧ Φ .non μ2, fun d μ' => ∃ μ2, Sub μ2 μ' ∧ Φ d μ2, fun _ _ => False, fun _ _ => False⟩
abbrev goalX (Ψ : XD → Sto → Prop) : XP := fun x _ μ' => ∃ μ2, Sub μ2 μ' ∧ Ψ x μ2
theorem RepX.mono {μ μ' : Sto} {H H' : Hp} {cls : Value} {dd : Option Addr} {x : XD} (e : Evo μ H μ' H') (h : RepX K μ H cls dd x) : RepX K μ' H' cls dd x := by
  obtain ⟨C, fs⟩ := x
  cases fs with
  | none => exact h
  | some f =>
    obtain ⟨ns, ds⟩ := f
    obtain ⟨h1, d, us, h2, h3, h4, h5, h6⟩ := h
    exact ⟨h1, d, us, h2, (e.st _ _ h3 h4).1, (e.st _ _ h3 h4).2, h5, h6.mono e⟩
end
end DW
set_option Elab.async false
set_option linter.all false
set_option maxRecDepth 100000
namespace DW
open PySem PySem.Spec L2
section
variable {α : Type} {μ μ' : Sto} {Φ : DK} {i j : Int} {x y : D} {xs ys ds : List D} {δ : DEnv} {Ψ : XP} {Δ : DEnds} {b : Bool} {s t : Str}
theorem ex_some {a : α} {P : α → Prop} : (∃ d, some (some a) = some (some d) ∧ P d) = P a := propext ⟨fun ⟨d, e, p⟩ => by cases e; exact p, fun p => ⟨a, rfl, p⟩⟩
theorem w_I0 {g : Int → Int → D} : oI0 g (.int i) (.int j) μ Φ = Φ (g i j) μ := propext ⟨fun ⟨a, b, e1, e2, q⟩ => by cases e1; cases e2; exact q, fun q => ⟨i, j, rfl, rfl, q⟩⟩
theorem w_I {C : Int → Int → Prop} {g : Int → Int → D} : oI C g (.int i) (.int j) μ Φ = (C i j ∧ Φ (g i j) μ) := propext ⟨fun ⟨a, b, e1, e2, q⟩ => by cases e1; cases e2; exact q, fun q => ⟨i, j, rfl, rfl, q⟩⟩
theorem w_uI {g : Int → Int} : uI g (.int i) μ Φ = Φ (.int (g i)) μ := propext ⟨fun ⟨a, e1, q⟩ => by cases e1; exact q, fun q => ⟨i, rfl, q⟩⟩
theorem w_int : cInt [.int i] μ Φ = Φ (.int i) μ := propext (Iff.intro (by
  rintro ⟨a, q⟩
  rcases q with ⟨e, q⟩ | ⟨_, e, q⟩
  · cases e; exact q
  · cases e) (fun q => ⟨i, .inl ⟨rfl, q⟩⟩))
theorem w_bl {P : Bool → Prop} : (∃ c, D.bl b = .bl c ∧ P c) = P b := propext ⟨fun ⟨c, e, q⟩ => by cases e; exact q, fun q => ⟨b, rfl, q⟩⟩
theorem w_isi {T : String} : cIsi T [x, .hd (.ty T)] μ Φ = ∃ b, instB x T = some b ∧ Φ (.bl b) μ := propext ⟨fun ⟨y, b, e, q⟩ => by cases e; exact ⟨b, q⟩, fun ⟨b, q⟩ => ⟨x, b, rfl, q⟩⟩
theorem w_someb {P : Bool → Prop} : (∃ c, some b = some c ∧ P c) = P b := propext ⟨fun ⟨c, e, q⟩ => by cases e; exact q, fun q => ⟨b, rfl, q⟩⟩
theorem w_eqI : oEq (.int i) (.int j) μ Φ = Φ (.bl (decide (i = j))) μ := w_someb
theorem w_neI : oNe (.int i) (.int j) μ Φ = Φ (.bl (!decide (i = j))) μ := w_someb
theorem w_eqS : oEq (.str s) (.str t) μ Φ = Φ (.bl (decide (s = t))) μ := w_someb
theorem w_neS : oNe (.str s) (.str t) μ Φ = Φ (.bl (!decide (s = t))) μ := w_someb
theorem w_lenT : cLen [.tup ds] μ Φ = Φ (.int ds.length) μ := propext ⟨fun ⟨x, es, e, h, q⟩ => by cases e; cases h; exact q, fun q => ⟨_, _, rfl, .tup ds, q⟩⟩
theorem w_lenL : cLen [.lst ds] μ Φ = Φ (.int ds.length) μ := propext ⟨fun ⟨x, es, e, h, q⟩ => by cases e; cases h; exact q, fun q => ⟨_, _, rfl, .lst ds, q⟩⟩
theorem w_lenS {ns : List Int} : cLen [.scr ns] μ Φ = Φ (.int ns.length) μ := propext ⟨fun ⟨x, es, e, h, q⟩ => by cases e; cases h; rw [List.length_map] at q; exact q, fun q => ⟨_, _, rfl, .scr ns, by rw [List.length_map]; exact q⟩⟩
theorem w_tupL : cTuple [.lst ds] μ Φ = Φ (.tup ds) μ := propext ⟨fun ⟨x, es, e, h, q⟩ => by cases e; cases h; exact q, fun q => ⟨_, _, rfl, .lst ds, q⟩⟩
theorem w_tupT : cTuple [.tup ds] μ Φ = Φ (.tup ds) μ := propext ⟨fun ⟨x, es, e, h, q⟩ => by cases e; cases h; exact q, fun q => ⟨_, _, rfl, .tup ds, q⟩⟩
theorem w_ixT : oIxT (.tup ds) (.int i) μ Φ = ∃ d, atI ds i = some d ∧ Φ d μ := propext ⟨fun ⟨x, es, d, e1, e2, q⟩ => by cases e1; cases e2; exact ⟨d, q⟩, fun ⟨d, q⟩ => ⟨_, _, d, rfl, rfl, q⟩⟩
theorem w_ixL : oIxL (.lst ds) (.int i) μ Φ = ∃ d, atI ds i = some d ∧ Φ d μ := propext ⟨fun ⟨x, es, d, e1, _, e2, q⟩ => by cases e1; cases e2; exact ⟨d, q⟩, fun ⟨d, q⟩ => ⟨_, _, d, .lst ds, rfl, rfl, q⟩⟩
theorem w_ixS {ns : List Int} : oIxL (.scr ns) (.int i) μ Φ = ∃ d, atI (ns.map D.int) i = some d ∧ Φ d μ := propext ⟨fun ⟨x, es, d, e1, _, e2, q⟩ => by cases e1; cases e2; exact ⟨d, q⟩, fun ⟨d, q⟩ => ⟨_, _, d, .scr ns, rfl, rfl, q⟩⟩
theorem w_catT : oCatT (.tup xs) (.tup ys) μ Φ = (xs.length + ys.length ≤ 100000 ∧ Φ (.tup (xs ++ ys)) μ) := propext ⟨fun ⟨x, es, e1, e2, q⟩ => by cases e1; cases e2; exact q, fun q => ⟨_, _, rfl, rfl, q⟩⟩
theorem w_catL : oCatL (.lst xs) (.lst ys) μ Φ = (xs.length + ys.length ≤ 100000 ∧ Φ (.lst (xs ++ ys)) μ) := propext ⟨fun ⟨x, es, e1, e2, q⟩ => by cases e1; cases e2; exact q, fun q => ⟨_, _, rfl, rfl, q⟩⟩
theorem w_all {bs : List Bool} : cAll [.lst (bs.map .bl)] μ Φ = Φ (.bl (bs.all id)) μ := propext (Iff.intro (by
  rintro ⟨cs, e, q⟩
  have e2 : bs = cs := by
    injection e with e _
    injection e with e
    exact (List.map_inj_right (fun _ _ z => by cases z; rfl)).mp e
  subst e2
  exact q) (fun q => ⟨bs, rfl, q⟩))
theorem w_any {bs : List Bool} : cAny [.lst (bs.map .bl)] μ Φ = Φ (.bl (bs.any id)) μ := propext (Iff.intro (by
  rintro ⟨cs, e, q⟩
  have e2 : bs = cs := by
    injection e with e _
    injection e with e
    exact (List.map_inj_right (fun _ _ z => by cases z; rfl)).mp e
  subst e2
  exact q) (fun q => ⟨bs, rfl, q⟩))
theorem w_min2 : cMin2 [.int i, .int j] μ Φ = Φ (.int (if j < i then j else i)) μ := propext ⟨fun ⟨a, b, e, q⟩ => by cases e; exact q, fun q => ⟨_, _, rfl, q⟩⟩
theorem w_divmod : cDivmod [.int i, .int j] μ Φ = (CDivP i j ∧ Φ (.pr [.int (i / j), .int (i % j)]) μ) := propext ⟨fun ⟨a, b, e, q⟩ => by cases e; exact q, fun q => ⟨_, _, rfl, q⟩⟩
theorem w_listS {ns : List Int} : cList [.scr ns] μ Φ = Φ (.lst (ns.map .int)) μ := propext ⟨fun ⟨x, es, e, h, q⟩ => by cases e; cases h; exact q, fun q => ⟨_, _, rfl, .scr ns, q⟩⟩
theorem w_listL : cList [.lst ds] μ Φ = Φ (.lst ds) μ := propext ⟨fun ⟨x, es, e, h, q⟩ => by cases e; cases h; exact q, fun q => ⟨_, _, rfl, .lst ds, q⟩⟩
theorem w_listT : cList [.tup ds] μ Φ = Φ (.lst ds) μ := propext ⟨fun ⟨x, es, e, h, q⟩ => by cases e; cases h; exact q, fun q => ⟨_, _, rfl, .tup ds, q⟩⟩
theorem w_isN {x : D} : oIsN x .non μ Φ = ∃ b, isNone x = some b ∧ Φ (.bl b) μ := propext ⟨fun ⟨_, q⟩ => q, fun q => ⟨rfl, q⟩⟩
theorem w_notN {x : D} : oNotN x .non μ Φ = ∃ b, isNone x = some b ∧ Φ (.bl (!b)) μ := propext ⟨fun ⟨_, q⟩ => q, fun q => ⟨rfl, q⟩⟩
section
variable {φ φa φb φc : DE} {γ : DG} {ω ζ : DSt} {θ ϑ : DT} {ψ : DA} {ρ ρ' : DO} {σ : DU} {κ : DC} {c : Con} {n : Nat} {C : Addr} {d : D} {Th : Bool → Sto → Prop} {Ls : List D → Sto → Prop} {Pn : DEnv → Sto → Prop} {η : List D → DEnv → Sto → (DEnv → Sto → Prop) → Prop} {ol oh : XP → DEnv → Sto → (Option Int → Sto → Prop) → Prop} {Xo : Option Int → Sto → Prop}
theorem u_seq : dSeq ω ζ Ψ Δ δ μ = ω Ψ { Δ with nx := ζ Ψ Δ } δ μ := rfl
theorem u_asg : dAsg φ γ Ψ Δ δ μ = φ Ψ δ μ fun x μ1 => γ x δ μ1 Δ.nx := rfl
theorem u_asgS : dAsgS φ φa φb Ψ Δ δ μ = φ Ψ δ μ fun x μ1 => eSub φa φb Ψ x δ μ1 Δ.nx := rfl
theorem u_ret : dRet φ Ψ Δ δ μ = φ Ψ δ μ Δ.rt := rfl
theorem u_retN : dRetN Ψ Δ δ μ = Δ.rt .non μ := rfl
theorem u_if : dIfS θ ω ζ Ψ Δ δ μ = θ Ψ δ μ fun b μ1 => (b = true → ω Ψ Δ δ μ1) ∧ (b = false → ζ Ψ Δ δ μ1) := rfl
theorem u_next : dNext Ψ Δ δ μ = Δ.nx δ μ := rfl
theorem u_break : dBreak Ψ Δ δ μ = Δ.bk δ μ := rfl
theorem u_cont : dCont Ψ Δ δ μ = Δ.ct δ μ := rfl
theorem u_drop : dDrop φ Ψ Δ δ μ = φ Ψ δ μ fun _ μ1 => Δ.nx δ μ1 := rfl
theorem u_raise : dRaise0 C Ψ Δ δ μ = Ψ (.mk C none) δ μ := rfl
theorem u_aug : dAug n φ ρ Ψ Δ δ μ = ∃ x, δ[n]? = some (some x) ∧ φ Ψ δ μ fun y μ1 => ρ x y μ1 fun z μ2 => Δ.nx (δ.set n (some z)) μ2 := rfl
theorem u_var : dVar n Ψ δ μ Φ = ∃ d, δ[n]? = some (some d) ∧ Φ d μ := rfl
theorem u_rest : dRest n Ψ δ μ Φ = ∃ a ds, δ[n]? = some (some (.hd (.ref a))) ∧ μ a = some (.lst ds) ∧ Φ (.lst ds) (sset μ a (.frz ds)) := rfl
theorem u_c : dC d Ψ δ μ Φ = Φ d μ := rfl
theorem u_op : dOp ρ φa φb Ψ δ μ Φ = φa Ψ δ μ fun x μ1 => φb Ψ δ μ1 fun y μ2 => ρ x y μ2 Φ := rfl
theorem u_un : dUn σ φa Ψ δ μ Φ = φa Ψ δ μ fun x μ1 => σ x μ1 Φ := rfl
theorem u_test : dTest φ Ψ δ μ Th = φ Ψ δ μ fun x μ1 => ∃ b, x = .bl b ∧ Th b μ1 := rfl
theorem u_and : dAnd θ ϑ Ψ δ μ Th = θ Ψ δ μ fun b μ1 => (b = true → ϑ Ψ δ μ1 Th) ∧ (b = false → Th false μ1) := rfl
theorem u_or : dOr θ ϑ Ψ δ μ Th = θ Ψ δ μ fun b μ1 => (b = true → Th true μ1) ∧ (b = false → ϑ Ψ δ μ1 Th) := rfl
theorem u_not : dNot θ Ψ δ μ Th = θ Ψ δ μ fun b μ1 => Th (!b) μ1 := rfl
theorem u_yes : dYes Ψ δ μ Th = Th true μ := rfl
theorem u_andV : dAndV φa φb Ψ δ μ Φ = φa Ψ δ μ fun x μ1 => ∃ b, x = .bl b ∧ (b = true → φb Ψ δ μ1 Φ) ∧ (b = false → Φ (.bl false) μ1) := rfl
theorem u_orV : dOrV φa φb Ψ δ μ Φ = φa Ψ δ μ fun x μ1 => ∃ b, x = .bl b ∧ (b = true → Φ (.bl true) μ1) ∧ (b = false → φb Ψ δ μ1 Φ) := rfl
theorem u_notV : dNotV φa Ψ δ μ Φ = φa Ψ δ μ fun x μ1 => ∃ b, x = .bl b ∧ Φ (.bl (!b)) μ1 := rfl
theorem u_ifE : dIf θ φa φb Ψ δ μ Φ = θ Ψ δ μ fun b μ1 => (b = true → φa Ψ δ μ1 Φ) ∧ (b = false → φb Ψ δ μ1 Φ) := rfl
theorem u_chain : dChain ρ ρ' φa φb φc Ψ δ μ Φ = φa Ψ δ μ fun x μ1 => φb Ψ δ μ1 fun y μ2 => ρ x y μ2 fun z μ3 => ∃ b, z = .bl b ∧ (b = true → φc Ψ δ μ3 fun u μ4 => ρ' y u μ4 Φ) ∧ (b = false → Φ (.bl false) μ3) := rfl
theorem u_nil : dNil Ψ δ μ Ls = Ls [] μ := rfl
theorem u_cons : dCons φ ψ Ψ δ μ Ls = φ Ψ δ μ fun x μ1 => ψ Ψ δ μ1 fun xs μ2 => Ls (x :: xs) μ2 := rfl
theorem u_tup : dTup ψ Ψ δ μ Φ = ψ Ψ δ μ fun xs μ1 => xs.length ≤ 100000 ∧ Φ (.tup xs) μ1 := rfl
theorem u_lst : dLst ψ Ψ δ μ Φ = ψ Ψ δ μ fun xs μ1 => xs.length ≤ 100000 ∧ Φ (.lst xs) μ1 := rfl
theorem u_own : dOwn ψ Ψ δ μ Φ = ψ Ψ δ μ fun xs μ1 => xs.length ≤ 100000 ∧ ∀ p, μ1 p = none → Φ (.hd (.ref p)) (sset μ1 p (.lst xs)) := rfl
theorem u_cb : dCB κ ψ Ψ δ μ Φ = ψ Ψ δ μ fun xs μ1 => κ xs μ1 Φ := rfl
theorem u_call : dCall c ψ Ψ δ μ Φ = ψ Ψ δ μ fun xs μ1 => c xs μ1 Φ fun _ _ => False := rfl
theorem u_callS : dCallS c ψ Ψ δ μ Φ = ψ Ψ δ μ fun xs μ1 => c xs μ1 Φ fun x μ2 => Ψ x δ μ2 := rfl
theorem u_name : eName n d δ μ Pn = Pn (δ.set n (some d)) μ := rfl
theorem u_etup : eTup n η d δ μ Pn = ∃ ds, tpl d = some ds ∧ ds.length = n ∧ η ds δ μ Pn := rfl
theorem w_tplT {P : List D → Prop} : (∃ es, tpl (.tup ds) = some es ∧ P es) = P ds := propext ⟨fun ⟨c, e, q⟩ => by cases e; exact q, fun q => ⟨ds, rfl, q⟩⟩
theorem w_tplP {P : List D → Prop} : (∃ es, tpl (.pr ds) = some es ∧ P es) = P ds := propext ⟨fun ⟨c, e, q⟩ => by cases e; exact q, fun q => ⟨ds, rfl, q⟩⟩
theorem u_enil : eNil xs δ μ Pn = (xs = [] ∧ Pn δ μ) := rfl
theorem u_econs : eCons γ η xs δ μ Pn = ∃ d r, xs = d :: r ∧ γ d δ μ fun δ' μ' => η r δ' μ' Pn := rfl
theorem u_sub : eSub φa φb Ψ d δ μ Pn = φa Ψ δ μ fun x μ1 => φb Ψ δ μ1 fun y μ2 => ∃ a ds i j, x = .hd (.ref a) ∧ y = .int i ∧ μ2 a = some (.lst ds) ∧ ixN ds.length i = some j ∧ Pn δ (sset μ2 a (.lst (ds.set j d))) := rfl
theorem u_app : dApp φa φb Ψ δ μ Φ = φa Ψ δ μ fun x μ1 => ∃ a ds, x = .hd (.ref a) ∧ μ1 a = some (.lst ds) ∧ φb Ψ δ μ1 fun y μ2 => ∃ es, μ2 a = some (.lst es) ∧ es.length ≤ 100000 ∧ Φ .non (sset μ2 a (.lst (es ++ [y]))) := rfl
theorem u_slT : dSlT φ ol oh Ψ δ μ Φ = φ Ψ δ μ fun x μ1 => ol Ψ δ μ1 fun lo μ2 => oh Ψ δ μ2 fun hi μ3 => ∃ ds, x = .tup ds ∧ Φ (.tup (cutD ds lo hi)) μ3 := rfl
theorem u_slL : dSlL φ ol oh Ψ δ μ Φ = φ Ψ δ μ fun x μ1 => ol Ψ δ μ1 fun lo μ2 => oh Ψ δ μ2 fun hi μ3 => ∃ ds, Items μ3 x ds ∧ isTup x = false ∧ Φ (.lst (cutD ds lo hi)) μ3 := rfl
theorem u_noPart : dNoPart Ψ δ μ Xo = Xo none μ := rfl
theorem u_part : dPart φ Ψ δ μ Xo = φ Ψ δ μ fun x μ1 => ∃ i, x = .int i ∧ Xo (some i) μ1 := rfl
theorem u_revL : dRevL φ Ψ δ μ Φ = φ Ψ δ μ fun x μ1 => ∃ ds, Items μ1 x ds ∧ isTup x = false ∧ Φ (.lst ds.reverse) μ1 := rfl
end
theorem w_tupE {P : List D → Prop} : (∃ es, D.tup ds = .tup es ∧ P es) = P ds := propext ⟨fun ⟨c, e, q⟩ => by cases e; exact q, fun q => ⟨ds, rfl, q⟩⟩
theorem w_intE {P : Int → Prop} : (∃ j, D.int i = .int j ∧ P j) = P i := propext ⟨fun ⟨c, e, q⟩ => by cases e; exact q, fun q => ⟨i, rfl, q⟩⟩
theorem w_consE {P : D → List D → Prop} : (∃ d r, x :: xs = d :: r ∧ P d r) = P x xs := propext ⟨fun ⟨c, r, e, q⟩ => by cases e; exact q, fun q => ⟨x, xs, rfl, q⟩⟩
theorem w_hdE {a : Addr} {P : Addr → List D → Prop} : (∃ b es, D.hd (.ref a) = .hd (.ref b) ∧ P b es) = ∃ es, P a es := propext ⟨fun ⟨b, es, e, q⟩ => by cases e; exact ⟨es, q⟩, fun ⟨es, q⟩ => ⟨a, es, rfl, q⟩⟩
theorem w_cell {a : Addr} {P : List D → Prop} (h : μ a = some (.lst ds)) : (∃ es, μ a = some (.lst es) ∧ P es) = P ds := propext ⟨fun ⟨es, e, q⟩ => by rw [h] at e; cases e; exact q, fun q => ⟨ds, h, q⟩⟩
theorem w_cellS {a : Addr} {P : List D → Prop} : (∃ es, sset μ a (.lst ds) a = some (.lst es) ∧ P es) = P ds := w_cell sset_same
theorem w_set {a : Addr} {P' : Addr → List D → Nat → Prop} : (∃ b es k j, D.hd (.ref a) = .hd (.ref b) ∧ D.int i = .int k ∧ μ b = some (.lst es) ∧ ixN es.length k = some j ∧ P' b es j) = (∃ es, μ a = some (.lst es) ∧ ∃ j, ixN es.length i = some j ∧ P' a es j) := propext ⟨fun ⟨b, es, k, j, e1, e2, q1, q2⟩ => by cases e1; cases e2; exact ⟨es, q1, j, q2⟩, fun ⟨es, q1, j, q2⟩ => ⟨a, es, i, j, rfl, rfl, q1, q2⟩⟩
theorem at0 {P : D → Prop} {x0 : D} : (∃ d, atI (x0 :: xs) 0 = some d ∧ P d) = P x0 := propext ⟨fun ⟨d, e, q⟩ => by rw [show (0 : Int) = ((0 : Nat) : Int) from rfl, atI_nat (j := 0) rfl] at e; cases e; exact q, fun q => ⟨x0, atI_nat (j := 0) rfl, q⟩⟩
theorem at1 {P : D → Prop} {x0 x1 : D} : (∃ d, atI (x0 :: x1 :: xs) 1 = some d ∧ P d) = P x1 := propext ⟨fun ⟨d, e, q⟩ => by rw [show (1 : Int) = ((1 : Nat) : Int) from rfl, atI_nat (j := 1) rfl] at e; cases e; exact q, fun q => ⟨x1, atI_nat (j := 1) rfl, q⟩⟩
theorem at2 {P : D → Prop} {x0 x1 x2 : D} : (∃ d, atI (x0 :: x1 :: x2 :: xs) 2 = some d ∧ P d) = P x2 := propext ⟨fun ⟨d, e, q⟩ => by rw [show (2 : Int) = ((2 : Nat) : Int) from rfl, atI_nat (j := 2) rfl] at e; cases e; exact q, fun q => ⟨x2, atI_nat (j := 2) rfl, q⟩⟩
theorem at3 {P : D → Prop} {x0 x1 x2 x3 : D} : (∃ d, atI (x0 :: x1 :: x2 :: x3 :: xs) 3 = some d ∧ P d) = P x3 := propext ⟨fun ⟨d, e, q⟩ => by rw [show (3 : Int) = ((3 : Nat) : Int) from rfl, atI_nat (j := 3) rfl] at e; cases e; exact q, fun q => ⟨x3, atI_nat (j := 3) rfl, q⟩⟩
theorem ix40 {P : Nat → Prop} : (∃ j, ixN 4 0 = some j ∧ P j) = P 0 := propext ⟨fun ⟨j, e, q⟩ => by cases e; exact q, fun q => ⟨0, rfl, q⟩⟩
theorem ix42 {P : Nat → Prop} : (∃ j, ixN 4 2 = some j ∧ P j) = P 2 := propext ⟨fun ⟨j, e, q⟩ => by cases e; exact q, fun q => ⟨2, rfl, q⟩⟩
theorem ix43 {P : Nat → Prop} : (∃ j, ixN 4 3 = some j ∧ P j) = P 3 := propext ⟨fun ⟨j, e, q⟩ => by cases e; exact q, fun q => ⟨3, rfl, q⟩⟩
theorem mapI_get {ws : List Int} {i : Nat} {d : D} (h : (ws.map D.int)[i]? = some d) : ∃ z, ws[i]? = some z ∧ d = .int z := by
  rw [List.getElem?_map] at h
  cases e : ws[i]? with
  | none => rw [e] at h; cases h
  | some z => rw [e] at h; cases h; exact ⟨z, rfl, rfl⟩
theorem v_ixH {a : Addr} : oIxL (.hd (.ref a)) (.int i) μ Φ = ((∃ es, μ a = some (.lst es) ∧ ∃ d, atI es i = some d ∧ Φ d μ) ∨ (∃ es, μ a = some (.frz es) ∧ ∃ d, atI es i = some d ∧ Φ d μ)) := propext (Iff.intro (by
  rintro ⟨es, k, d, hi, _, e, q⟩
  cases e
  cases hi with
  | own h => exact .inl ⟨es, h, d, q⟩
  | frz h => exact .inr ⟨es, h, d, q⟩) (by
  rintro (⟨es, h, d, q⟩ | ⟨es, h, d, q⟩)
  · exact ⟨es, i, d, .own h, rfl, rfl, q⟩
  · exact ⟨es, i, d, .frz h, rfl, rfl, q⟩))
theorem v_items {a : Addr} {P : List D → Prop} : (∃ es, Items μ (.hd (.ref a)) es ∧ P es) = ((∃ es, μ a = some (.lst es) ∧ P es) ∨ (∃ es, μ a = some (.frz es) ∧ P es)) := propext (Iff.intro (by
  rintro ⟨es, hi, q⟩
  cases hi with
  | own h => exact .inl ⟨es, h, q⟩
  | frz h => exact .inr ⟨es, h, q⟩) (by
  rintro (⟨es, h, q⟩ | ⟨es, h, q⟩)
  · exact ⟨es, .own h, q⟩
  · exact ⟨es, .frz h, q⟩))
theorem v_itemsT {P : List D → Prop} : (∃ es, Items μ (.tup ds) es ∧ P es) = P ds := propext ⟨fun ⟨es, h, q⟩ => by cases h; exact q, fun q => ⟨ds, .tup ds, q⟩⟩
theorem v_itemsL {P : List D → Prop} : (∃ es, Items μ (.lst ds) es ∧ P es) = P ds := propext ⟨fun ⟨es, h, q⟩ => by cases h; exact q, fun q => ⟨ds, .lst ds, q⟩⟩
theorem v_itemsS {ns : List Int} {P : List D → Prop} : (∃ es, Items μ (.scr ns) es ∧ P es) = P (ns.map .int) := propext ⟨fun ⟨es, h, q⟩ => by cases h; exact q, fun q => ⟨_, .scr ns, q⟩⟩
theorem v_len : cLen [x] μ Φ = ∃ es, Items μ x es ∧ Φ (.int es.length) μ := propext ⟨fun ⟨y, es, e, h, q⟩ => by cases e; exact ⟨es, h, q⟩, fun ⟨es, h, q⟩ => ⟨x, es, rfl, h, q⟩⟩
theorem v_tuple : cTuple [x] μ Φ = ∃ es, Items μ x es ∧ Φ (.tup es) μ := propext ⟨fun ⟨y, es, e, h, q⟩ => by cases e; exact ⟨es, h, q⟩, fun ⟨es, h, q⟩ => ⟨x, es, rfl, h, q⟩⟩
theorem v_list : cList [x] μ Φ = ∃ es, Items μ x es ∧ Φ (.lst es) μ := propext ⟨fun ⟨y, es, e, h, q⟩ => by cases e; exact ⟨es, h, q⟩, fun ⟨es, h, q⟩ => ⟨x, es, rfl, h, q⟩⟩
theorem v_listOwn : cListOwn [x] μ Φ = ∃ es, Items μ x es ∧ ∀ p, μ p = none → Φ (.hd (.ref p)) (sset μ p (.lst es)) := propext ⟨fun ⟨y, es, e, h, q⟩ => by cases e; exact ⟨es, h, q⟩, fun ⟨es, h, q⟩ => ⟨x, es, rfl, h, q⟩⟩
section
variable {T : String}
theorem i_tT : instB (.tup xs) "tuple" = some true := rfl
theorem i_tI : instB (.tup xs) "int" = some false := rfl
theorem i_tB : instB (.tup xs) "bool" = some false := rfl
theorem i_tS : instB (.tup xs) "str" = some false := rfl
theorem i_nT : instB .non "tuple" = some false := rfl
theorem i_nI : instB .non "int" = some false := rfl
theorem i_nB : instB .non "bool" = some false := rfl
theorem i_nS : instB .non "str" = some false := rfl
theorem i_iT : instB (.int i) "tuple" = some false := rfl
theorem i_iI : instB (.int i) "int" = some true := rfl
theorem i_iB : instB (.int i) "bool" = some false := rfl
theorem i_iS : instB (.int i) "str" = some false := rfl
theorem i_bT : instB (.bl b) "tuple" = some false := rfl
theorem i_bI : instB (.bl b) "int" = some true := rfl
theorem i_bB : instB (.bl b) "bool" = some true := rfl
theorem i_bS : instB (.bl b) "str" = some false := rfl
theorem i_sT : instB (.str s) "tuple" = some false := rfl
theorem i_sI : instB (.str s) "int" = some false := rfl
theorem i_sB : instB (.str s) "bool" = some false := rfl
theorem i_sS : instB (.str s) "str" = some true := rfl
end
theorem w_eqB {c : Bool} : oEq (.bl b) (.bl c) μ Φ = Φ (.bl (decide (b = c))) μ := w_someb
/-- the turns of a comprehension that changes nothing -/
def givenD (n : Nat) (f : Nat → Bool) (v : Nat → D) : List D := ((List.range n).filter f).map v
theorem givenD_yes {n : Nat} {f : Nat → Bool} {v : Nat → D} (h : f n = true) : givenD (n + 1) f v = givenD n f v ++ [v n] := by
  unfold givenD
  rw [List.range_succ, List.filter_append, List.map_append, List.filter_cons, if_pos h] <;> rfl
theorem givenD_no {n : Nat} {f : Nat → Bool} {v : Nat → D} (h : f n = false) : givenD (n + 1) f v = givenD n f v := by
  unfold givenD
  rw [List.range_succ, List.filter_append, List.map_append, List.filter_cons, if_neg (by rw [h]; decide)]
  exact List.append_nil _
theorem givenD_len (n : Nat) (f : Nat → Bool) (v : Nat → D) : (givenD n f v).length ≤ n := by
  unfold givenD
  rw [List.length_map]
  have h := List.length_filter_le f (List.range n)
  rw [List.length_range] at h
  exact h
theorem givenD_all (n : Nat) (v : Nat → D) : givenD n (fun _ => true) v = (List.range n).map v := by
  unfold givenD
  rw [List.filter_eq_self.mpr fun _ _ => rfl]
theorem lc_go {γ : DG} {θ : DT} {φ : DE} {δw : DEnv} {μ1 : Sto} {xs : List D} (f : Nat → Bool) (v : Nat → D) (hz : xs.length ≤ 100000)
    (hs : ∀ (i : Nat) (d : D) (μ2 : Sto) (X : DK) (Y : Sto → Prop), xs[i]? = some d → Sub μ1 μ2 → (f i = true → X (v i) μ2) → (f i = false → Y μ2) →
      γ d δw μ2 fun δ3 μ3 => θ Ψ δ3 μ3 fun b μ4 => (b = true → φ Ψ δ3 μ4 X) ∧ (b = false → Y μ4))
    (hd : Φ (.lst (givenD xs.length f v)) μ1) : ∀ p, μ1 p = none → ∃ W : Nat → Sto → Prop, W 0 (sset μ1 p (.lst [])) ∧
  (∀ i d μ2, xs[i]? = some d → W i μ2 → γ d δw μ2 fun δ3 μ3 => θ Ψ δ3 μ3 fun b μ4 =>
    (b = true → φ Ψ δ3 μ4 fun y μ5 => ∃ acc, μ5 p = some (.lst acc) ∧ acc.length ≤ 100000 ∧ W (i + 1) (sset μ5 p (.lst (acc ++ [y])))) ∧ (b = false → W (i + 1) μ4)) ∧
  ∀ μ2, W xs.length μ2 → ∃ acc, μ2 p = some (.lst acc) ∧ Φ (.lst acc) (sdel μ2 p) := fun p hp => by
  refine ⟨fun i μ' => μ' = sset μ1 p (.lst (givenD i f v)), rfl, fun i d μ2 hi e => ?_, fun μ2 e => ?_⟩
  · subst e
    have hl : i < xs.length := (List.getElem?_eq_some_iff.mp hi).1
    refine hs i d _ _ _ hi (.set Sub.refl hp) (fun hf => ⟨_, sset_same, ?_, ?_⟩) fun hf => ?_
    · have := givenD_len i f v; omega
    · show sset (sset μ1 p (.lst (givenD i f v))) p (.lst (givenD i f v ++ [v i])) = sset μ1 p (.lst (givenD (i + 1) f v))
      rw [sset_sset, givenD_yes hf]
    · show sset μ1 p (.lst (givenD i f v)) = sset μ1 p (.lst (givenD (i + 1) f v))
      rw [givenD_no hf]
  · subst e
    refine ⟨_, sset_same, ?_⟩
    rw [sdel_sset hp]
    exact hd
/-- the list of a comprehension -/
def LcG (γ : DG) (θ : DT) (φ : DE) (δw : DEnv) (Ψ : XP) (xs : List D) (μ1 : Sto) (Φ : DK) : Prop := ∀ p, μ1 p = none → ∃ W : Nat → Sto → Prop, W 0 (sset μ1 p (.lst [])) ∧
  (∀ i d μ2, xs[i]? = some d → W i μ2 → γ d δw μ2 fun δ3 μ3 => θ Ψ δ3 μ3 fun b μ4 =>
    (b = true → φ Ψ δ3 μ4 fun y μ5 => ∃ acc, μ5 p = some (.lst acc) ∧ acc.length ≤ 100000 ∧ W (i + 1) (sset μ5 p (.lst (acc ++ [y])))) ∧ (b = false → W (i + 1) μ4)) ∧
  ∀ μ2, W xs.length μ2 → ∃ acc, μ2 p = some (.lst acc) ∧ Φ (.lst acc) (sdel μ2 p)
theorem u_lc {ι : DI} {γ : DG} {θ : DT} {φ : DE} {vs : List Nat} : dLc ι γ θ φ vs Ψ δ μ Φ = ι Ψ δ μ fun xs μ1 => LcG γ θ φ (dwipe δ vs) Ψ xs μ1 Φ := rfl
theorem lcG_pure {γ : DG} {θ : DT} {φ : DE} {δw : DEnv} {μ1 : Sto} {xs : List D} (f : Nat → Bool) (v : Nat → D) (hz : xs.length ≤ 100000)
    (hs : ∀ (i : Nat) (d : D) (μ2 : Sto) (X : DK) (Y : Sto → Prop), xs[i]? = some d → Sub μ1 μ2 → (f i = true → X (v i) μ2) → (f i = false → Y μ2) →
      γ d δw μ2 fun δ3 μ3 => θ Ψ δ3 μ3 fun b μ4 => (b = true → φ Ψ δ3 μ4 X) ∧ (b = false → Y μ4))
    (hd : Φ (.lst (givenD xs.length f v)) μ1) : LcG γ θ φ δw Ψ xs μ1 Φ := lc_go f v hz hs hd
/-- each item gives one -/
theorem lcG_map {γ : DG} {φ : DE} {δw : DEnv} {μ1 : Sto} {xs : List D} (v : Nat → D) (hz : xs.length ≤ 100000)
    (hs : ∀ (i : Nat) (d : D) (μ2 : Sto) (X : DK), xs[i]? = some d → Sub μ1 μ2 → X (v i) μ2 → γ d δw μ2 fun δ3 μ3 => φ Ψ δ3 μ3 X)
    (hd : Φ (.lst ((List.range xs.length).map v)) μ1) (mono : ∀ d δ μ (P Q : DEnv → Sto → Prop), (∀ a b, P a b → Q a b) → γ d δ μ P → γ d δ μ Q) : LcG γ dYes φ δw Ψ xs μ1 Φ := by
  refine lcG_pure (fun _ => true) v hz (fun i d μ2 X Y hi hsub hx hy => ?_) (by rw [givenD_all]; exact hd)
  exact mono _ _ _ _ _ (fun δ3 μ3 h => ⟨fun _ => h, fun z => nomatch z⟩) (hs i d μ2 X hi hsub (hx rfl))
theorem lcG_mapN {n : Nat} {φ : DE} {δw : DEnv} {μ1 : Sto} {xs : List D} (v : Nat → D) (hz : xs.length ≤ 100000)
    (hs : ∀ (i : Nat) (d : D) (μ2 : Sto) (X : DK), xs[i]? = some d → Sub μ1 μ2 → X (v i) μ2 → φ Ψ (δw.set n (some d)) μ2 X)
    (hd : Φ (.lst ((List.range xs.length).map v)) μ1) : LcG (eName n) dYes φ δw Ψ xs μ1 Φ :=
  lcG_map v hz hs hd fun d δ μ P Q h q => h _ _ q
theorem u_for {ι : DI} {γ : DG} {ω : DSt} : dFor ι γ ω Ψ Δ δ μ = ι Ψ δ μ fun xs μ1 => ∃ W : Nat → DEnv → Sto → Prop, W 0 δ μ1 ∧
  (∀ i d δ' μ', xs[i]? = some d → W i δ' μ' → γ d δ' μ' fun δ2 μ2 => ω Ψ { Δ with nx := W (i + 1), ct := W (i + 1), bk := Δ.nx } δ2 μ2) ∧ ∀ δ' μ', W xs.length δ' μ' → Δ.nx δ' μ' := rfl
section
variable {φ φ' : DE} {Ls : List D → Sto → Prop}
theorem u_iT : iSeqT φ Ψ δ μ Ls = φ Ψ δ μ fun x μ1 => ∃ ds, x = .tup ds ∧ Ls ds μ1 := rfl
theorem u_iL : iSeqL φ Ψ δ μ Ls = φ Ψ δ μ fun x μ1 => ∃ ds, x = .lst ds ∧ Ls ds μ1 := rfl
theorem u_iR1 : iR1 φ Ψ δ μ Ls = φ Ψ δ μ fun x μ1 => ∃ j, x = .int j ∧ j < 4611686018427387904 ∧ -4611686018427387904 ≤ j ∧ Ls (rngD 0 j.toNat) μ1 := rfl
theorem u_iR2 : iR2 φ φ' Ψ δ μ Ls = φ Ψ δ μ fun x μ1 => φ' Ψ δ μ1 fun y μ2 => ∃ i j, x = .int i ∧ y = .int j ∧ (-4611686018427387904 ≤ i ∧ i < 4611686018427387904 ∧ -4611686018427387904 ≤ j ∧ j < 4611686018427387904) ∧ Ls (rngD i (j - i).toNat) μ2 := rfl
theorem u_iZ : iZipT φ φ' Ψ δ μ Ls = φ Ψ δ μ fun x μ1 => φ' Ψ δ μ1 fun y μ2 => ∃ xs ys, x = .tup xs ∧ y = .tup ys ∧ Ls ((xs.zip ys).map fun p => .pr [p.1, p.2]) μ2 := rfl
theorem u_iS : iText φ Ψ δ μ Ls = φ Ψ δ μ fun x μ1 => ∃ s, x = .str s ∧ Ls (s.cps.toList.map fun c => .str ⟨#[c]⟩) μ1 := rfl
end
theorem w_lstE {P : List D → Prop} : (∃ es, D.lst ds = .lst es ∧ P es) = P ds := propext ⟨fun ⟨c, e, q⟩ => by cases e; exact q, fun q => ⟨ds, rfl, q⟩⟩
theorem rngD_get {lo : Int} {n i : Nat} {d : D} (h : (rngD lo n)[i]? = some d) : i < n ∧ d = .int (lo + (i : Int)) := by
  have hl := (List.getElem?_eq_some_iff.mp h).1
  rw [rngD_len] at hl
  rw [rngD_at hl] at h
  cases h
  exact ⟨hl, rfl⟩
theorem w_allB {P : List Bool} (e : ds = P.map .bl) (h : Φ (.bl (P.all id)) μ) : cAll [.lst ds] μ Φ := ⟨P, by rw [e], h⟩
/-- one statement, what follows named -/
theorem q_seq {ω ζ : DSt} (h : ∀ nx, nx = ζ Ψ Δ → ω Ψ ⟨nx, Δ.rt, Δ.bk, Δ.ct⟩ δ μ) : dSeq ω ζ Ψ Δ δ μ := h _ rfl
theorem ret_same {Φ : DK} {d : D} {μ : Sto} (h : Φ d μ) : ∃ μ2, Sub μ2 μ ∧ Φ d μ2 := ⟨μ, Sub.refl, h⟩
theorem mulx (a b : Nat) (h1 : i.natAbs < 2 ^ a) (h2 : j.natAbs < 2 ^ b) (h : a + b ≤ 134217728) : CMulX i j := mulx_ok h1 h2 h
end
end DW
set_option Elab.async false
set_option linter.all false
set_option maxRecDepth 100000
set_option maxHeartbeats 4000000
namespace DW
open PySem PySem.Spec PyProof.Rows L2 HT
def dRevT (φ : DE) : DE := fun Ψ δ μ Φ => φ Ψ δ μ fun x μ1 => ∃ ds, x = .tup ds ∧ Φ (.tup ds.reverse) μ1
theorem tuple_mul1 (l : Addr) (items : Array Value) (n : Nat) (sl : Array (Option Value)) (dd : Option Addr) (x : Int) (u : Tok) (c0 : (decide (x < -(2 ^ 63)) || decide (x ≥ 2 ^ 63)) = false) (c1 : (items.isEmpty || x == 1) = true) :
    Meets (Builtin.«tuple.__mul__» ⟨[.ref l, .int x u], []⟩) (fun _ R s => s.heap.get? l = some { cls := .type "tuple", dict := dd, data := .seq items n, slots := sl } ∧ R (.ok (.ret (Value.ref l))) s) :=
  .of_wp fun prog w A R s h => by
    obtain ⟨hp, g, d, tk, os⟩ := s
    obtain ⟨hl, h⟩ := h
    have f1 := AutoSeq1.idx_int
    wp_walk using wpAny_loadPart' hl
    repeat (first
      | (refine wpAny_ite_false (decide_eq_false (by rw [c0]; exact Bool.false_ne_true)) ?_; wp_walk using wpAny_loadPart' hl)
      | (refine wpAny_ite_true (decide_eq_true (by rw [c1])) ?_; wp_walk using wpAny_loadPart' hl))
    exact ⟨_, rfl, h⟩
theorem tuple_mul0 (l : Addr) (items : Array Value) (n : Nat) (sl : Array (Option Value)) (dd : Option Addr) (x : Int) (u : Tok) (c0 : (decide (x < -(2 ^ 63)) || decide (x ≥ 2 ^ 63)) = false) (c1 : (items.isEmpty || x == 1) = false) (c2 : (decide (x ≤ 0) || items.isEmpty) = true) :
    Meets (Builtin.«tuple.__mul__» ⟨[.ref l, .int x u], []⟩) (fun _ R s => s.heap.get? l = some { cls := .type "tuple", dict := dd, data := .seq items n, slots := sl } ∧
      R (.ok (.ret (Value.ref s.heap.objs.size))) { s with heap := s.heap.push { cls := Value.type "tuple", data := Data.seq #[] }, toks := s.toks }) :=
  .of_wp fun prog w A R s h => by
    obtain ⟨hp, g, d, tk, os⟩ := s
    obtain ⟨hl, h⟩ := h
    have f1 := AutoSeq1.idx_int
    wp_walk using wpAny_loadPart' hl
    repeat (first
      | (refine wpAny_ite_false (decide_eq_false (by rw [c0]; exact Bool.false_ne_true)) ?_; wp_walk using wpAny_loadPart' hl)
      | (refine wpAny_ite_false (decide_eq_false (by rw [c1]; exact Bool.false_ne_true)) ?_; wp_walk using wpAny_loadPart' hl)
      | (refine wpAny_ite_true (decide_eq_true (by rw [c2])) ?_; wp_walk using wpAny_loadPart' hl))
    exact ⟨_, rfl, h⟩
def rRepBig (K : Fg) : R2 := fun x y H Q => ∃ l k xs, x = .ref l ∧ y = .int k ∧ SqT K H l xs ∧ xs ≠ [] ∧ 2 ≤ k ∧ k ≤ 1000 ∧ xs.length ≤ 1000 ∧ NewT H (List.replicate k.toNat xs).flatten Q
theorem op_repBig {X : Cx} : OpR X (binaryOp .Mult) (rRepBig X.K) := by
  intro pins s σ H x y v u Q I rx ry h
  obtain ⟨l, k, xs, rfl, rfl, hT, hne, g2, g3, hz, q⟩ := h
  cases rx
  obtain ⟨t, rfl⟩ := ry
  obtain ⟨its, r, ⟨⟨cls, dd, data, sl⟩, ho, hc, n, hd⟩, hs⟩ := I.tuple hT
  simp only at hc hd
  subst hc hd
  have many : its.length = xs.length := r.length.symm
  have some' : its.toArray.isEmpty = false := by
    cases its with
    | nil => exact absurd (List.eq_nil_of_length_eq_zero (l := xs) (by simpa using many.symm)) hne
    | cons a b => rfl
  have wide : (its.toArray.size : Int) * k ≤ 1000000 := by
    have z : ((xs.length : Nat) : Int) * k ≤ 1000 * k := Int.mul_le_mul_of_nonneg_right (by omega) (by omega)
    rw [List.size_toArray, many]; omega
  have fl : (List.replicate k.toNat xs).flatten.length ≤ sizeLine := by
    have z : k.toNat * xs.length ≤ 1000 * 1000 := Nat.mul_le_mul (by omega) hz
    rw [PyProof.Rows.lm_len_rep_flat, sizeLine_eq]; omega
  have fl2 : (List.replicate k.toNat its).flatten.length ≤ sizeLine := by rw [PyProof.Rows.lm_len_rep_flat, many, ← PyProof.Rows.lm_len_rep_flat]; exact fl
  have z0 : (decide (k < -(2 ^ 63)) || decide (k ≥ 2 ^ 63)) = false := by rw [decide_eq_false (by omega), decide_eq_false (by omega)]; rfl
  have z1 : (its.toArray.isEmpty || k == 1) = false := by rw [some', Bool.false_or]; exact beq_eq_false_iff_ne.mpr (by omega)
  have z2 : (decide (k ≤ 0) || its.toArray.isEmpty) = false := by rw [some', Bool.or_false]; exact decide_eq_false (by omega)
  have z4 : Builtin.Tuple.tupleTooMany ((its.toArray.size : Int) * k) = false := by unfold Builtin.Tuple.tupleTooMany; rw [sizeLine_eq]; exact decide_eq_false (by omega)
  have mul := tuple_mulW l its.toArray n dd sl k t z0 z1 z2 (by omega) z4 (by rw [size_rep, List.size_toArray]; exact fl2)
  have one : s.TypeIs (.ref l) "tuple" := ⟨_, ho, rfl⟩
  refine wpAny_binaryOp_repeat_ref (T := "tuple") (U := "int") (by decide) one (fun s' => typeIs_int s' k t) noFill_tuple_mul F.fills_int_mul F.slot_int_rmul repeat_tuple F.slot_int_index.lookup ?_
  refine call_meets F.slot_int_rmul (typeIs_int s k t) F.entry_int_rmul (F.args_int_rmul_2 _ _) (int_rmul_tuple k t l its.toArray n dd sl) ⟨ho, rfl, one, ?_⟩
  refine call_meets F.slot_tuple_mul one F.entry_tuple_mul (F.args_tuple_mul_2 _ _) mul ⟨ho, ?_⟩
  rw [size_rep]
  exact new_tup I fl (r.rep k.toNat) q
def rRepA (K : Fg) : R2 := fun x y H Q => ∃ l k xs, x = .ref l ∧ y = .int k ∧ SqT K H l xs ∧ k ≤ 1000 ∧ -1000000 ≤ k ∧ xs.length ≤ 1000 ∧ (xs = [] ∨ k = 1 → Q (.ref l) H) ∧ (xs ≠ [] → k ≤ 0 → NewT H [] Q) ∧
  (xs ≠ [] → 2 ≤ k → NewT H (List.replicate k.toNat xs).flatten Q)
theorem op_repA {X : Cx} : OpR X (binaryOp .Mult) (rRepA X.K) := by
  intro pins s σ H x y v u Q I rx ry h
  obtain ⟨l, k, xs, ex, ey, hT, h1, h2, hz, q1, q2, q3⟩ := h
  by_cases hbig : xs ≠ [] ∧ 2 ≤ k
  · exact op_repBig pins s σ H _ _ v u Q I rx ry ⟨l, k, xs, ex, ey, hT, hbig.1, hbig.2, h1, hz, q3 hbig.1 hbig.2⟩
  · subst ex ey
    cases rx
    obtain ⟨t, rfl⟩ := ry
    obtain ⟨its, r, ⟨⟨cls, dd, data, sl⟩, ho, hc, n, hd⟩, hs⟩ := I.tuple hT
    simp only at hc hd
    subst hc hd
    have hle : its.length = xs.length := r.length.symm
    have c0 : (decide (k < -(2 ^ 63)) || decide (k ≥ 2 ^ 63)) = false := by
      rw [decide_eq_false (by omega), decide_eq_false (by omega)] <;> rfl
    have hemp : its.toArray.isEmpty = decide (xs = []) := by
      cases its with
      | nil => rw [List.eq_nil_of_length_eq_zero (l := xs) (by simpa using hle.symm)]; rfl
      | cons a b =>
        have : xs ≠ [] := fun z => by rw [z] at hle; simp at hle
        rw [decide_eq_false this]; rfl
    by_cases hs1 : xs = [] ∨ k = 1
    · have c1 : (its.toArray.isEmpty || k == 1) = true := by
        rw [hemp]
        rcases hs1 with z | z
        · rw [decide_eq_true z]; rfl
        · rw [z]; simp
      refine wpAny_binaryOp_repeat_ref (T := "tuple") (U := "int") (by decide) ⟨_, ho, rfl⟩ (fun s' => typeIs_int s' k t) noFill_tuple_mul F.fills_int_mul F.slot_int_rmul repeat_tuple F.slot_int_index.lookup
        (call_meets F.slot_int_rmul (typeIs_int s k t) F.entry_int_rmul (F.args_int_rmul_2 _ _) (int_rmul_tuple k t l its.toArray n dd sl)
          ⟨ho, rfl, ⟨_, ho, rfl⟩, call_meets F.slot_tuple_mul ⟨_, ho, rfl⟩ F.entry_tuple_mul (F.args_tuple_mul_2 _ _) (tuple_mul1 l its.toArray n sl dd k t c0 c1) ⟨ho, ?_⟩⟩)
      exact ⟨.ref l, H, I, rfl, q1 hs1⟩
    · have hx : xs ≠ [] := fun z => hs1 (.inl z)
      have hk : k ≤ 0 := by
        have : ¬ 2 ≤ k := fun z => hbig ⟨hx, z⟩
        have : k ≠ 1 := fun z => hs1 (.inr z)
        omega
      have c1 : (its.toArray.isEmpty || k == 1) = false := by
        rw [hemp, decide_eq_false hx, Bool.false_or]
        exact beq_eq_false_iff_ne.mpr (by omega)
      have c2 : (decide (k ≤ 0) || its.toArray.isEmpty) = true := by rw [decide_eq_true hk]; rfl
      refine wpAny_binaryOp_repeat_ref (T := "tuple") (U := "int") (by decide) ⟨_, ho, rfl⟩ (fun s' => typeIs_int s' k t) noFill_tuple_mul F.fills_int_mul F.slot_int_rmul repeat_tuple F.slot_int_index.lookup
        (call_meets F.slot_int_rmul (typeIs_int s k t) F.entry_int_rmul (F.args_int_rmul_2 _ _) (int_rmul_tuple k t l its.toArray n dd sl)
          ⟨ho, rfl, ⟨_, ho, rfl⟩, call_meets F.slot_tuple_mul ⟨_, ho, rfl⟩ F.entry_tuple_mul (F.args_tuple_mul_2 _ _) (tuple_mul0 l its.toArray n sl dd k t c0 c1 c2) ⟨ho, ?_⟩⟩)
      exact new_tup (its := []) I (by decide) .nil (q2 hx hk)
def oRepT : DO := fun x y μ Φ => ∃ ds k, x = .tup ds ∧ y = .int k ∧ k ≤ 1000 ∧ -1000000 ≤ k ∧ ds.length ≤ 1000 ∧ Φ (.tup (List.replicate k.toNat ds).flatten) μ
theorem roRepT {K : Fg} : RO K (rRepA K) oRepT := fun H μ v w d e Φ Q s0 r1 r2 h k => by
  obtain ⟨ds, i, rfl, rfl, h1, h2, h3, q⟩ := h
  obtain ⟨p, vs, rfl, t1, t2⟩ := Rep.tup_inv r1
  obtain rfl := Rep.int_inv r2
  have hl := t2.length
  have nil : vs = [] → ds = [] := fun z => by rw [z] at hl; exact List.eq_nil_of_length_eq_zero hl.symm
  have rnil : ∀ n, (List.replicate n ([] : List D)).flatten = [] := fun n => by induction n <;> simp_all [List.replicate_succ]
  refine ⟨p, i, vs, rfl, rfl, t1.sq, h1, h2, by omega, fun z => ?_, fun z z2 q0 o ho hc hp => ?_, fun z z2 q0 o ho hc hp => ?_⟩
  · refine k _ H _ μ .refl s0 ?_ q
    have e : (List.replicate i.toNat ds).flatten = ds := by
      rcases z with z | z
      · rw [nil z, rnil]
      · subst z; simp
    rw [e]
    exact r1
  · refine k _ _ _ μ (.new hp) (s0.new hp) ?_ q
    have e : i.toNat = 0 := by omega
    rw [e]
    exact rep_tupN s0 hp ho hc .nil
  · exact k _ _ _ μ (.new hp) (s0.new hp) (rep_tupN s0 hp ho hc (reps_rep t2 _)) q
end DW
set_option Elab.async false
set_option linter.all false
set_option maxRecDepth 100000
set_option maxHeartbeats 4000000
namespace DW
open PySem PySem.Spec PyProof.Rows L2 GenW
end DW
set_option Elab.async false
set_option linter.all false
set_option maxRecDepth 100000
set_option maxHeartbeats 4000000
namespace DW
open PySem PySem.Spec PyProof.Rows L2 HotX
def kitD (K : Fg) : XD → V → Option Bool
  | .mk C none, .ref T => PySem.W.kitOne K (.ref C) (.ref T)
  | .mk C none, .ty T => PySem.W.kitOne K (.ref C) (.type T)
  | _, _ => none
def excOk (K : Fg) : XD → Prop
  | .mk C none => L2.ExcC K C
  | _ => False
def cIsX (K : Fg) (a : Addr) (x : XD) : DC := fun xs μ Φ => ∃ c b, xs = [.hd (.ref a), .hd c] ∧ kitD K x c = some b ∧ excOk K x ∧ Φ (.bl b) μ
section
variable {K : Fg} {B : Bx K}
theorem sCallSW {W : WX} {c : Con} {tas : TA} {ψ : DA} (hW : B.W = W) (a : SA B tas ψ) : SE B (tCallS (spOf K c) (WE W) tas) (dCallS c ψ) := by
  subst hW; exact sCallS a
theorem sRaise0W {W : WX} {C : Addr} (hW : B.W = W) : SS B (fun _ σ H => (fun (_ : L2.St) (H : Hp) (Q : XK) => Q (.ref C) none H) σ H fun cls d H' => W cls d σ H') (dRaise0 C) := by
  subst hW; exact sRaise0
def dTryAs (K : Fg) (c : Value) (i : Nat) (ω : DSt) (ζ : Addr → XD → DSt) : DSt := fun Ψ Δ δ μ => ω (fun x δ' μ' => ∃ b, (match x with | .mk D _ => PySem.W.exmOne K (.ref D) c) = some b ∧
  (b = true → ∀ a, μ' a = none → ζ a x Ψ ⟨fun δ2 μ2 => Δ.nx (δ2.set i none) μ2, Δ.rt, fun δ2 μ2 => Δ.bk (δ2.set i none) μ2, fun δ2 μ2 => Δ.ct (δ2.set i none) μ2⟩ (δ'.set i (some (.hd (.ref a)))) μ') ∧ (b = false → Ψ x δ' μ')) Δ δ μ
abbrev ConG := List D → Sto → (List D → Sto → Prop) → Prop
def dTupG (c : ConG) (ψ : DA) : DE := fun Ψ δ μ Φ => ψ Ψ δ μ fun xs μ1 => c xs μ1 fun es μ2 => Φ (.tup es) μ2
end
/-- what is wanted behind a statement of a generator -/
structure GDs where
  nx : List DW.D → DEnv → Sto → Prop
  rt : List DW.D → DW.D → Sto → Prop
  bk : List DW.D → DEnv → Sto → Prop
  ct : List DW.D → DEnv → Sto → Prop
abbrev DGn := XP → GDs → List DW.D → DEnv → Sto → Prop
section
variable {K : Fg} {B : Bx K}
def dGPlain (ω : DSt) : DGn := fun Ψ Δ es δ μ => ω Ψ ⟨Δ.nx es, Δ.rt es, Δ.bk es, Δ.ct es⟩ δ μ
def dGThen (ω ζ : DGn) : DGn := fun Ψ Δ es δ μ => ω Ψ ⟨fun es' δ' μ' => ζ Ψ Δ es' δ' μ', Δ.rt, Δ.bk, Δ.ct⟩ es δ μ
def dGNil : DGn := fun _ Δ es δ μ => Δ.nx es δ μ
def dYield (φ : DE) : DGn := fun Ψ Δ es δ μ => es.length ≤ 100000 ∧ φ Ψ δ μ fun x μ1 => Δ.nx (es ++ [x]) δ μ1
def dGWhile (θ : DT) (ω : DGn) : DGn := fun Ψ Δ es δ μ => ∃ W : Nat → List DW.D → DEnv → Sto → Prop, (∃ m, W m es δ μ) ∧ ∀ m es δ μ, W m es δ μ → θ Ψ δ μ fun b μ1 =>
  (b = true → ω Ψ ⟨fun es' δ' μ' => ∃ m', m' < m ∧ W m' es' δ' μ', Δ.rt, Δ.nx, fun es' δ' μ' => ∃ m', m' < m ∧ W m' es' δ' μ'⟩ es δ μ1) ∧ (b = false → Δ.nx es δ μ1)
end
theorem passN {X : Cx} : Passes (L2N.CX X.prog X.w) X E0 := fun _ _ _ _ _ _ _ h => by
  obtain ⟨_, _, _, _, _, _, _, _, _, _, _, _, z⟩ := h
  exact z.elim
/-- THE RULE for a def, whatever the air -/
theorem def_okC {CX : CXT} {P : Program} {w : World} {K : Fg} {mg : Str → Option Value} {base : Heap} {x qual : Str} {st : Stmt} {f : Addr} {fd : FuncData} {N ps : List Str} {k : Nat} {c : Con} (F : Fun K x qual st f fd) (Sc : FnScope N ps (defScope st)) (φ : DSt)
    (hl : ∀ ds μ Φ Ψ, c ds μ Φ Ψ → ds.length = ps.length)
    (hb : ∀ (cdv : Value) (A : Around) (outer : List Env) (s : Shared) (H : Hp) (E : XK) (B : Bx K), B.W = (fun cls d _ H => E cls d H) → Room k (A.deeper (PyProof.Rows.envOfC qual (defScope st) s.heap.objs.size f cdv)) →
      ∃ t, PSs (cxOf CX P w K mg base N qual (defScope st) f cdv A outer s H E) (defBody st) t ∧ SS B t φ)
    (hv : ∀ ds μ Φ Ψ, c ds μ Φ Ψ → φ (goalX Ψ) (goalE Φ) (dstart N ds) μ) : FnOk P w K mg base CX (k + 1) f fd ps (spOf K c) := by
  obtain ⟨oc, od, kV, doc, pm, an, cdv, ct, osl, rfl, lk, hcd⟩ := F.ex
  refine fn_of lk hcd Sc (fun vs H Q E h => ?_) (fun A outer s H vs Q E hr h => ?_)
  · obtain ⟨μ, ds, Φ, Ψ, _, r, hc, _⟩ := h
    rw [r.length]
    exact hl ds μ Φ Ψ hc
  · obtain ⟨μ, ds, Φ, Ψ, s0, r, hc, hq, hx⟩ := h
    let B : Bx K := ⟨H, μ, fun cls d _ H => E cls d H, goalX Ψ, fun cls dd σ H' x δ μ' S rx ⟨μ2, hs, q⟩ => hx cls dd H' x μ2 (S.evo.trans hs.evo) (hs.sto S.sto) (rx.mono hs.evo) q⟩
    obtain ⟨t, ht, hs⟩ := hb cdv A outer s H E B rfl hr
    refine ⟨t, ht, hs { nx := fun _ H' => Q .non H', rt := Q } (goalE Φ) (L2.start N vs) H (dstart N ds) μ ⟨fun σ H' δ μ' S ⟨μ2, h2, q⟩ => ?_, fun v H' d μ' σ δ S rv ⟨μ2, h2, q⟩ => ?_, fun _ _ _ _ _ z => z, fun _ _ _ _ _ z => z⟩ ⟨.refl, s0, env_start r⟩ (hv ds μ Φ Ψ hc)⟩
    · exact hq .non H' .non μ2 (S.evo.trans h2.evo) (h2.sto S.sto) (.non .nil) q
    · exact hq v H' d μ2 (S.evo.trans h2.evo) (h2.sto S.sto) (rv.mono h2.evo) q
section
variable {K : Fg} {φ : DE} {ψ : DA} {Ψ : XP} {δ : DEnv} {μ : Sto} {Φ : DK} {ω ζ : DSt} {Δ : DEnds} {ds es : List DW.D} {k : Int} {Γ : GDs} {α β : DGn} {θ : DT} {c : ConG} {cv : Value} {i : Nat} {ξ : Addr → XD → DSt}
theorem u_revT : dRevT φ Ψ δ μ Φ = φ Ψ δ μ fun x μ1 => ∃ ds, x = .tup ds ∧ Φ (.tup ds.reverse) μ1 := rfl
theorem w_repT : oRepT (.tup ds) (.int k) μ Φ = (k ≤ 1000 ∧ -1000000 ≤ k ∧ ds.length ≤ 1000 ∧ Φ (.tup (List.replicate k.toNat ds).flatten) μ) := propext ⟨fun ⟨a, b, e1, e2, q⟩ => by cases e1; cases e2; exact q, fun q => ⟨_, _, rfl, rfl, q⟩⟩
theorem u_tupG : dTupG c ψ Ψ δ μ Φ = ψ Ψ δ μ fun xs μ1 => c xs μ1 fun es μ2 => Φ (.tup es) μ2 := rfl
theorem u_try : dTryAs K cv i ω ξ Ψ Δ δ μ = ω (fun x δ' μ' => ∃ b, (match x with | .mk D _ => PySem.W.exmOne K (.ref D) cv) = some b ∧
  (b = true → ∀ a, μ' a = none → ξ a x Ψ ⟨fun δ2 μ2 => Δ.nx (δ2.set i none) μ2, Δ.rt, fun δ2 μ2 => Δ.bk (δ2.set i none) μ2, fun δ2 μ2 => Δ.ct (δ2.set i none) μ2⟩ (δ'.set i (some (.hd (.ref a)))) μ') ∧ (b = false → Ψ x δ' μ')) Δ δ μ := rfl
theorem u_gPlain : dGPlain ω Ψ Γ es δ μ = ω Ψ ⟨Γ.nx es, Γ.rt es, Γ.bk es, Γ.ct es⟩ δ μ := rfl
theorem u_gThen : dGThen α β Ψ Γ es δ μ = α Ψ ⟨fun es' δ' μ' => β Ψ Γ es' δ' μ', Γ.rt, Γ.bk, Γ.ct⟩ es δ μ := rfl
theorem u_gNil : dGNil Ψ Γ es δ μ = Γ.nx es δ μ := rfl
theorem u_yield : dYield φ Ψ Γ es δ μ = (es.length ≤ 100000 ∧ φ Ψ δ μ fun x μ1 => Γ.nx (es ++ [x]) δ μ1) := rfl
theorem u_gWhile : dGWhile θ α Ψ Γ es δ μ = ∃ W : Nat → List DW.D → DEnv → Sto → Prop, (∃ m, W m es δ μ) ∧ ∀ m es δ μ, W m es δ μ → θ Ψ δ μ fun b μ1 =>
  (b = true → α Ψ ⟨fun es' δ' μ' => ∃ m', m' < m ∧ W m' es' δ' μ', Γ.rt, Γ.nx, fun es' δ' μ' => ∃ m', m' < m ∧ W m' es' δ' μ'⟩ es δ μ1) ∧ (b = false → Γ.nx es δ μ1) := rfl
theorem u_while : dWhile θ ω Ψ Δ δ μ = ∃ W : Nat → DEnv → Sto → Prop, (∃ m, W m δ μ) ∧ ∀ m δ μ, W m δ μ → θ Ψ δ μ fun b μ1 =>
  (b = true → ω Ψ { Δ with nx := fun δ' μ' => ∃ m', m' < m ∧ W m' δ' μ', ct := fun δ' μ' => ∃ m', m' < m ∧ W m' δ' μ', bk := Δ.nx } δ μ1) ∧ (b = false → Δ.nx δ μ1) := rfl
theorem u_isX {a : Addr} {x : XD} {c : V} : cIsX K a x [.hd (.ref a), .hd c] μ Φ = ∃ b, kitD K x c = some b ∧ excOk K x ∧ Φ (.bl b) μ := propext ⟨fun ⟨c', b, e, q⟩ => by cases e; exact ⟨b, q⟩, fun ⟨b, q⟩ => ⟨c, b, rfl, q⟩⟩
theorem u_kitR {C T : Addr} : kitD K (.mk C none) (.ref T) = PySem.W.kitOne K (.ref C) (.ref T) := rfl
theorem u_kitT {C : Addr} {T : String} : kitD K (.mk C none) (.ty T) = PySem.W.kitOne K (.ref C) (.type T) := rfl
theorem u_excOk {C : Addr} : excOk K (.mk C none) = L2.ExcC K C := rfl
theorem w_zipE {P : List DW.D → List DW.D → Prop} : (∃ xs ys, D.tup ds = D.tup xs ∧ D.tup es = D.tup ys ∧ P xs ys) = P ds es := propext ⟨fun ⟨a, b, e1, e2, q⟩ => by cases e1; cases e2; exact q, fun q => ⟨_, _, rfl, rfl, q⟩⟩
theorem u_goalX {G : XD → Sto → Prop} {x : XD} : goalX G x δ μ = ∃ μ2, Sub μ2 μ ∧ G x μ2 := rfl
theorem cut_to (p : Nat) : cutD ds none (some (p : Int)) = ds.take p := by
  unfold cutD
  show (ds.drop 0).take (min (p : Int).toNat ds.length - 0) = _
  rw [List.drop_zero, Nat.sub_zero, Int.toNat_natCast]
  by_cases h : p ≤ ds.length
  · rw [Nat.min_eq_left h]
  · rw [Nat.min_eq_right (by omega), List.take_length, List.take_of_length_le (by omega)]
theorem cut_from (p : Nat) : cutD ds (some (p : Int)) none = ds.drop p := by
  unfold cutD
  show (ds.drop (min (p : Int).toNat ds.length)).take (ds.length - min (p : Int).toNat ds.length) = _
  rw [Int.toNat_natCast]
  by_cases h : p ≤ ds.length
  · rw [Nat.min_eq_left h, List.take_of_length_le (by rw [List.length_drop]; omega)]
  · rw [Nat.min_eq_right (by omega), List.drop_length, List.take_nil, List.drop_eq_nil_of_le (by omega)]
theorem cut_from1 (p : Nat) : cutD ds (some ((p : Int) + 1)) none = ds.drop (p + 1) := cut_from (p + 1)
end
end DW
set_option Elab.async false
set_option linter.all false
set_option maxRecDepth 100000
set_option maxHeartbeats 4000000
namespace DW
open PySem PySem.Spec PyProof.Rows L2
section
variable {K : Fg} {B : Bx K} {te ta tb : TE} {φ φa φb : DE} {tl th : TO} {ol oh : XP → DEnv → Sto → (Option Int → Sto → Prop) → Prop}
def oCatS : DO := fun x y μ Φ => ∃ s t, x = .str s ∧ y = .str t ∧ s.length + t.length ≤ 100000 ∧ Φ (.str (s ++ t)) μ
def oInS (neg : Bool) : DO := fun x y μ Φ => ∃ (c : Nat) (z : Str), x = .str ⟨#[c]⟩ ∧ y = .str z ∧ Φ (.bl (if neg then !decide (c ∈ z.cps.toList) else decide (c ∈ z.cps.toList))) μ
def oIxS : DO := fun x y μ Φ => ∃ z i c, x = .str z ∧ y = .int i ∧ z.length ≤ 100000 ∧ atI z.cps.toList i = some c ∧ Φ (.str ⟨#[c]⟩) μ
def dSlS (φ : DE) (ol oh : XP → DEnv → Sto → (Option Int → Sto → Prop) → Prop) : DE := fun Ψ δ μ Φ => φ Ψ δ μ fun x μ1 => ol Ψ δ μ1 fun lo μ2 => oh Ψ δ μ2 fun hi μ3 => ∃ z, x = .str z ∧ z.length ≤ 100000 ∧ Φ (.str (cutS z lo hi)) μ3
def cStr : DC := fun xs μ Φ => (∃ i, xs = [.int i] ∧ i.natAbs.log2 < 1920 ∧ Φ (.str (toString i)) μ) ∨ ∃ a, xs = [.str a] ∧ Φ (.str a) μ
end
end DW
set_option Elab.async false
set_option linter.all false
set_option maxRecDepth 100000
set_option maxHeartbeats 4000000
namespace DW
open PySem PySem.Spec PyProof.Rows L2
/-- the tuple at a, counted from c -/
def IteT (K : Fg) (a : Addr) (n : Nat) (c : Int) : It :=
  ⟨fun i H => i < n ∧ ∃ (xs : List V) (x : V), SqT K H a xs ∧ xs[i]? = some x, fun i H v H' => ∃ T x, v = .ref T ∧ H T = none ∧ H' = upd H T (.tup [.int (c + (i : Nat)), x]) ∧ ∀ xs, SqT K H a xs → xs[i]? = some x, fun i H => n ≤ i ∧ ∃ xs : List V, SqT K H a xs ∧ xs.length = n⟩
theorem enum_apart {h : Heap} {e it t : Addr} {c : Int} {i : Nat} {old : Value} {items : Array Value} (he : IsEnum h e it c old) (hi : h.IsTupleIter it t i) (ht : h.IsTuple t items) : t ≠ it ∧ e ∉ [it, t] ∧ e ≠ it := by
  obtain ⟨o1, e1, c1, _⟩ := hi
  obtain ⟨o2, e2, c2, _⟩ := ht
  have n1 : t ≠ it := fun z => by subst z; rw [e1] at e2; cases e2; rw [c1] at c2; exact absurd (Value.type.inj c2) (by decide)
  have n2 : e ≠ it := fun z => by
    subst z
    have q : h.get? e = some _ := he
    rw [e1] at q; cases q; exact absurd (Value.type.inj c1) (by decide)
  have n3 : e ≠ t := fun z => by
    subst z
    have q : h.get? e = some _ := he
    rw [e2] at q; cases q; exact absurd (Value.type.inj c2) (by decide)
  exact ⟨n1, by simp [n2, n3], n2⟩
theorem turn_enumT {P : Program} {w : World} {K : Fg} {elts : List Expr} {kk : Nat} {tpos : Pos} (a e it : Addr) (n : Nat) (c : Int) :
    Turn P w K (.Tuple elts kk tpos) (IteT K a n c) [e, it] e (fun i h => i ≤ n ∧ (∃ old, IsEnum h e it (c + (i : Nat)) old) ∧ h.IsTupleIter it a i ∧ e ≠ it) where
  mem := by simp
  obj := fun i h st b hb => by
    obtain ⟨_, ⟨old, he⟩, ⟨o, ho, hc, hd⟩, _⟩ := st
    rcases (show b = e ∨ b = it by simpa using hb) with z | z
    · rw [z]; exact ⟨_, he, fun v q => nomatch q⟩
    · rw [z]; exact ⟨o, ho, fun v q => by rw [hd] at q; cases q⟩
  keep := fun i h h' st k => by
    obtain ⟨hin, ⟨old, he⟩, ⟨o, ho, r⟩, hne⟩ := st
    exact ⟨hin, ⟨old, k e (by simp) _ he⟩, ⟨o, k it (by simp) o ho, r⟩, hne⟩
  item := by
    intro X hP hw hK hc i pins s σ H E I hf st hg
    subst hP hw hK
    obtain ⟨hin, ⟨old, he⟩, hit, hne⟩ := st
    obtain ⟨hlt, xs, x, hq, hx⟩ := hg
    obtain ⟨its, rv, p, hz⟩ := I.tuple hq
    obtain ⟨u, hu, ru⟩ := rv.get hx
    have pt : s.heap.IsTuple a its.toArray := p
    obtain ⟨n1, n2, n3⟩ := enum_apart he hit pt
    have hel : e < s.heap.objs.size := Heap.lt_size he
    have hil : it < s.heap.objs.size := by obtain ⟨_, q, _⟩ := hit; exact Heap.lt_size q
    have hiu : i < its.toArray.size := by rw [List.size_toArray]; exact (List.getElem?_eq_some_iff.mp hu).1
    refine wpAny_pyNext_enum_itemC (Draws.tuple (A := X.A.in1) (I.ok.hd hc) it a n1 its.toArray) he ⟨hit, pt⟩ hiu n3 n2 fun y h' tk hP ho hst hT hsz hk => ?_
    have hy : y = u := by
      have q : its.toArray[i]? = some y := hP
      have q2 : its.toArray[i]? = some u := by simpa using hu
      rw [q2] at q; exact (Option.some.inj q).symm
    subst hy
    refine ⟨_, rfl, wpAny_letOwnedTupleGo_enum (s := { s with heap := h', toks := tk + 1 }) ho fun h'' he' sb => ?_⟩
    have hT2 := (sb.2 _ (Nat.ne_of_gt hel)).trans hT
    have new : ObjOk X.prog X.w (upd H s.heap.objs.size (.tup [.int (c + (i : Nat)), x])) h'' s.heap.objs.size (.tup [.int (c + (i : Nat)), x]) :=
      ⟨by show 2 ≤ sizeLine; decide, [.int (c + (i : Nat)) tk, y], .cons ⟨_, rfl⟩ (.cons ru .nil), ⟨_, hT2, rfl, _, rfl⟩⟩
    have I1 : Inv X pins σ (upd H s.heap.objs.size (.tup [.int (c + (i : Nat)), x])) { s with heap := h'', toks := tk + 1 } :=
      I.turnedNew (ch := [e, it]) (fun b ob hb q => (sb.2 b (fun z => hb (by simp [z]))).trans (hk b ob (fun z => hb (by simp [z])) (fun z => hb (by simp [z])) q)) hf (Nat.le_refl _) new
    refine ⟨.ref s.heap.objs.size, _, I1, rfl, ⟨_, x, rfl, I.hok.fresh (Nat.le_refl _), rfl, fun ys hy => by rw [I.tuple_inj hy hq]; exact hx⟩, ⟨hlt, ⟨y, ?_⟩, ?_, hne⟩, fun b hb => ?_⟩
    · have e1 : c + ((i + 1 : Nat) : Int) = c + ((i : Nat) : Int) + 1 := by omega
      rw [e1]; exact he'
    · obtain ⟨o, q, r⟩ := hst.1
      exact ⟨o, (sb.2 it (Ne.symm hne)).trans q, r⟩
    · have hb' : b < s.heap.objs.size := by
        rcases (show b = e ∨ b = it by simpa using hb) with z | z <;> (rw [z]; assumption)
      rw [upd_ne (Nat.ne_of_lt hb')]
      exact (hf b hb).1
  done := by
    intro X hP hw hK hc i pins s σ H E I hf st hg
    subst hP hw hK
    obtain ⟨hin, ⟨old, he⟩, hit, hne⟩ := st
    obtain ⟨hle, xs, hq, hx⟩ := hg
    obtain ⟨its, rv, p, hz⟩ := I.tuple hq
    have pt : s.heap.IsTuple a its.toArray := p
    obtain ⟨n1, n2, n3⟩ := enum_apart he hit pt
    obtain ⟨f0, f1, f2, f3, f4, f5⟩ := hf it (by simp)
    have hl := rv.length
    have hi : i = its.toArray.size := by rw [List.size_toArray]; omega
    subst hi
    exact wpAny_pyNext_enum_endD (Draws.tuple (A := X.A.in1) (I.ok.hd hc) it a n1 its.toArray) he ⟨hit, pt⟩ fun h' eb => ⟨rfl, I.turned (t' := s.toks) (fun b o hb q => eb b o hb q) f0 f1 f3 f4 f5⟩
  self := fun A i s Q E st h => let ⟨_, ⟨_, he⟩, _⟩ := st; wpAny_pyIter_enum he h
def iEnumT (K : Fg) (c : Int) (ta : TA) : TI := fun σ H R => ta σ H fun vs H1 => ∃ a xs, vs = [.ref a] ∧ SqT K H1 a xs ∧ R (IteT K a xs.length c) H1
theorem pie_enumT {X : Cx} {pins : List (Addr × Obj)} {σ : L2.St} {H1 : Hp} {s1 : Shared} {h' : Heap} {a : Addr} {xs : List V} {c : Int} {R : It → Hp → Prop} {elts : List Expr} {kk : Nat} {tpos : Pos} (I1 : Inv X pins σ H1 s1) (hq : SqT X.K H1 a xs)
    (he : IsEnum h' (s1.heap.objs.size + 1) s1.heap.objs.size c .none) (ho : h'.get? s1.heap.objs.size = some { cls := .type "tuple_iterator", data := .fields #[.ref a, .int 0 0] })
    (hk : ∀ b o, s1.heap.get? b = some o → h'.get? b = some o) (q : R (IteT X.K a xs.length c) H1) : PIE X pins σ (.Tuple elts kk tpos) R (.ref (s1.heap.objs.size + 1)) { s1 with heap := h' } := by
  refine ⟨s1.heap.objs.size + 1, [s1.heap.objs.size + 1, s1.heap.objs.size], _, _, H1, rfl, I1.kept (t' := s1.toks) hk, turn_enumT a (s1.heap.objs.size + 1) s1.heap.objs.size xs.length c, ⟨Nat.zero_le _, ⟨.none, ?_⟩, ⟨_, ho, rfl, rfl⟩, Nat.succ_ne_self _⟩, fun b hb => ?_, q⟩
  · have e : c + ((0 : Nat) : Int) = c := by omega
    rw [e]; exact he
  · have hle : s1.heap.objs.size ≤ b := by
      rcases (show b = s1.heap.objs.size + 1 ∨ b = s1.heap.objs.size by simpa using hb) with z | z
      · rw [z]; exact Nat.le_succ _
      · rw [z]; exact Nat.le_refl _
    exact I1.fpOk hle (I1.hok.fresh hle)
def iEnD (φ : DE) (c : Int) : DI := fun Ψ δ μ Φ => φ Ψ δ μ fun x μ1 => ∃ ds, x = .tup ds ∧ Φ ((List.range ds.length).map fun (i : Nat) => .pr [.int (c + (i : Int)), ds.getD i .non]) μ1
theorem siEnumT {K : Fg} {B : Bx K} {te : TE} {φ : DE} {c : Int} (a : SE B te φ) : SI B (iEnumT K c (tCons te tNil)) (iEnD φ c) := fun σ H δ μ Φ R S q k =>
  a σ H δ μ _ _ S q fun v H1 x μ1 S1 e1 r1 q1 => by
    obtain ⟨ds, rfl, q2⟩ := q1
    obtain ⟨p, vs, rfl, h1, h2⟩ := Rep.tup_inv r1
    refine ⟨p, vs, rfl, h1.sq, k _ _ H1 μ1 S1 e1 (fun i H3 μ3 s3 e3 => ?_) q2⟩
    rw [List.length_map, List.length_range]
    have hl := h2.length
    refine ⟨fun hi => ?_, fun hi => ⟨by omega, vs, (h1.mono e3).sq, rfl⟩⟩
    have hv : i < vs.length := by omega
    refine ⟨⟨hv, vs, vs[i], (h1.mono e3).sq, List.getElem?_eq_getElem hv⟩, fun z H' hy => ?_⟩
    obtain ⟨T, u, rfl, hT, rfl, hu⟩ := hy
    obtain ⟨d, hd, rd⟩ := (h2.mono e3).getV (hu vs (h1.mono e3).sq)
    refine ⟨.pr [.int (c + (i : Int)), d], ?_, s3.new hT, .new hT, rep_tup s3 hT (.cons (.int _ .nil) (.cons rd .nil))⟩
    rw [List.getElem?_map, List.getElem?_range hi]
    show some (D.pr [D.int (c + (i : Int)), ds.getD i .non]) = _
    rw [List.getD_eq_getElem?_getD, hd]
    rfl
end DW
set_option Elab.async false
set_option linter.all false
set_option maxRecDepth 100000
set_option maxHeartbeats 4000000
namespace DW
open PySem PySem.Spec PyProof.Rows L2 NdefX PySem.W
/-- a method that may say super(): its body, at its own activation -/
theorem supfn_of {CX : CXT} {P : Program} {w : World} {K : Fg} {mg : Str → Option Value} {base : Heap} {k : Nat} {f C cc cda : Addr} {name qual : Str} {params : Arguments} {body : List Stmt} {scope : Scope} {kV doc pm ct oc cl : Value} {an od cld : Option Addr}
    {osl csl : Array (Option Value)} {N ps : List Str} {sp : Sp} (lk : K.lookup f = some ⟨oc, od, .func (ksFn name qual params body scope .none kV doc pm an (.ref cda) ct cc), osl⟩) (hcd : codeIn K (.ref cda) qual = true) (S : NScope N ps ["__class__"] scope)
    (lcc : K.lookup cc = some ⟨cl, cld, .cell (some (.ref C)), csl⟩)
    (len : ∀ vs H Q E, sp vs H Q E → vs.length = ps.length)
    (hbody : ∀ (A : Around) (outer : List Env) (s s1 : Shared) (H : Hp) (vs : List V) (Q : VK) (E : XK), Room k (A.deeper (envF ⟨name, qual, params, body, scope, [("__class__", cc)], cda⟩ f s.heap.objs.size)) → sp vs H Q E →
      Inv (ncx CX P w K mg base N ⟨name, qual, params, body, scope, [("__class__", cc)], cda⟩ f A outer s H E) [] (startF N vs [none]) H s1 →
      _root_.PySem.wpAt (model P w) (A.deeper (envF ⟨name, qual, params, body, scope, [("__class__", cc)], cda⟩ f s.heap.objs.size)) (.func body (envF ⟨name, qual, params, body, scope, [("__class__", cc)], cda⟩ f s.heap.objs.size)) (execs body (envF ⟨name, qual, params, body, scope, [("__class__", cc)], cda⟩ f s.heap.objs.size))
        (SP (ncx CX P w K mg base N ⟨name, qual, params, body, scope, [("__class__", cc)], cda⟩ f A outer s H E) [] { nx := fun _ H' => Q .non H', rt := Q }) (ncx CX P w K mg base N ⟨name, qual, params, body, scope, [("__class__", cc)], cda⟩ f A outer s H E).xe s1) :
    FnOk P w K mg base CX (k + 1) f (ksFn name qual params body scope .none kV doc pm an (.ref cda) ct cc) ps sp := by
  refine ⟨len, fun A outer s H args us vs Q E hr e0 hb r hsp => ?_⟩
  have hl := len _ _ _ _ hsp
  have KX : K.In s.heap := e0.mod.kin.keeps fun b o e => (e0.bs b o e).1
  have lim : s.heap.NoLimit := e0.mod.nolimit.keeps fun b o e => (e0.bs b o e).1
  refine ks_codeAny_call_defAt (fd := ksFn name qual params body scope .none kV doc pm an (.ref cda) ct cc) (body := body) (binds := ps.zip us) hr.depth (KX _ _ lk) rfl lim (codeRec_of KX hcd) rfl hb S.nocell (fun ⟨n, _⟩ hy => S.par n (List.of_mem_zip hy).1) (fun h₁ hns hk₁ => ?_) S.co S.gen S.kind
  have Cc : CellsAt [("__class__", cc)] ["__class__"] [none] s.heap H := by
    refine ⟨rfl, fun y c e => ?_, fun x y c e1 e2 => ?_, fun i y e => ?_⟩
    · have ec : c = cc := by
        simp only [List.lookup] at e
        split at e <;> simp_all
      subst ec
      exact ⟨(e0.bs _ _ (e0.mod.kin _ _ lcc)).2, _, _, KX _ _ lcc, rfl⟩
    · simp only [List.lookup] at e1 e2
      split at e1 <;> split at e2 <;> simp_all
    · cases i with
      | zero => cases e; exact ⟨cc, rfl, fun v z => by cases z⟩
      | succ i => cases i <;> cases e
  have I := inv_startN (CX := CX) (P := P) (w := w) (K := K) (mg := mg) (base := base) (F := ⟨name, qual, params, body, scope, [("__class__", cc)], cda⟩) (f := f) (E := E) (tk := s.toks + (ps.zip us).length) S hr.hd e0 hl r Cc hns hk₁
  refine ks_wpAt_mono (hbody A outer s _ H vs Q E (hr.deeper _) hsp I) (fun fl s' hs => ?_) fun e s' hs => hs
  have fin : ∀ {σ' : L2.St} {H' : Hp} {v : V} {u : Value}, Inv (ncx CX P w K mg base N ⟨name, qual, params, body, scope, [("__class__", cc)], cda⟩ f A outer s H E) [] σ' H' s' → L2.RelV v u → Q v H' → CE outer P w H s Q u s' :=
    fun {σ' H' v u} J rv q => ⟨v, H', J.os, J.bare, J.base, J.hok, rv, q⟩
  cases fl with
  | ret u =>
    obtain ⟨v, σ', H', J, rv, q⟩ := hs
    exact fin J rv q
  | next =>
    obtain ⟨σ', H', J, q⟩ := hs
    exact fin (v := V.non) (u := Value.none) J rfl q
  | brk =>
    obtain ⟨_, _, _, q⟩ := hs
    exact False.elim q
  | cont =>
    obtain ⟨_, _, _, q⟩ := hs
    exact False.elim q
end DW
set_option Elab.async false
set_option linter.all false
set_option maxRecDepth 100000
set_option maxHeartbeats 4000000
namespace DW
open PySem PySem.Spec PyProof.Rows L2 NdefX PySem.W
/-- the call of the bound __init__ -/
theorem mw_init {X : Cx} {pins : List (Addr × Obj)} {σ : L2.St} {H : Hp} {s : Shared} {a C u : Addr} {us : List Value} {A : Around} {E : Value → Shared → Prop} {Q : Value → Shared → Prop} (T : OexC X.K C) (I : Inv X pins σ H s) (e : H a = some (exo a C none)) (hu : s.heap.get? u = some (kxs_mw "ValueError.__init__" a)) (hl : us.length ≤ sizeLine)
    (h : ∀ s', Inv X pins σ H s' → Q .none s') : wpAny (model X.prog X.w) A (call (.ref u) us) Q E s := by
  obtain ⟨nm, q, N, bs, bm, sn, sub, ab, col, dd, k0, k1, k2, k3, k5, hC, hbm⟩ := T.cls
  obtain ⟨t1, ho⟩ := exo_at I.hok e
  have hC1 := I.kIn _ _ hC
  obtain ⟨hp, g, d, t, os⟩ := s
  have fin : ∀ h', (∀ b o, b ≠ a → hp.get? b = some o → h'.get? b = some o) → h'.get? a = some (excRec (.ref C) hp.objs.size none .none .none (.bool false)) → h'.get? hp.objs.size = some (excTup us) → Q .none ⟨h', g, d, t, os⟩ := fun h' k hx _ => by
    have J := I.write (t' := t) (x := a) (e := a) (o := exo a C none) (by rw [e]; exact True.intro) (.inl rfl) k ⟨_, hx⟩ (exo_ok hx)
    have eu : upd H a (exo a C none) = H := by
      funext b
      by_cases hb : b = a
      · rw [hb, upd_same, e]
      · rw [upd_ne hb]
    rw [eu] at J
    exact h _ J
  refine wpAny_call (codeAny_of_tree ?_)
  show wpAny _ A.in1 (callAny (.ref u) ⟨us, []⟩) _ _ _
  simp only [callAny]
  refine wpAny_bind (wpAny_load hu ?_)
  simp only [kxs_mw, show (Value.type "method-wrapper" == Value.type "method" || Value.type "method-wrapper" == Value.type "builtin_function_or_method" || Value.type "method-wrapper" == Value.type "method-wrapper") = true by decide, if_true]
  refine KFB.if_so (by decide) ?_
  refine wpAny_bind (check_bound_init PySem.F.excBase_ValueError.toExcCallFacts hC1 ho rfl ?_)
  refine wpAny_bind (wpAny_pure (wpAny_pure ?_))
  refine ⟨plainId_quiet PySem.F.excBase_ValueError.init.plain _, codeAny_builtin PySem.F.excBase_ValueError.initEntry ?_⟩
  exact exc_init_tree (cls := .ref C) (t0 := t1) (dv := none) (c2 := .none) (c3 := .none) (b4 := .bool false) ho hl fin
/-- what the written part says of a class whose __init__ says super().__init__(..) -/
structure SupC (K : Fg) (C D cc f cda : Addr) (file : Str) : Prop where
  ox : OexC K C
  cell : ∃ cl cld csl, K.lookup cc = some ⟨cl, cld, .cell (some (.ref D)), csl⟩
  own : isClsIn K D = true
  sub : mroIn K C (.ref D) = some true
  ve : subIn K (.ref C) (.type "ValueError") = some true
  opq : nsIn K cStatics "thirdparty.any" = some none
  sup : ks_superIn K C D "__init__" = some (some (.builtin "ValueError.__init__"))
  code : ∃ ccl cdd vs ccs tf, K.lookup cda = some ⟨ccl, cdd, .fields vs, ccs⟩ ∧ vs[2]? = some (.str file tf)
theorem super_line {X : Cx} {qual : Str} {scope : Scope} {L f cda cc a C D : Addr} {file : Str} {fd : FuncData} {oc : Value} {od : Option Addr} {osl : Array (Option Value)} {body : List Stmt} {p0 p1 p2 p3 p4 : Pos} {e1 : Expr} {te : TE} {σ : L2.St} {H : Hp} {s : Shared} {G : Shared → Prop} {ar : Arg}
    (hX : X.env = ksEnv qual scope L f (.ref cda) cc) (T : SupC X.K C D cc f cda file) (hf : X.K.lookup f = some ⟨oc, od, .func fd, osl⟩) (hp : (fd.params.posonlyargs ++ fd.params.args).head? = some ar)
    (hfile : ((X.prog.main.file : Str) == file) = true) (htop : (X.prog.main.scope.names.lookup ("super" : Str)).isSome = false) (hms : X.mg "super" = none)
    (hks : scope.names.lookup ("super" : Str) = some .globalImplicit) (hkc : scope.names.lookup ("__class__" : Str) = some .free) (hka : scope.names.lookup ar.arg = some .local)
    (I : Inv X [] σ H s) (hN : X.N[0]? = some ar.arg) (h0 : σ[0]? = some (some (.ref a))) (ea : H a = some (exo a C none)) (he : PE X e1 te)
    (hst : starEach [e1] X.env = (false, eval e1 X.env) :: starEach [] X.env) (hpl : (backTo p3 (starEach [] X.env)).any (·.1) = false)
    (hi : interactive X.env = false) (hsw : swapsWith (.Call (.Attribute (.Call (.Name "super" p0) [] [] p1) "__init__" p2) [e1] [] p3) none p4.line X.env = pure false)
    (hev : ∃ pl, eval (.Call (.Attribute (.Call (.Name "super" p0) [] [] p1) "__init__" p2) [e1] [] p3) X.env = (do
      let ov ← attributeBase (.Call (.Name "super" p0) [] [] p1) "__init__" X.env (eval (.Call (.Name "super" p0) [] [] p1) X.env)
      standAt p2.atName
      let (f, first) ← holding [ov] (getMethod ov "__init__" pl)
      callWith p3 f first (backTo p3 (starEach [e1] X.env)) []))
    (h : te σ H fun x H1 => H1 a = some (exo a C none) ∧ ∀ s', Inv X [] σ H1 s' → G s') :
    _root_.PySem.wpAt (model X.prog X.w) X.A (.func body X.env) (exec (.Expr (.Call (.Attribute (.Call (.Name "super" p0) [] [] p1) "__init__" p2) [e1] [] p3) p4) X.env) (fun fl s' => fl = .next ∧ G s') X.xe s := by
  obtain ⟨pl, hev⟩ := hev
  obtain ⟨cl, cld, csl, hcell⟩ := T.cell
  obtain ⟨ccl, cdd, vs, ccs, tf, hcode, hvs⟩ := T.code
  have KX := I.kIn
  refine ks_wpAt_Expr_any (ks_wpAt_MethodCall ?_ hev) hi hsw
  obtain ⟨nm, q, N, bs, bm, sn, sub, ab, col, dd, k0, k1, k2, k3, k5, hC, hbm⟩ := T.ox.cls
  obtain ⟨t1, ho⟩ := exo_at I.hok ea
  obtain ⟨m, hns, hlk⟩ := I.loc
  have hkind := I.ok.kind
  have ksX : X.env.kindOf "super" = some .globalImplicit := by rw [hX]; exact hks
  have kcX : X.env.kindOf "__class__" = some .free := by rw [hX]; exact hkc
  have kaX : X.env.kindOf ar.arg = some .local := by rw [hX]; exact hka
  have ccX : X.env.cells.lookup (("__class__" : Str)) = some cc := by rw [hX]; rfl
  obtain ⟨u0, ru0, lk0⟩ := hlk 0 ar.arg (.ref a) hN h0 (.inl kaX)
  obtain rfl : u0 = Value.ref a := ru0
  have hma : m ar.arg = some (.ref a) := by
    rcases lk0 with ⟨_, q⟩ | ⟨q, _⟩
    · exact q
    · rw [kaX] at q; rcases q with q | q <;> cases q
  obtain ⟨cdD, hcdD⟩ := Option.isSome_iff_exists.mp (show (clsIn X.K D).isSome = true from T.own)
  obtain ⟨oD, hD1, hD2⟩ : ∃ oD, s.heap.get? D = some oD ∧ oD.data = .cls cdD := by
    unfold clsIn at hcdD
    split at hcdD
    · rename_i c d cd' sl ho'
      cases hcdD
      exact ⟨_, KX _ _ ho', rfl⟩
    · cases hcdD
  obtain ⟨cdC, hcdC⟩ : ∃ cd, clsIn X.K C = some cd := by
    have q := T.sub
    unfold mroIn at q
    cases z : clsIn X.K C with
    | none => rw [z] at q; cases q
    | some cd => exact ⟨cd, rfl⟩
  have hsup : alongIn X.K "__init__" ((cdC.mro.dropWhile (· != .ref D)).drop 1) = some (some (.builtin "ValueError.__init__")) := by
    have q := T.sup
    unfold ks_superIn at q
    rw [hcdC] at q
    exact q
  have haC : a ≠ C := fun z => by
    have q := KX _ _ hC
    rw [← z, ho] at q
    cases q
  obtain ⟨mb, hb1, hb2⟩ := I.mod.blt
  obtain ⟨hh, g, d, t, os⟩ := s
  refine ks_wpAt_super_base (f := f) (fd := fd) (ar := ar) ksX kcX (by decide) (by rw [hX]) (KX _ _ hf) rfl hp (by rw [hX]) (KX _ _ hcode) rfl hvs hfile htop ?_
  refine ks_loadName_global hkind ksX (Calls.loadGlobal_builtin (by rw [I.ok.glob]; exact I.mod.glob.keeps I.bk) hms (by rw [I.ok.blt]; exact hb1.keeps I.bk) ((hb2 _ (by decide)).trans (by first | boot_by_name | rfl | kernel_rfl)) ⟨rfl, ?_⟩)
  refine wpAny_loadName_free hkind kcX ccX ⟨_, KX _ _ hcell, rfl⟩ ?_
  refine wpAny_loadName_local hkind kaX hns hma ?_
  refine ks_wpAny_isType_cls hD1 hD2 ⟨rfl, ?_⟩
  refine ks_wpAny_call_super hD1 hD2 ho rfl (fun c z => by cases z) (looks_mroIn KX T.sub) (fun h' e k => ?_)
  have KX' : X.K.In h' := KX.keeps k
  have ho' := k _ _ ho
  have LT : Looks (model X.prog X.w) h' (typeOf (.ref a)) (.ref C) := fun A Q E s k q => wpAny_typeOf_ref (k _ _ ho') q
  refine kxs_getMethod kxs_ValueError e (looks_opaque KX' T.opq) (l₀ := cdC.mro) (fun A Q E s k q => wpAny_bind ((looks_clsIn KX' hcdC) A _ E s k (wpAny_pure q))) rfl KX' hsup (LT.andThen (looks_subIn KX' T.ve)) haC (by decide) ?_
  -- the arguments
  have k2 : ∀ b o, hh.get? b = some o → (h'.push (kxs_mw "ValueError.__init__" a)).get? b = some o := fun b o q => Heap.get?_push_of_some _ (k b o q)
  have I2 : Inv X [] σ H ⟨h'.push (kxs_mw "ValueError.__init__" a), g, d, t + 1, os⟩ := I.kept (t' := t + 1) k2
  have hge : hh.objs.size ≤ h'.objs.size := by
    by_cases z : hh.objs.size = 0
    · omega
    · have hl : hh.objs.size - 1 < hh.objs.size := by omega
      exact Nat.le_of_lt (Heap.lt_size e)
  have I3 : Inv X [(h'.objs.size, kxs_mw "ValueError.__init__" a)] σ H ⟨h'.push (kxs_mw "ValueError.__init__" a), g, d, t + 1, os⟩ := I2.pins_of fun p hp => by
    rw [List.mem_singleton.mp hp]
    refine ⟨Heap.get?_push_size _ rfl, I.hok.fresh hge, ?_, I.nofs hge, fun v z => by cases z⟩
    have := hns.lt
    exact Nat.ne_of_gt (Nat.lt_of_lt_of_le this hge)
  rw [hst]
  refine kxs_callWith (i := "ValueError.__init__") (x := a) (by show (false || (backTo p3 (starEach [] X.env)).any (·.1)) = false; rw [hpl]; rfl) (Calls.evalArgs_plain ?_)
  refine Calls.spliced_cons (thn (he.run _ _ σ H _ I3 h) fun u1 s1 ⟨x1, H1, J1, rx1, ea1, q1⟩ => ?_)
  refine Calls.spliced_nil ?_
  have hu := (J1.pin (h'.objs.size, kxs_mw "ValueError.__init__" a) (List.mem_append_right _ List.mem_cons_self)).1
  refine ⟨hu, mw_init T.ox J1 ea1 hu (by show 1 ≤ sizeLine; decide) fun s' J => ⟨rfl, q1 s' (J.pins_of fun p hp => absurd hp (by simp))⟩⟩
end DW
set_option Elab.async false
set_option linter.all false
set_option maxRecDepth 100000
set_option maxHeartbeats 4000000
namespace DW
open PySem PySem.Spec PyProof.Rows L2 NdefX PySem.W
/-- what __init__(self, f) keeps: self, an error in the making, gets its one field -/
def spInit (K : Fg) (C : Addr) (fld : Str) (okv : V → Hp → Prop) : Sp := fun vs H Q _ => ∃ a v, vs = [.ref a, v] ∧ okv v H ∧ OexC K C ∧ findIn K (.ref C) fld = some none ∧ H a = some (exo a C none) ∧
  ∀ d, H d = none → d ≠ a → Q .non (upd (upd H d (exd d [(fld, v)])) a (exo a C (some d)))
/-- __init__(self, f): super().__init__(text); self.f = f -/
theorem sup_fn {CX : CXT} {P : Program} {w : World} {K : Fg} {mg : Str → Option Value} {base : Heap} {k : Nat} {f C D cc cda : Addr} {name qual fld file : Str} {params : Arguments} {scope : Scope} {kV doc pm ct oc : Value} {an od : Option Addr} {osl : Array (Option Value)} {N : List Str} {okv : V → Hp → Prop}
    {p0 p1 p2 p3 p4 q1 q2 q3 q4 : Pos} {e1 : Expr} {ar : Arg}
    (lk : K.lookup f = some ⟨oc, od, .func (ksFn name qual params [.Expr (.Call (.Attribute (.Call (.Name "super" p0) [] [] p1) "__init__" p2) [e1] [] p3) p4, .Assign [.Attribute (.Name "self" q1) fld q2] (.Name fld q3) q4] scope .none kV doc pm an (.ref cda) ct cc), osl⟩)
    (hcd : codeIn K (.ref cda) qual = true) (S : NScope N ["self", fld] ["__class__"] scope) (T : SupC K C D cc f cda file) (hp : (params.posonlyargs ++ params.args).head? = some ar) (har : ar.arg = "self")
    (hfile : ((P.main.file : Str) == file) = true) (htop : (P.main.scope.names.lookup ("super" : Str)).isSome = false) (hms : mg "super" = none) (hks : scope.names.lookup ("super" : Str) = some .globalImplicit)
    (hdb : (fld == ("__debug__" : Str)) = false)
    (hX : ∀ (X : Cx), X.prog = P → X.w = w → X.K = K → X.N = N → X.env.scope = scope → (∃ L, X.env = ksEnv qual scope L f (.ref cda) cc) → Room k X.A →
      (∃ te, PE X e1 te ∧ ∀ (σ : L2.St) (H : Hp) (v : V), σ[1]? = some (some v) → okv v H → ∀ Q : VK, (∀ x, Q x H) → te σ H Q) ∧
      starEach [e1] X.env = (false, eval e1 X.env) :: starEach [] X.env ∧ (backTo p3 (starEach [] X.env)).any (·.1) = false ∧ interactive X.env = false ∧
      swapsWith (.Call (.Attribute (.Call (.Name "super" p0) [] [] p1) "__init__" p2) [e1] [] p3) none p4.line X.env = pure false ∧
      (∃ pl, eval (.Call (.Attribute (.Call (.Name "super" p0) [] [] p1) "__init__" p2) [e1] [] p3) X.env = (do
        let ov ← attributeBase (.Call (.Name "super" p0) [] [] p1) "__init__" X.env (eval (.Call (.Name "super" p0) [] [] p1) X.env)
        standAt p2.atName
        let (f, first) ← holding [ov] (getMethod ov "__init__" pl)
        callWith p3 f first (backTo p3 (starEach [e1] X.env)) [])) ∧
      swapsWith (.Name fld q3) (some (.Attribute (.Name "self" q1) fld q2)) q4.line X.env = pure false ∧ PE X (.Name "self" q1) (tVar 0) ∧ PE X (.Name fld q3) (tVar 1)) :
    FnOk P w K mg base CX (k + 1) f (ksFn name qual params [.Expr (.Call (.Attribute (.Call (.Name "super" p0) [] [] p1) "__init__" p2) [e1] [] p3) p4, .Assign [.Attribute (.Name "self" q1) fld q2] (.Name fld q3) q4] scope .none kV doc pm an (.ref cda) ct cc) ["self", fld] (spInit K C fld okv) := by
  obtain ⟨cl, cld, csl, lcc⟩ := T.cell
  obtain ⟨_, hC2⟩ : True ∧ True := ⟨trivial, trivial⟩
  refine supfn_of lk hcd S lcc (fun vs H Q E h => ?_) (fun A outer s s1 H vs Q E hr h I => ?_)
  · obtain ⟨a, v, rfl, _⟩ := h; rfl
  obtain ⟨a, v, rfl, hok, hox, hno, ea, hq⟩ := h
  have hlen : N.take 3 = (["self", fld, "__class__"] : List Str) := S.pre
  have hn0 : N[0]? = some ("self" : Str) := by
    have q := congrArg (fun l : List Str => l[0]?) hlen
    rw [List.getElem?_take_of_lt (by decide)] at q
    exact q
  have hl3 : 3 ≤ N.length := by have := congrArg List.length hlen; rw [List.length_take] at this; simp at this; omega
  obtain ⟨⟨te, hte, hmsg⟩, f1, f2, f3, f4, f5, f6, f7, f8⟩ := hX (ncx CX P w K mg base N ⟨name, qual, params, [.Expr (.Call (.Attribute (.Call (.Name "super" p0) [] [] p1) "__init__" p2) [e1] [] p3) p4, .Assign [.Attribute (.Name "self" q1) fld q2] (.Name fld q3) q4], scope, [("__class__", cc)], cda⟩ f A outer s H E) rfl rfl rfl rfl rfl ⟨_, rfl⟩ hr
  have s0 : (startF N [.ref a, v] [none])[0]? = some (some (.ref a)) := rfl
  have s1' : (startF N [.ref a, v] [none])[1]? = some (some v) := rfl
  refine ks_wpAt_execs_cons (ks_wpAt_mono (super_line (X := ncx CX P w K mg base N ⟨name, qual, params, [.Expr (.Call (.Attribute (.Call (.Name "super" p0) [] [] p1) "__init__" p2) [e1] [] p3) p4, .Assign [.Attribute (.Name "self" q1) fld q2] (.Name fld q3) q4], scope, [("__class__", cc)], cda⟩ f A outer s H E) (L := s.heap.objs.size) (σ := startF N [.ref a, v] [none]) (H := H) rfl T lk hp hfile htop hms hks (S.frk _ List.mem_cons_self) (by rw [har]; exact S.par _ List.mem_cons_self) I (by rw [har]; exact hn0) s0 ea hte f1 f2 f3 f4 f5
    (G := fun s' => Inv (ncx CX P w K mg base N ⟨name, qual, params, [.Expr (.Call (.Attribute (.Call (.Name "super" p0) [] [] p1) "__init__" p2) [e1] [] p3) p4, .Assign [.Attribute (.Name "self" q1) fld q2] (.Name fld q3) q4], scope, [("__class__", cc)], cda⟩ f A outer s H E) [] (startF N [.ref a, v] [none]) H s') ?_) (fun fl s' hs => ?_) fun _ _ z => z)
  · exact hmsg _ H v s1' hok _ fun x => ⟨ea, fun s' J => J⟩
  · obtain ⟨rfl, J⟩ := hs
    refine PySem.wpAt_of_wpAny ?_
    refine (pss_one (ps_ost f7 f8 f6)).run [] s' _ H _ J ?_
    refine ⟨v, s1', .ref a, s0, a, C, rfl, hox, hno, .inl ⟨ea, fun dx hd hne => ?_⟩⟩
    exact hq dx hd hne
/-- C(e): an own error made, its context None -/
theorem pmk_sup {CX : CXT} {X : Cx} {x fld : Str} {C fI : Addr} {k : Nat} {fd : FuncData} {ps : List Str} {okv : V → Hp → Prop} {e : Expr} {ta : TA} {p pos : Pos} (T : OexC X.K C) (iC : findIn X.K (.ref C) "__init__" = some (some (.ref fI))) (tI : typeIn X.K (.ref fI) = some (.type "function")) (hno : findIn X.K (.ref C) fld = some none)
    (F1 : FnOk X.prog X.w X.K X.mg X.base CX k fI fd ps (spInit X.K C fld okv)) (hr : Room (k + 1) X.A) (hb : Binds X.K fd ps []) (hx : Passes CX X (fun _ _ _ => False)) (hg : Gl X x) (hm : X.mg x = some (.ref C)) (ha : PA X [e] ta)
    (hdb : (x == ("__debug__" : Str)) = false := by decide) (hst : starEach [e] X.env = (false, eval e X.env) :: starEach [] X.env := by rfl) (hpl : (backTo pos (starEach [] X.env)).any (·.1) = false := by rfl) :
    L2N.PMk X (.Call (.Name x p) [e] [] pos) (fun σ H Q => ta σ H fun vs H1 => ∃ v, vs = [v] ∧ (∀ a, H1 a = none → okv v (upd H1 a (exo a C none))) ∧ ∀ d, H1 d = none → Q (.ref C) (some d) (upd H1 d (.xd [(fld, v)]))) := by
  intro pins s σ H Q I h
  obtain ⟨nm, q, N, bs, bm, sn, sub, ab, col, dd, k0, k1, k2, k3, k5, hC, hbm⟩ := T.cls
  refine wpAny_Call_Name_kw (ld_glob I hg hm ?_ hdb)
  refine callWith_K (h₀ := X.base) I.ok.mod.kin T.kC (thn (ha.run pos pins s σ H _ I h) fun us s1 ⟨vs, H1, I1, r1, v, ev, hok, q1⟩ => ⟨I1.kIn, ?_⟩) hst hpl
  subst ev
  obtain ⟨u1, rfl, rv1⟩ := vals1 r1
  obtain ⟨hp, g, dr, tk, os⟩ := s1
  have hsz : hp.objs.size ≤ hp.objs.size + 1 := Nat.le_succ _
  have hn : H1 (hp.objs.size + 1) = none := I1.hok.fresh hsz
  have kk : ∀ b o, hp.get? b = some o → ((hp.push (kdv_tup [u1])).push (PySem.HandSPX.excO C hp.objs.size)).get? b = some o := fun b o z => Heap.get?_push_of_some _ (Heap.get?_push_of_some _ z)
  have hget : ((hp.push (kdv_tup [u1])).push (PySem.HandSPX.excO C hp.objs.size)).get? (hp.objs.size + 1) = some (PySem.HandSPX.excO C hp.objs.size) := by heap_get
  have I2 : Inv X pins σ (upd H1 (hp.objs.size + 1) (exo (hp.objs.size + 1) C none)) ⟨(hp.push (kdv_tup [u1])).push (PySem.HandSPX.excO C hp.objs.size), g, dr, tk, os⟩ := I1.laid (t' := tk) kk hsz (exo_ok hget)
  have hsp : spInit X.K C fld okv [.ref (hp.objs.size + 1), v] (upd H1 (hp.objs.size + 1) (exo (hp.objs.size + 1) C none)) (fun v' H2 => v' = .non ∧ ∃ d, H2 (hp.objs.size + 1) = some (exo (hp.objs.size + 1) C (some d)) ∧ H2 d = some (exd d [(fld, v)]) ∧ H1 d = none ∧ Q (.ref C) (some d) (upd (L2.del H2 (hp.objs.size + 1)) d (.xd [(fld, v)]))) (fun _ _ _ => False) := by
    refine ⟨_, v, rfl, hok _ hn, T, hno, upd_same, fun d hd hne => ⟨rfl, d, upd_same, ?_, ?_, ?_⟩⟩
    · rw [upd_ne hne, upd_same]
    · rw [upd_ne hne] at hd; exact hd
    · have hd1 : H1 d = none := by rw [upd_ne hne] at hd; exact hd
      have e2 : upd (L2.del (upd (upd (upd H1 (hp.objs.size + 1) (exo (hp.objs.size + 1) C none)) d (exd d [(fld, v)])) (hp.objs.size + 1) (exo (hp.objs.size + 1) C (some d))) (hp.objs.size + 1)) d (.xd [(fld, v)]) = upd H1 d (.xd [(fld, v)]) := by
        funext b
        by_cases h1 : b = d
        · rw [h1, upd_same, upd_same]
        · rw [upd_ne h1, upd_ne h1]
          by_cases h2 : b = hp.objs.size + 1
          · rw [h2, L2.del_same, hn]
          · rw [L2.del_ne h2, upd_ne h2, upd_ne h1, upd_ne h2]
      rw [e2]
      exact q1 d hd1
  have r2 : Vals [V.ref (hp.objs.size + 1), v] [Value.ref (hp.objs.size + 1), u1] := .cons rfl (.cons rv1 .nil)
  have hl : [Value.ref (hp.objs.size + 1), u1].length = ps.length := F1.len _ _ _ _ hsp
  show wpAny _ _ (call (.ref C) [u1]) _ _ _
  refine wpAny_call (PySem.HandSPX.call_own PySem.F.excBase_ValueError (fun Y => PySem.HandSPX.refsVE_contains Y bm hbm) (I1.kIn _ _ hC) (looks_findIn I1.kIn iC) (fun self => bind_fn I1.kIn self tI) (by show 1 ≤ sizeLine; decide)
    (codeAny_mono (F1.run _ X.stack _ _ ⟨[Value.ref (hp.objs.size + 1), u1], []⟩ [Value.ref (hp.objs.size + 1), u1] _ _ (fun _ _ _ => False) (hr.make C [u1] []) (I2.env0.make C [u1] []) (by have := hb _ [Value.ref (hp.objs.size + 1), u1] I2.kIn (by simpa using hl); simpa using this) r2 hsp) fun r s' hq' => ?_))
  cases r with
  | error er => exact hx pins σ _ _ er s' I2 hq'
  | ok fl =>
    cases fl with
    | ret u =>
      obtain ⟨v', H2, os2, bare2, un2, hok2, rv, ev, d, ea, ed, hd1, q2⟩ := hq'
      subst ev
      obtain ⟨h2, g2, d2, t2, os'⟩ := s'
      obtain ⟨t0, G, J, kG, ge, hoe, na⟩ := mk_end0 (d2 := d2) (t2 := t2) I1 hsz kk un2 hok2 os2 bare2 ea ed hd1
      exact ⟨rv, _, _, _, ⟨G, g2, d2, t2, os'⟩, _, .ref C, some d, rfl, J, kG, ge, hoe, ⟨rfl, rfl, fun vs z => by cases z; rfl⟩, rfl, rfl, na, rfl, bare2, raises_own T.exC T.tyC, q2⟩
    | next => exact False.elim hq'
    | brk => exact False.elim hq'
    | cont => exact False.elim hq'
end DW
set_option Elab.async false
set_option linter.all false
set_option maxRecDepth 100000
set_option maxHeartbeats 4000000
namespace DW
open PySem PySem.Spec PyProof.Rows L2
section
variable {K : Fg} {B : Bx K}
def dRaise1 (C : Addr) (fld : Str) (okd : D → Prop) (φ : DE) : DSt := fun Ψ _ δ μ => φ Ψ δ μ fun x μ1 => okd x ∧ Ψ (.mk C (some ([fld], [x]))) δ μ1
theorem sRaise1 {W : WX} {C : Addr} {fld : Str} {okd : D → Prop} {okv : V → Hp → Prop} {te : TE} {φ : DE} (hW : B.W = W) (hok : ∀ (μ : Sto) (H : Hp) (v : V) (d : D), Rep K μ H v d → okd d → okv v H) (a : SE B te φ) :
    SS B (fun _ σ H => (fun (σ : L2.St) (H : Hp) (Q : XK) => tCons te tNil σ H fun vs H1 => ∃ v, vs = [v] ∧ (∀ a, H1 a = none → okv v (upd H1 a (exo a C none))) ∧ ∀ d, H1 d = none → Q (.ref C) (some d) (upd H1 d (.xd [(fld, v)]))) σ H fun cls d H' => W cls d σ H') (dRaise1 C fld okd φ) := fun D Δ σ H δ μ E S q => by
  subst hW
  refine a σ H δ μ _ _ S q fun v H1 x μ1 S1 e1 r1 q1 => ?_
  obtain ⟨q2, q3⟩ := q1
  refine ⟨v, rfl, fun b hb => hok μ1 _ v x (r1.mono (.new hb)) q2, fun d hd => ?_⟩
  have ev : Evo μ1 H1 μ1 (upd H1 d (.xd [(fld, v)])) := .new hd
  exact B.hW _ _ σ _ (.mk C (some ([fld], [x]))) δ μ1 (S1.step ev (S1.sto.new hd)) ⟨rfl, d, [v], rfl, upd_same, .new S1.sto hd, rfl, r1.mono ev⟩ q3
/-- n.f, n the error that a suite holds -/
def dXf (a : Addr) (x : XD) (C : Addr) (f : Str) (φ : DE) : DE := fun Ψ δ μ Φ => φ Ψ δ μ fun y μ1 => y = .hd (.ref a) ∧ ∃ (ns : List Str) (ds : List DW.D) (i : Nat) (d : DW.D), x = .mk C (some (ns, ds)) ∧ ns[i]? = some f ∧ ns.Nodup ∧ ds[i]? = some d ∧ Φ d μ1
theorem zip_lookup : ∀ {ns : List Str} {us : List V} {i : Nat} {f : Str} {v : V}, ns.Nodup → ns[i]? = some f → us[i]? = some v → (ns.zip us).lookup f = some v
  | [], us, i, f, v, _, h, _ => by cases h
  | n :: ns, [], i, f, v, _, _, h => by cases h
  | n :: ns, u :: us, 0, f, v, _, h1, h2 => by
    have e1 := Option.some.inj h1
    have e2 := Option.some.inj h2
    subst e1 e2
    simp [List.lookup]
  | n :: ns, u :: us, i + 1, f, v, hn, h1, h2 => by
    have hne : ¬ (f = n) := fun z => by
      have : f ∈ ns := List.mem_of_getElem? h1
      rw [z] at this
      exact (List.nodup_cons.mp hn).1 this
    have hb : (f == n) = false := by simp [hne]
    show (match f == n with | true => some u | false => (ns.zip us).lookup f) = some v
    rw [hb]
    exact zip_lookup (List.nodup_cons.mp hn).2 h1 h2
def kitE (K : Fg) : XD → V → Option Bool
  | .mk C _, .ref T => PySem.W.kitOne K (.ref C) (.ref T)
  | .mk C _, .ty T => PySem.W.kitOne K (.ref C) (.type T)
  | _, _ => none
def excE (K : Fg) : XD → Prop
  | .mk C _ => L2.ExcC K C
def dIsE (K : Fg) (a : Addr) (x : XD) (ψ : DA) : DE := fun Ψ δ μ Φ => ψ Ψ δ μ fun xs μ1 => ∃ c b, xs = [.hd (.ref a), .hd c] ∧ kitE K x c = some b ∧ excE K x ∧ Φ (.bl b) μ1
end
end DW
set_option Elab.async false
set_option linter.all false
set_option maxRecDepth 100000
set_option maxHeartbeats 4000000
namespace DW
open PySem PySem.Spec PyProof.Rows L2
theorem repr_ints {prog : Program} {w : World} : ∀ {l : List Int} {its : List Value}, Vals (l.map V.int) its → (∀ i ∈ l, i.natAbs.log2 < 1920) → ReprAll prog w its (l.map fun i => Str.ofString (toString i))
  | [], _, r, _ => by cases r; exact .nil
  | y :: l, _, r, h => by
    cases r with
    | cons r1 r2 =>
      obtain ⟨t, rfl⟩ := r1
      exact .cons (ReprIs.int t (h y List.mem_cons_self)) (repr_ints r2 fun z hz => h z (List.mem_cons_of_mem _ hz))
theorem piled_ints : ∀ (l : List Int), (∀ i ∈ l, i.natAbs.log2 < 1920) → piled (l.map fun i => Str.ofString (toString i)) ≤ 3000 * l.length
  | [], _ => by simp [piled]
  | y :: l, h => by
    have ih := piled_ints l fun z hz => h z (List.mem_cons_of_mem _ hz)
    have e := int_text_length_le (k := 1920) (by decide) (h y List.mem_cons_self)
    rw [List.map_cons, piled_cons, PySem.ofString_length, List.length_cons]
    omega
def tFmtI (K : Fg) (te : TE) : TE := fun σ H Q => te σ H fun x H1 => ∃ (a : Addr) (l : List Int), x = .ref a ∧ SqT K H1 a (l.map V.int) ∧ (∀ i ∈ l, i.natAbs.log2 < 1920) ∧ l.length ≤ 1000 ∧ ∀ m : Str, m.length ≤ 3000100 → Q (.str m) H1
theorem pe_fmtI {X : Cx} {e : Expr} {te : TE} {pos : Pos} {k : Nat} (hr : Room k X.A) (he : PE X e te) : PE X (.FormattedValue e (-1) none pos) (tFmtI X.K te) := by
  refine ⟨fun pins s σ H Q I h => ?_⟩
  refine wpAny_FormattedValue_plain (thn (he.run pins s σ H _ I h) fun v s1 hv => ?_)
  obtain ⟨x, H1, I1, r1, a, l, rfl, ht, hc, hz, q⟩ := hv
  cases r1
  obtain ⟨its, rv, ⟨o, ho, hcl, n, hd⟩, _⟩ := I1.tuple ht
  have hp := piled_ints l hc
  have htx := fmt_text (l.map fun i => Str.ofString (toString i))
  have hu := hr.units
  exact fmt_tuple (ts := l.map fun i => Str.ofString (toString i)) (by omega) ho hcl hd (repr_ints rv hc) (by rw [sizeLine_eq]; omega) fun m u tk hm => ⟨.str m, H1, I1.tok _, ⟨u, rfl⟩, q m (by omega)⟩
def okPath (K : Fg) : V → Hp → Prop := fun v H => ∃ (a : Addr) (l : List Int), v = .ref a ∧ SqT K H a (l.map V.int) ∧ (∀ i ∈ l, i.natAbs.log2 < 1920) ∧ l.length ≤ 1000
theorem strlen_append (a b : Str) : (a ++ b).length = a.length + b.length := by first | exact PySem.Str.length_append a b | exact StrLaws.length_append a b | exact PySem.StrLaws.length_append a b
/-- f"..{path}.." -/
theorem msg_path {X : Cx} {s1 s2 : Str} {k1 k2 : Nat} {k : Nat} {fld : Str} {q1 q2 q3 q4 q5 : Pos} (hr : Room k X.A) (h1 : s1.length ≤ 1000) (h2 : s2.length ≤ 1000) (hv : PE X (.Name fld q2) (tVar 1)) :
    ∃ te, PE X (.JoinedStr [.Constant (.str s1) k1 q1, .FormattedValue (.Name fld q2) (-1) none q3, .Constant (.str s2) k2 q5] q4) te ∧ ∀ (σ : L2.St) (H : Hp) (v : V), σ[1]? = some (some v) → okPath X.K v H → ∀ Q : VK, (∀ x, Q x H) → te σ H Q :=
  ⟨_, pe_joined (.cons pe_str (.cons (pe_fmtI hr hv) (.cons pe_str .nil))), fun σ H v e ⟨a, l, ev, hs, hi, hl⟩ Q hq => by
    subst ev
    refine ⟨s1, rfl, ?_, .ref a, e, a, l, rfl, hs, hi, hl, fun m hm => ⟨m, rfl, ?_, s2, rfl, ?_, hq _⟩⟩
    · rw [strlen_append, sizeLine_eq]; show 0 + _ ≤ _; omega
    · rw [strlen_append, strlen_append, sizeLine_eq]; show 0 + _ + _ ≤ _; omega
    · rw [strlen_append, strlen_append, strlen_append, sizeLine_eq]; show 0 + _ + _ + _ ≤ _; omega⟩
theorem reps_int_inv {K : Fg} {μ : Sto} {H : Hp} : ∀ {vs : List V} {ns : List Int}, Reps K μ H vs (ns.map D.int) → vs = ns.map V.int
  | [], [], _ => rfl
  | [], _ :: _, r => by have := r.length; simp at this
  | _ :: _, [], r => by have := r.length; simp at this
  | v :: vs, n :: ns, r => by
    rw [List.map_cons] at r ⊢
    rw [Rep.int_inv r.split.1, reps_int_inv r.split.2]
def okdPath : D → Prop := fun d => ∃ l : List Int, d = .tup (l.map .int) ∧ (∀ i ∈ l, i.natAbs.log2 < 1920) ∧ l.length ≤ 1000
theorem okdPath_ok {K : Fg} (μ : Sto) (H : Hp) (v : V) (d : D) (r : Rep K μ H v d) (h : okdPath d) : okPath K v H := by
  obtain ⟨l, rfl, hi, hl⟩ := h
  obtain ⟨a, vs, rfl, ht, hr⟩ := Rep.tup_inv r
  have e := reps_int_inv hr
  subst e
  exact ⟨a, l, rfl, ht.sq, hi, hl⟩
end DW
set_option Elab.async false
set_option linter.all false
set_option maxRecDepth 100000
namespace DW
open PySem PySem.Spec PyProof.Rows L2
section
variable {K : Fg} {μ : Sto} {Φ : DK}
/-- len of a text -/
def cLenStr : DC := fun xs μ Φ => ∃ z, xs = [.str z] ∧ z.length ≤ 100000 ∧ Φ (.int z.length) μ
theorem w_lenStr {s : Str} : cLenStr [.str s] μ Φ = ((TL.tl s).length ≤ 100000 ∧ Φ (.int (TL.tl s).length) μ) := propext ⟨fun ⟨z, e, h1, q⟩ => by cases e; exact ⟨h1, q⟩, fun ⟨h1, q⟩ => ⟨s, rfl, h1, q⟩⟩
theorem w_catStr {s t : Str} : oCatS (.str s) (.str t) μ Φ = ((TL.tl s).length + (TL.tl t).length ≤ 100000 ∧ Φ (.str (s ++ t)) μ) := propext ⟨fun ⟨a, b, e1, e2, h, q⟩ => by cases e1; cases e2; exact ⟨h, q⟩, fun ⟨h, q⟩ => ⟨s, t, rfl, rfl, h, q⟩⟩
theorem w_ixStr {s : Str} {i : Int} : oIxS (.str s) (.int i) μ Φ = ((TL.tl s).length ≤ 100000 ∧ ∃ c, atI (TL.tl s) i = some c ∧ Φ (.str ⟨#[c]⟩) μ) := propext ⟨fun ⟨z, j, c, e1, e2, h, h2, q⟩ => by cases e1; cases e2; exact ⟨h, c, h2, q⟩, fun ⟨h, c, h2, q⟩ => ⟨s, i, c, rfl, rfl, h, h2, q⟩⟩
theorem w_inStr {c : Nat} {z : Str} : oInS false (.str ⟨#[c]⟩) (.str z) μ Φ = Φ (.bl (decide (c ∈ TL.tl z))) μ := propext ⟨fun ⟨c', z', e1, e2, q⟩ => by cases e1; cases e2; exact q, fun q => ⟨c, z, rfl, rfl, q⟩⟩
theorem w_strE {s : Str} {P : Str → Prop} : (∃ z, D.str s = D.str z ∧ P z) = P s := propext ⟨fun ⟨z, e, h⟩ => by cases e; exact h, fun h => ⟨s, rfl, h⟩⟩
theorem w_strI {i : Int} : cStr [.int i] μ Φ = (i.natAbs.log2 < 1920 ∧ Φ (.str (toString i)) μ) := propext ⟨(fun h => by
  rcases h with ⟨j, e, h1, q⟩ | ⟨a, e, q⟩
  · cases e; exact ⟨h1, q⟩
  · cases e), fun ⟨h1, q⟩ => .inl ⟨i, rfl, h1, q⟩⟩
theorem w_strS {s : Str} : cStr [.str s] μ Φ = Φ (.str s) μ := propext ⟨(fun h => by
  rcases h with ⟨j, e, h1, q⟩ | ⟨a, e, q⟩
  · cases e
  · cases e; exact q), fun q => .inr ⟨s, rfl, q⟩⟩
end
end DW
set_option Elab.async false
set_option linter.all false
set_option maxRecDepth 100000
namespace DW
open PySem PySem.Spec PyProof.Rows L2
section
variable {K : Fg} {μ : Sto} {Φ : DK} {Ψ : XP} {δ : DEnv}
theorem u_iEn {φ : DE} {c : Int} {Ls : List D → Sto → Prop} : iEnD φ c Ψ δ μ Ls = φ Ψ δ μ fun x μ1 => ∃ ds, x = .tup ds ∧ Ls ((List.range ds.length).map fun (i : Nat) => .pr [.int (c + (i : Int)), ds.getD i .non]) μ1 := rfl
theorem u_raise1 {C : Addr} {fld : Str} {okd : D → Prop} {φ : DE} {Δ : DEnds} : dRaise1 C fld okd φ Ψ Δ δ μ = φ Ψ δ μ fun x μ1 => okd x ∧ Ψ (.mk C (some ([fld], [x]))) δ μ1 := rfl
theorem u_slS {φ : DE} {ol oh : XP → DEnv → Sto → (Option Int → Sto → Prop) → Prop} : dSlS φ ol oh Ψ δ μ Φ = φ Ψ δ μ fun x μ1 => ol Ψ δ μ1 fun lo μ2 => oh Ψ δ μ2 fun hi μ3 => ∃ z, x = .str z ∧ z.length ≤ 100000 ∧ Φ (.str (cutS z lo hi)) μ3 := rfl
def cListStr : DC := fun xs μ Φ => ∃ z : Str, xs = [.str z] ∧ z.length ≤ 100000 ∧ Φ (.lst (z.cps.toList.map fun c => .str ⟨#[c]⟩)) μ
theorem w_listStr {s : Str} : cListStr [.str s] μ Φ = ((TL.tl s).length ≤ 100000 ∧ Φ (.lst ((TL.tl s).map fun c => .str ⟨#[c]⟩)) μ) := propext ⟨fun ⟨z, e, h1, q⟩ => by cases e; exact ⟨h1, q⟩, fun ⟨h1, q⟩ => ⟨s, rfl, h1, q⟩⟩
end
end DW
set_option Elab.async false
set_option linter.all false
set_option maxRecDepth 100000
namespace DW
open PySem PySem.Spec PyProof.Rows L2
structure Two (μ : Sto) (p st : Addr) (L c : List D) (μ' : Sto) : Prop where
  hp : μ p = none
  ne : st ≠ p
  pL : μ' p = some (.lst L)
  sc : μ' st = some (.lst c)
  ot : ∀ a, a ≠ p → a ≠ st → μ' a = μ a
theorem Two.start {μ : Sto} {p st : Addr} {L c : List D} (hp : μ p = none) (hs : μ st = some (.lst c)) : Two μ p st L c (sset μ p (.lst L)) := by
  have ne : st ≠ p := fun z => by rw [z, hp] at hs; cases hs
  exact ⟨hp, ne, sset_same, by rw [sset_ne ne]; exact hs, fun a h _ => sset_ne h⟩
theorem Two.setS {μ μ' : Sto} {p st : Addr} {L c c2 : List D} (T : Two μ p st L c μ') : Two μ p st L c2 (sset μ' st (.lst c2)) :=
  ⟨T.hp, T.ne, by rw [sset_ne (Ne.symm T.ne)]; exact T.pL, sset_same, fun a h1 h2 => by rw [sset_ne h2]; exact T.ot a h1 h2⟩
theorem Two.setP {μ μ' : Sto} {p st : Addr} {L L2 c : List D} (T : Two μ p st L c μ') : Two μ p st L2 c (sset μ' p (.lst L2)) :=
  ⟨T.hp, T.ne, sset_same, by rw [sset_ne T.ne]; exact T.sc, fun a h1 h2 => by rw [sset_ne h1]; exact T.ot a h1 h2⟩
theorem Two.sub {μ μ' : Sto} {p st : Addr} {L c : List D} (T : Two μ p st L c μ') : Sub (sset μ st (.lst c)) μ' := fun a x e => by
  by_cases h : a = st
  · subst h; rw [sset_same] at e; rw [T.sc]; exact e
  · rw [sset_ne h] at e
    have h1 : a ≠ p := fun z => by rw [z, T.hp] at e; cases e
    rw [T.ot a h1 h]; exact e
theorem Two.del {μ μ' : Sto} {p st : Addr} {L c : List D} (T : Two μ p st L c μ') : sdel μ' p = sset μ st (.lst c) := by
  funext a
  unfold sdel
  by_cases h : a = p
  · subst h; rw [if_pos rfl, sset_ne (Ne.symm T.ne), T.hp]
  · rw [if_neg h]
    by_cases h2 : a = st
    · subst h2; rw [sset_same, T.sc]
    · rw [sset_ne h2]; exact T.ot a h h2
/-- a comprehension whose items are drawn from the state at st -/
theorem lcG_drawN {Ψ : XP} {Φ : DK} {n : Nat} {φ : DE} {δw : DEnv} {μ1 : Sto} {xs : List D} {st : Addr} (Sc : List D → Prop) (Inv : Nat → List D → Prop) {c : List D} (hz : xs.length ≤ 100000)
    (hst : μ1 st = some (.lst c)) (h0 : Sc c) (hI : Inv 0 [])
    (hs : ∀ (i : Nat) (d : D) (μ2 : Sto) (X : DK) (acc c : List D), xs[i]? = some d → μ2 st = some (.lst c) → Sc c → Inv i acc → acc.length = i →
      (∀ y c', Sc c' → Inv (i + 1) (acc ++ [y]) → X y (sset μ2 st (.lst c'))) → φ Ψ (δw.set n (some d)) μ2 X)
    (hd : ∀ acc c, Inv xs.length acc → acc.length = xs.length → Sc c → Φ (.lst acc) (sset μ1 st (.lst c))) : LcG (eName n) dYes φ δw Ψ xs μ1 Φ := fun p hp => by
  refine ⟨fun i μ' => ∃ acc c, Two μ1 p st acc c μ' ∧ Sc c ∧ Inv i acc ∧ acc.length = i, ⟨[], c, .start hp hst, h0, hI, rfl⟩, ?_, ?_⟩
  · rintro i d μ2 hi ⟨acc, c, T, s, I, hl⟩
    have hlt : i < xs.length := (List.getElem?_eq_some_iff.mp hi).1
    refine ⟨fun _ => ?_, fun z => nomatch z⟩
    exact hs i d μ2 _ acc c hi T.sc s I hl fun y c' s' I' => ⟨acc, T.setS.pL, by omega, _, c', T.setS.setP, s', I', by simp [hl]⟩
  · rintro μ2 ⟨acc, c, T, s, I, hl⟩
    exact ⟨acc, T.pL, by rw [T.del]; exact hd acc c I hl s⟩
section
variable {K : Fg} {μ : Sto} {Φ : DK} {Ψ : XP} {δ : DEnv}
theorem u_isE {a : Addr} {x : XD} {ψ : DA} : dIsE K a x ψ Ψ δ μ Φ = ψ Ψ δ μ fun xs μ1 => ∃ c b, xs = [.hd (.ref a), .hd c] ∧ kitE K x c = some b ∧ excE K x ∧ Φ (.bl b) μ1 := rfl
theorem w_isE {a : Addr} {c : V} {P : V → Bool → Prop} : (∃ c' b, [D.hd (.ref a), D.hd c] = [.hd (.ref a), .hd c'] ∧ P c' b) = ∃ b, P c b := propext ⟨fun ⟨c', b, e, q⟩ => by cases e; exact ⟨b, q⟩, fun ⟨b, q⟩ => ⟨c, b, rfl, q⟩⟩
theorem u_kitER {C T : Addr} {f : Option (List Str × List D)} : kitE K (.mk C f) (.ref T) = PySem.W.kitOne K (.ref C) (.ref T) := rfl
theorem u_kitET {C : Addr} {T : String} {f : Option (List Str × List D)} : kitE K (.mk C f) (.ty T) = PySem.W.kitOne K (.ref C) (.type T) := rfl
theorem u_excE {C : Addr} {f : Option (List Str × List D)} : excE K (.mk C f) = L2.ExcC K C := rfl
theorem u_xf {a C : Addr} {x : XD} {f : Str} {φ : DE} : dXf a x C f φ Ψ δ μ Φ = φ Ψ δ μ fun y μ1 => y = .hd (.ref a) ∧ ∃ (ns : List Str) (ds : List D) (i : Nat) (d : D), x = .mk C (some (ns, ds)) ∧ ns[i]? = some f ∧ ns.Nodup ∧ ds[i]? = some d ∧ Φ d μ1 := rfl
theorem w_xf1 {C : Addr} {f : Str} {d : D} {P : D → Prop} : (∃ (ns : List Str) (ds : List D) (i : Nat) (d' : D), XD.mk C (some ([f], [d])) = .mk C (some (ns, ds)) ∧ ns[i]? = some f ∧ ns.Nodup ∧ ds[i]? = some d' ∧ P d') = P d := propext ⟨fun ⟨ns, ds, i, d', e, h1, _, h2, q⟩ => by
  cases e
  cases i with
  | zero => cases h2; exact q
  | succ i => simp at h1, fun q => ⟨[f], [d], 0, d, rfl, rfl, by simp, rfl, q⟩⟩
end
end DW
set_option Elab.async false
set_option linter.all false
set_option maxRecDepth 100000
set_option maxHeartbeats 4000000
namespace DW
open PySem PySem.Spec PyProof.Rows L2
section layer
variable {X : Cx} {CX : CXT} {k : Nat} {f C : Addr} {fd : FuncData} {ps : List Str} {sp : Sp} {E : L2.St → XK} {x m : Str} {p pos apos : Pos} {e o : Expr} {es : List Expr} {ta : TE} {t : TA}
theorem run_makeS {pins : List (Addr × Obj)} {σ : L2.St} {H : Hp} {s : Shared} {Q : VK} {us : List Value} {vs : List V} (M : Mk X.K C f) (F : FnOk X.prog X.w X.K X.mg X.base CX k f fd ps sp) (hr : Room (k + 1) X.A) (hb : Binds X.K fd ps [])
    (hx : ∀ σ, PassesAt CX X σ (E σ)) (I : Inv X pins σ H s) (r : Vals vs us)
    (h : ∀ x dx, H x = none → H dx = none → dx ≠ x → sp (.ref x :: vs) (upd (upd H dx (.own x)) x (.ins C dx [])) (fun v H2 => v = .non ∧ Q (.ref x) H2) (E σ)) :
    wpAny (model X.prog X.w) X.A (call (.ref C) us) (EP X pins σ Q) X.xe s := by
  have hq := h (s.heap.objs.size + 1) s.heap.objs.size (I.hok.fresh (Nat.le_succ _)) (I.hok.fresh (Nat.le_refl _)) (Nat.ne_of_lt (Nat.lt_succ_self _))
  have I2 := Inv.made (C := C) I
  have r2 : Vals (V.ref (s.heap.objs.size + 1) :: vs) (Value.ref (s.heap.objs.size + 1) :: us) := .cons rfl r
  have hl : (Value.ref (s.heap.objs.size + 1) :: us).length = ps.length := by
    have e := r2.length
    rw [F.len _ _ _ _ hq] at e
    exact e.symm
  have hb2 := hb _ (Value.ref (s.heap.objs.size + 1) :: us) I2.kIn (by rw [List.append_nil]; exact hl)
  rw [List.append_nil] at hb2
  refine wpAny_call (make_map (f := f) I.kIn M.makes M.init (beq_iff_eq.mp M.fn) (codeAny_mono (F.run _ X.stack _ _ ⟨Value.ref (s.heap.objs.size + 1) :: us, []⟩ (Value.ref (s.heap.objs.size + 1) :: us) _ _ (E σ) (hr.make C us [])
    (I2.env0.make C us []) hb2 r2 hq) fun r s' hq' => ?_))
  cases r with
  | error e => exact hx σ pins _ _ e s' I2 hq'
  | ok fl =>
    cases fl with
    | ret u =>
      obtain ⟨v, H', I3, rv, ev, q3⟩ := I2.after hq'
      subst ev
      exact ⟨rv, ⟨V.ref (s.heap.objs.size + 1), H', I3, rfl, q3⟩⟩
    | next => exact False.elim hq'
    | brk => exact False.elim hq'
    | cont => exact False.elim hq'
def tMakeS (C : Addr) (sp : Sp) (E : L2.St → XK) (t : TA) : TE := fun σ H Q => t σ H fun vs H1 => ∀ x dx, H1 x = none → H1 dx = none → dx ≠ x → sp (.ref x :: vs) (upd (upd H1 dx (.own x)) x (.ins C dx [])) (fun v H2 => v = .non ∧ Q (.ref x) H2) (E σ)
theorem pe_makeS (M : Mk X.K C f) (F : FnOk X.prog X.w X.K X.mg X.base CX k f fd ps sp) (hr : Room (k + 1) X.A) (hg : Gl X x) (hm : X.mg x = some (.ref C)) (hb : Binds X.K fd ps []) (hx : ∀ σ, PassesAt CX X σ (E σ))
    (ha : PA X (e :: es) t) (hdb : (x == ("__debug__" : Str)) = false := by decide) (he : starEach (e :: es) X.env = (false, eval e X.env) :: starEach es X.env := by rfl) (hpl : (backTo pos (starEach es X.env)).any (·.1) = false := by rfl) :
    PE X (.Call (.Name x p) (e :: es) [] pos) (tMakeS C sp E t) := by
  refine ⟨fun pins s σ H Q I h => ?_⟩
  refine wpAny_Call_Name_kw (ld_glob I hg hm ?_ hdb)
  refine PySem.W.callWith_K (h₀ := X.base) I.ok.mod.kin M.kp (thn (ha.run pos pins s σ H _ I h) fun us s1 ⟨vs, H1, I1, r, q⟩ => ⟨I1.kIn, ?_⟩) he hpl
  exact run_makeS M F hr hb hx I1 r q
end layer
section
variable {K : Fg} {B : Bx K} {ta tv : TE} {φ φa φv : DE} {tas : TA} {ψ : DA} {μ : Sto} {H : Hp}
theorem Rep.obj_inv {v : V} {C : Addr} {ns : List Str} {ds : List D} (h : Rep K μ H v (.obj C ns ds)) : ∃ a dx us, v = .ref a ∧ H a = some (.ins C dx (ns.zip us)) ∧ NM μ a ∧ us.length = ns.length ∧ Reps K μ H us ds := by
  cases h with
  | obj h1 h2 h3 h4 _ => exact ⟨_, _, _, rfl, h1, h2, h3, h4⟩
/-- C(..), C a class whose __init__ keeps c -/
def dMakeS (C : Addr) (c : Con) (ψ : DA) : DE := fun Ψ δ μ Φ => ψ Ψ δ μ fun ds μ1 => ∀ x, μ1 x = none → c (.hd (.ref x) :: ds) (sset μ1 x (.ins C [] [])) (fun d μ2 => d = .non ∧ ∃ ns es, μ2 x = some (.ins C ns es) ∧ Φ (.obj C ns es) (sdel μ2 x)) (fun y μ2 => Ψ y δ μ2)
theorem sMakeS {C : Addr} {c : Con} (a : SA B tas ψ) : SE B (tMakeS C (spOf K c) (WE B.W) tas) (dMakeS C c ψ) := fun σ H δ μ Φ Q S q k =>
  a σ H δ μ _ _ S q fun vs H1 xs μ1 S1 e1 r1 q1 x dx hx hdx hne => by
    have hx' : upd H1 dx (.own x) x = none := by rw [upd_ne (Ne.symm hne)]; exact hx
    have ev0 : Evo μ1 H1 μ1 (upd H1 dx (.own x)) := .new hdx
    have st0 : StoOk K μ1 (upd H1 dx (.own x)) := S1.sto.new hdx
    have ev1 : Evo μ1 (upd H1 dx (.own x)) (sset μ1 x (.ins C [] [])) (upd (upd H1 dx (.own x)) x (.ins C dx [])) := .newC st0 hx'
    have st1 : StoOk K (sset μ1 x (.ins C [] [])) (upd (upd H1 dx (.own x)) x (.ins C dx [])) := st0.cell ev1 ⟨dx, [], upd_same, rfl, .nil⟩
    have ev := ev0.trans ev1
    refine ⟨sset μ1 x (.ins C [] []), .hd (.ref x) :: xs, _, _, st1, .hd _ (r1.mono ev), q1 x (S1.sto.fresh hx), fun v H' d μ' e s r ⟨hd, ns, es, hc, hq⟩ => ?_, fun cls dd H' y μ' e s rx hΨ => ?_⟩
    · subst hd
      obtain rfl := Rep.non_inv r
      refine ⟨rfl, ?_⟩
      obtain ⟨dx', us, hH, hl, hr⟩ := s x _ hc
      have sb : Sub (sdel μ' x) μ' := sdel_sub
      have e2 : Evo μ' H' (sdel μ' x) H' := sb.evo
      exact k _ H' _ (sdel μ' x) (S1.step (ev.trans (e.trans e2)) (sb.sto s)) (e1.trans (ev.trans (e.trans e2))) (.obj hH (NM.of sdel_same) hl (hr.mono e2) .nil) hq
    · exact B.hW cls dd σ H' y δ μ' (S1.step (ev.trans e) s) rx hΨ
/-- x.f, x an instance at rest -/
def dFld (C : Addr) (NS : List Str) (i : Nat) (φ : DE) : DE := fun Ψ δ μ Φ => φ Ψ δ μ fun x μ1 => ∃ ds d, x = .obj C NS ds ∧ ds[i]? = some d ∧ Φ d μ1
theorem sFldO {C : Addr} {NS : List Str} {f : Str} {i : Nat} (c : Cls K C) (n : NoAttr K C f) (hi : NS[i]? = some f) (hn : NS.Nodup) (a : SE B ta φ) : SE B (tFld K ta f) (dFld C NS i φ) := fun σ H δ μ Φ Q S q k =>
  a σ H δ μ _ _ S q fun v H1 x μ1 S1 e1 r1 q1 => by
    obtain ⟨ds, d, rfl, hd, q⟩ := q1
    obtain ⟨p, dx, us, rfl, hH, hnm, hl, hr⟩ := Rep.obj_inv r1
    obtain ⟨u, hu, ru⟩ := hr.get hd
    exact ⟨p, C, dx, _, u, rfl, hH, c, n, zip_lookup hn hi hu, k u H1 d μ1 S1 e1 ru q⟩
theorem putF_new {f : Str} {v : V} : ∀ {ns : List Str} {us : List V}, f ∉ ns → us.length = ns.length → putF f v (ns.zip us) = (ns ++ [f]).zip (us ++ [v])
  | [], [], _, _ => rfl
  | [], _ :: _, _, h => by simp at h
  | _ :: _, [], _, h => by simp at h
  | n :: ns, u :: us, hf, hl => by
    show (if n = f then (n, v) :: ns.zip us else (n, u) :: putF f v (ns.zip us)) = _
    rw [if_neg (fun e => hf (by rw [e]; exact List.mem_cons_self)), putF_new (fun h => hf (List.mem_cons_of_mem _ h)) (by simpa using hl)]
    rfl
/-- self.f = value, a new field of an instance in the making -/
def dSetF (C : Addr) (f : Str) (φv φa : DE) : DSt := fun Ψ Δ δ μ => φv Ψ δ μ fun y μ1 => φa Ψ δ μ1 fun x μ2 => ∃ a ns ds, x = .hd (.ref a) ∧ μ2 a = some (.ins C ns ds) ∧ f ∉ ns ∧ ns.length < 1000 ∧ Δ.nx δ (sset μ2 a (.ins C (ns ++ [f]) (ds ++ [y])))
theorem sSetF {C : Addr} {f : Str} (c : Cls K C) (n : NoAttr K C f) (b : SE B tv φv) (a : SE B ta φa) : SS B (sFld K ta tv f) (dSetF C f φv φa) := fun D Δ σ H δ μ E S q =>
  b σ H δ μ _ _ S q fun w H1 y μ1 S1 e1 r1 q1 => a σ H1 δ μ1 _ _ S1 q1 fun v H2 x μ2 S2 e2 r2 q2 => by
    obtain ⟨p, ns, ds, rfl, hc, hf, hz, q⟩ := q2
    obtain rfl := Rep.hd_inv r2
    obtain ⟨dx, us, hH, hl, hr⟩ := S2.sto p _ hc
    refine ⟨p, C, dx, _, rfl, hH, c, n, by rw [List.length_zip, hl, Nat.min_self]; exact hz, ?_⟩
    rw [putF_new hf hl]
    have ev : Evo μ2 H2 (sset μ2 p (.ins C (ns ++ [f]) (ds ++ [y]))) (upd H2 p (.ins C dx ((ns ++ [f]).zip (us ++ [w])))) := .cell hc fun h => h.notI hc
    exact E.nx σ _ δ _ (S2.step ev (S2.sto.cell ev ⟨dx, us ++ [w], upd_same, by simp [hl], (hr.append (r1.mono e2)).mono ev⟩)) q
/-- x.m(..), x an instance at rest -/
def dMethX (C : Addr) (NS : List Str) (c : Con) (φ : DE) (ψ : DA) : DE := fun Ψ δ μ Φ => φ Ψ δ μ fun x μ1 => ∃ es, x = .obj C NS es ∧ ψ Ψ δ μ1 fun ds μ2 => c (x :: ds) μ2 Φ fun y μ3 => Ψ y δ μ3
end
end DW
set_option Elab.async false
set_option linter.all false
set_option maxRecDepth 100000
set_option maxHeartbeats 4000000
namespace DW
open PySem PySem.Spec PyProof.Rows L2
section
variable {P : Program} {w : World} {A : Around} {E : Value → Shared → Prop} {s : Shared}
abbrev noneIn (w : World) : Obj := { cls := .type "set", dict := none, data := .set #[] 0 (.fresh 0 0 (!w.params.followText "set-order")) }
/-- what set.__init__ leaves of a list of ints -/
def SetMade (w : World) (s : Shared) (zs : List Int) (s2 : Shared) : Prop := ∃ (hp : Heap) (tk c : Nat), s2 = { s with heap := hp, toks := tk } ∧ SetR w hp s.heap.objs.size (fun j => decide (j ∈ zs)) c ∧ c ≤ zs.length ∧ ∀ b o, s.heap.get? b = some o → hp.get? b = some o
theorem set_init_list {l : Addr} {arr : Array Value} (zs : List Int) (cold : A.handled = none) (isl : s.heap.IsList l arr) (zz : IntsAre arr.toList zs) (few : zs.length + 1 < scanBound) :
    codeAny (model P w) A (.call (.builtin "set.__init__") ⟨[.ref s.heap.objs.size, .ref l], []⟩) (wants (fun r s2 => r = .none ∧ SetMade w s zs s2) E) { s with heap := s.heap.push (noneIn w) } := by
  have many : arr.size = zs.length := by
    have q := IntsAre.length zz
    rw [Array.length_toList] at q
    exact q
  have S0 : (s.heap.push (noneIn w)).get? s.heap.objs.size = some (noneIn w) := Heap.get?_push_size _ rfl
  refine codeAny_call_builtin F.called_set.init.plain F.entry_set_init (check_set_init_1 (s := { s with heap := s.heap.push (noneIn w) }) ⟨_, S0, rfl⟩ ?_)
  have il : (s.heap.push (noneIn w)).IsList l arr := isl.push _
  have ll : l < s.heap.objs.size := by obtain ⟨o, ho, _⟩ := isl; exact Heap.lt_size ho
  obtain ⟨⟨c0, d0, x0, sl0⟩, ho, hc, n0, hd⟩ := id il
  simp only at hc hd
  subst hc hd
  have g1 := F.sub_list_set
  have g2 := F.sub_list_frozenset
  have g3 : (Value.type "list" == Value.type "dict") = false := by decide
  unfold Builtin.«set.__init__» noKeywords Builtin.Frozenset.updateFrom
  generalize hPI : pyIter = PI
  wp_walk
  subst hPI
  refine wpAny_pyIter_list il (wpAny_bind (wpAny_runValue ?_))
  have z1 : (s.heap.push (noneIn w)).objs.size = s.heap.objs.size + 1 := Heap.size_push ..
  have cold3 : A.in1.in1.handled = none := by simp [cold]
  have apart : l ≠ (s.heap.push (noneIn w)).objs.size := by rw [z1]; exact Nat.ne_of_lt (Nat.lt_succ_of_lt ll)
  have apart2 : s.heap.objs.size ∉ [(s.heap.push (noneIn w)).objs.size, l] := by
    rw [z1]
    intro q
    rcases List.mem_cons.1 q with q | q
    · exact absurd q (Nat.ne_of_lt (Nat.lt_succ_self _))
    · exact absurd (List.mem_singleton.1 q) (Nat.ne_of_gt ll)
  have vals : ∀ (i : Nat) (v : Value), arr[i]? = some v → ∃ k t, zs[i]? = some k ∧ v = .int k t := fun i v hv => by
    have lt : i < zs.length := by rw [← many]; exact (Array.getElem?_eq_some_iff.mp hv).1
    obtain ⟨t, e⟩ := zz.int_at i v (by rw [Array.getElem?_toList]; exact hv)
    exact ⟨zs[i], t, List.getElem?_eq_getElem lt, by rw [e, List.getD_eq_getElem?_getD, List.getElem?_eq_getElem lt] <;> rfl⟩
  have start : ((s.heap.push (noneIn w)).push { cls := .type "list_iterator", data := .fields #[.ref l, .int 0 0] }).get? s.heap.objs.size = some (noneIn w) := Heap.get?_push_of_some _ S0
  refine set_update_ints ((Walks.list cold3 _ l apart arr).toS) s.heap.objs.size apart2 zs many few vals (arr.size - 0) 0 { s with heap := (s.heap.push (noneIn w)).push { cls := .type "list_iterator", data := .fields #[.ref l, .int 0 0] } } (by omega) (Nat.zero_le _) ⟨⟨_, Heap.get?_push_size _ rfl, rfl, rfl⟩, il.push _⟩ ?h0 ?hf
  · exact ⟨0, Nat.le_refl 0, setR_new_at start⟩
  intro s2 c mv lc hr
  obtain ⟨hp2, gg, dd, tt, oo⟩ := s2
  obtain rfl : gg = s.gens := mv.gens
  obtain rfl : dd = s.drawn := mv.drawn
  obtain rfl : oo = s.os := mv.os
  rw [many] at lc
  refine wpAny_pure (wpAny_pure ⟨rfl, hp2, tt, c, rfl, hr, lc, fun b o e => ?_⟩)
  have lb : b < s.heap.objs.size := Heap.lt_size e
  refine mv.heap b o (fun q => ?_) (Heap.get?_push_of_some _ (Heap.get?_push_of_some _ e))
  rcases List.mem_cons.1 q with q | q
  · exact absurd q (Nat.ne_of_lt lb)
  · have := List.mem_singleton.1 q; rw [z1] at this; exact absurd this (Nat.ne_of_lt (Nat.lt_succ_of_lt lb))
theorem set_of_list {l : Addr} {arr : Array Value} (zs : List Int) {G : Value → Shared → Prop} (cold : A.handled = none) (isl : s.heap.IsList l arr) (zz : IntsAre arr.toList zs) (few : zs.length + 1 < scanBound)
    (fin : ∀ s2, SetMade w s zs s2 → G (.ref s.heap.objs.size) s2) : wpAny (model P w) A (call (.type "set") [.ref l]) G E s := by
  obtain ⟨c0, t0, m0⟩ := F.called_set.mro
  have a1 := F.called_set.made; have a2 := F.called_set.sub; have a3 := F.called_set.notType; have a4 := F.called_set.canCreate
  have a5 := F.typeCall_set_1 (.ref l)
  refine wpAny_call (codeAny_of_tree (show wpAny _ _ (callAny (.type "set") _) _ _ _ from wpAny_pure ⟨Code.quiet_builtin _ (by decide +kernel), codeAny_builtin F.entry_type_call ?_⟩))
  rw [Around.under_plain (weight_type_call_type "set" [.ref l] []) rfl]
  repeat (any_goals (first | assumption | wp_step))
  refine codeAny_mono (code_set_led1 (.ref l) (E := E) (Q₁ := fun u s1 => u = .ref s.heap.objs.size ∧ s1 = { s with heap := s.heap.push (noneIn w) }) ⟨rfl, rfl⟩) fun r s1 hr => ?_
  match r, hr with
  | .error e, hr => exact hr
  | .ok .next, hr => exact hr.elim
  | .ok .brk, hr => exact hr.elim
  | .ok .cont, hr => exact hr.elim
  | .ok (.ret u), hr =>
    obtain ⟨rfl, rfl⟩ := hr
    have T : Shared.TypeIs { s with heap := s.heap.push (noneIn w) } (.ref s.heap.objs.size) "set" := ⟨_, Heap.get?_push_size _ rfl, rfl⟩
    have a6 := F.called_set.init.lookup; have a7 := F.called_set.init.bind (.ref s.heap.objs.size)
    repeat (any_goals (first | assumption | wp_step))
    refine codeAny_mono (set_init_list zs (A := _) (E := E) (by simp [cold]) isl zz few) fun r2 s2 hr2 => ?_
    match r2, hr2 with
    | .error e, hr2 => exact hr2
    | .ok .next, hr2 => exact hr2.elim
    | .ok .brk, hr2 => exact hr2.elim
    | .ok .cont, hr2 => exact hr2.elim
    | .ok (.ret u), hr2 =>
      obtain ⟨rfl, hm⟩ := hr2
      repeat (any_goals (first | assumption | wp_step))
      exact fin _ hm
end
theorem nodup_le : ∀ {l m : List Int}, l.Nodup → (∀ x ∈ l, x ∈ m) → l.length ≤ m.length
  | [], _, _, _ => Nat.zero_le _
  | x :: l, m, nd, h => by
    have hx := h x List.mem_cons_self
    obtain ⟨n1, n2⟩ := List.nodup_cons.mp nd
    have := nodup_le (m := m.erase x) n2 fun y hy => (List.mem_erase_of_ne (fun (e : y = x) => n1 (by rw [← e]; exact hy))).mpr (h y (List.mem_cons_of_mem _ hy))
    rw [List.length_erase_of_mem hx] at this
    have := List.length_pos_of_mem hx
    rw [List.length_cons]
    omega
theorem SetR.few {w : World} {h : Heap} {a : Addr} {S : Int → Bool} {n : Nat} (R : SetR w h a S n) {m : List Int} (hm : ∀ k, S k = true → k ∈ m) : n ≤ m.length := by
  obtain ⟨o, es, ep, t, ho, hex, hd, g, nd, hs, hb, hf, hn, hr, hl⟩ := R
  have := nodup_le nd (m := m) fun x hx => hm x ((hs x).mpr hx)
  rw [List.length_map, Array.length_toList, hn] at this
  exact this
def tSortSet (K : Fg) (ta : TE) : TE := fun σ H Q => ta σ H fun x H1 => ∃ (l : Addr) (zs : List Int), x = .ref l ∧ (SqL K H1 l (zs.map V.int) ∨ SqT K H1 l (zs.map V.int)) ∧ (zs.length ≤ 1000 ∧ ∃ bd : List Int, bd.length < 64 ∧ ∀ z ∈ zs, z ∈ bd) ∧
  ∀ (ns : List Int) (p : Addr), ns.Pairwise (· < ·) → (∀ k : Int, k ∈ ns ↔ k ∈ zs) → H1 p = none → Q (.ref p) (upd H1 p (.lst (ns.map V.int)))
theorem pe_sortSet {X : Cx} {a : Expr} {ta : TE} {p p2 q pos : Pos} (hg : Gl X "sorted") (hm : X.mg "sorted" = none) (hg2 : Gl X "set") (hm2 : X.mg "set" = none) (ha : PE X a ta) (hc : X.calm = true := by rfl)
    (na : starEach [a] X.env = (false, eval a X.env) :: starEach [] X.env := by rfl) : PE X (.Call (.Name "sorted" p) [.Call (.Name "set" p2) [a] [] q] [] pos) (tSortSet X.K ta) := by
  refine ⟨fun pins s σ H Q I h => Call_ (ld_blt I hg hm boot_sorted (callWith_builtin1 (args_cons (Call_ (ld_blt I hg2 hm2 boot_set ?_)) rfl) rfl rfl))⟩
  refine callWith_type1 (args_cons (thn (ha.run pins s σ H _ I h) fun v s1 ⟨x, H1, I1, r1, l, zs, ex, hq, ⟨h1000, bd, h64, hbd⟩, k⟩ => args_nil ?_) na) na rfl
  subst ex
  cases r1
  have last : ∀ s2, SetMade X.w s1 zs s2 → wpAny (model X.prog X.w) X.A (spliced (backTo pos (starEach [] X.env))) (fun vs s3 => wpAny (model X.prog X.w) X.A (call (.builtin "sorted") (Value.ref s1.heap.objs.size :: vs)) (EP X pins σ Q) X.xe s3) X.xe s2 := by
    rintro s2 ⟨hp, tk, c, es, R0, hcz, kp⟩
    have I2 : Inv X pins σ H1 s2 := by rw [es]; exact I1.kept (t' := tk) kp
    have R : SetR X.w s2.heap s1.heap.objs.size (fun j => decide (j ∈ zs)) c := by rw [es]; exact R0
    refine args_nil (sorted_set (s := s2) R (I2.ok.hd hc) (Nat.lt_of_le_of_lt (SetR.few R fun k hk => hbd k (by simpa using hk)) h64) fun s4 r out c2 ns kk gg oo fresh at4 are asc mem len => ?_)
    have room : (ns.map V.int).length ≤ sizeLine := by rw [List.length_map, len, sizeLine_eq]; omega
    have none4 : H1 r = none := I2.hok.fresh fresh
    have J : Inv X pins σ (upd H1 r (.lst (ns.map V.int))) { s2 with heap := s4.heap, gens := s4.gens, drawn := s4.drawn, toks := s4.toks } :=
      I2.call (ch := []) (Un.laid kk fresh none4) (I2.hok.laid kk fresh ⟨room, out.toList, c2, vals_of_ints are, at4⟩) (by rw [gg]; exact I2.bare) (fun _ z => nomatch z)
    have same : s4 = { s2 with heap := s4.heap, gens := s4.gens, drawn := s4.drawn, toks := s4.toks } := by
      cases s4; cases s2; cases oo; rfl
    rw [same]
    exact ⟨.ref r, _, J, rfl, k ns r asc (fun z => (mem z).trans decide_eq_true_iff) none4⟩
  have small : zs.length + 1 < scanBound := by unfold scanBound; omega
  rcases hq with hq | hq
  · obtain ⟨its, r, pl, hz⟩ := I1.list hq
    exact set_of_list zs (I1.ok.hd hc) pl.isList (by simpa using r.ints) small last
  · obtain ⟨its, r, pl, hz⟩ := I1.tuple hq
    exact call_set_tupI zs (I1.ok.hd hc) pl (by simpa using r.ints) small fun hp tk c R hcz kp => last _ ⟨hp, tk, c, rfl, R, hcz, kp⟩
def dSortSet (φ : DE) : DE := fun Ψ δ μ Φ => φ Ψ δ μ fun x μ1 => ∃ zs : List Int, Items μ1 x (zs.map .int) ∧ (zs.length ≤ 1000 ∧ ∃ bd : List Int, bd.length < 64 ∧ ∀ z ∈ zs, z ∈ bd) ∧ ∀ ns : List Int, ns.Pairwise (· < ·) → (∀ k : Int, k ∈ ns ↔ k ∈ zs) → Φ (.lst (ns.map .int)) μ1
theorem reps_of_ints {K : Fg} {μ : Sto} {H : Hp} : ∀ ns : List Int, Reps K μ H (ns.map V.int) (ns.map D.int)
  | [] => .nil
  | n :: ns => .int n (reps_of_ints ns)
theorem sSortSet {K : Fg} {B : Bx K} {ta : TE} {φ : DE} (a : SE B ta φ) : SE B (tSortSet K ta) (dSortSet φ) := fun σ H δ μ Φ Q S q k =>
  a σ H δ μ _ _ S q fun v H1 x μ1 S1 e1 r1 q1 => by
    obtain ⟨zs, hi, hz, q2⟩ := q1
    obtain ⟨l, us, rfl, h1, h2⟩ := hi.ok S1.sto r1
    have e := reps_int_inv h2
    subst e
    exact ⟨l, zs, rfl, h1, hz, fun ns p asc mem hp => k _ _ _ μ1 (S1.step (.new hp) (S1.sto.new hp)) (e1.trans (.new hp)) (rep_lst S1.sto hp (reps_of_ints ns)) (q2 ns asc mem)⟩
end DW
set_option Elab.async false
set_option linter.all false
set_option maxRecDepth 100000
set_option maxHeartbeats 4000000
namespace DW
open PySem PySem.Spec PyProof.Rows L2
section
variable {K : Fg} {B : Bx K} {ta tb : TE} {φ φ' φa φb : DE} {tas : TA} {ψ : DA}
def cMaxL : DC := fun xs μ Φ => ∃ x ns, xs = [x] ∧ Items μ x (ns.map .int) ∧ isTup x = false ∧ ns ≠ [] ∧ ∀ m, m ∈ ns → (∀ y, y ∈ ns → y ≤ m) → Φ (.int m) μ
def cMinL : DC := fun xs μ Φ => ∃ x ns, xs = [x] ∧ Items μ x (ns.map .int) ∧ isTup x = false ∧ ns ≠ [] ∧ ∀ m, m ∈ ns → (∀ y, y ∈ ns → m ≤ y) → Φ (.int m) μ
theorem rcMinL : RC K (rMin K) cMinL := fun H μ vs ds Φ Q s r q k => by
  obtain ⟨x, ns, rfl, hi, ht, hne, q⟩ := q
  obtain ⟨v, rfl, r1⟩ := reps1 r
  obtain ⟨a, us, rfl, h1, h2⟩ := hi.okL s r1 ht
  have e := reps_intsV h2
  subst e
  exact ⟨a, ns, rfl, h1, List.length_pos_iff.2 hne, fun m hm hmax => k _ H _ μ .refl s (.int _ .nil) (q m hm hmax)⟩
def oRepL : DO := fun x y μ Φ => ∃ ds k, x = .lst ds ∧ y = .int k ∧ k ≤ 100000 ∧ -100000 ≤ k ∧ ds.length * k.toNat ≤ 100000 ∧ Φ (.lst (List.replicate k.toNat ds).flatten) μ
theorem Reps.rep {μ : Sto} {H : Hp} {vs : List V} {ds : List D} (h : Reps K μ H vs ds) : ∀ k : Nat, Reps K μ H (List.replicate k vs).flatten (List.replicate k ds).flatten
  | 0 => .nil
  | k + 1 => by rw [List.replicate_succ, List.replicate_succ, List.flatten_cons, List.flatten_cons]; exact h.append (h.rep k)
def dLstR1 (φ : DE) : DE := fun Ψ δ μ Φ => φ Ψ δ μ fun x μ1 => ∃ j, x = .int j ∧ 0 ≤ j ∧ j ≤ 100000 ∧ Φ (.lst (rngD 0 j.toNat)) μ1
def iZipL (φ φ' : DE) : DI := fun Ψ δ μ Φ => φ Ψ δ μ fun x μ1 => φ' Ψ δ μ1 fun y μ2 => ∃ xs ys, x = .lst xs ∧ y = .lst ys ∧ Φ ((xs.zip ys).map fun p => .pr [p.1, p.2]) μ2
def iEnL (φ : DE) : DI := fun Ψ δ μ Φ => φ Ψ δ μ fun x μ1 => ∃ ds, x = .lst ds ∧ Φ ((List.range ds.length).map fun (i : Nat) => .pr [.int (i : Int), ds.getD i .non]) μ1
/-- xs.index(y), flat -/
def dIdx (φa φb : DE) : DE := fun Ψ δ μ Φ => φa Ψ δ μ fun x μ1 => ∃ ds, x = .lst ds ∧ φb Ψ δ μ1 fun y μ2 => flatD y = true ∧ ds.all flatD = true ∧ ∃ (j : Nat) (z : D), ds[j]? = some z ∧ eqF z y = true ∧ (∀ (m : Nat) (z' : D), m < j → ds[m]? = some z' → eqF z' y = false) ∧ Φ (.int j) μ2
theorem sIdx (a : SE B ta φa) (b : SE B tb φb) : SE B (tBM K "list" (rIndex K) ta (tCons tb tNil)) (dIdx φa φb) := fun σ H δ μ Φ Q S q k =>
  a σ H δ μ _ _ S q fun v H1 x μ1 S1 e1 r1 q1 => by
    obtain ⟨ds, rfl, q1⟩ := q1
    obtain ⟨p, us, rfl, h1, h2⟩ := Rep.lst_inv r1
    refine ⟨.inl ⟨rfl, us, h1.sq⟩, b σ H1 δ μ1 _ _ S1 q1 fun w H2 y μ2 S2 e2 r2 q2 => ?_⟩
    obtain ⟨fy, fd, j, z, hj, hz, hno, q2⟩ := q2
    have h2' := h2.mono e2
    obtain ⟨u, hu, ru⟩ := h2'.get hj
    refine ⟨p, us, w, j, u, rfl, rfl, (h1.mono e2).sq, flatD_ok r2 fy, flatAll_ok h2' fd, hu, ?_, fun m z' hm hz' => ?_, k _ _ _ μ2 S2 (e1.trans e2) (.int _ .nil) q2⟩
    · rw [eqF_ok ru r2 (List.all_eq_true.1 fd z (List.mem_of_getElem? hj)) fy]; exact hz
    · obtain ⟨d', hd', rd'⟩ := h2'.getV hz'
      rw [eqF_ok rd' r2 (List.all_eq_true.1 fd d' (List.mem_of_getElem? hd')) fy]
      exact hno m d' hm hd'
theorem seqIndex_nat {i n : Nat} (h : i < n) : seqIndex? (i : Int) n = some i := by
  unfold seqIndex?
  have h0 : ¬ (i : Int) < 0 := by omega
  simp only [h0, if_false]
  have h1 : (decide (0 ≤ (i : Int)) && decide ((i : Int) < (n : Int))) = true := by simp; omega
  rw [if_pos h1]
  simp
/-- o.pop(i), o a handle -/
def dPopAt (φa φb : DE) : DE := fun Ψ δ μ Φ => φa Ψ δ μ fun x μ1 => ∃ a ds, x = .hd (.ref a) ∧ μ1 a = some (.lst ds) ∧ φb Ψ δ μ1 fun y μ2 => ∃ es, μ2 a = some (.lst es) ∧ es.length ≤ 100000 ∧ ∃ (i : Nat) (d : D), y = .int i ∧ es[i]? = some d ∧ Φ d (sset μ2 a (.lst (es.eraseIdx i)))
theorem Reps.eraseIdx {μ : Sto} {H : Hp} {vs : List V} {ds : List D} (h : Reps K μ H vs ds) (i : Nat) : Reps K μ H (vs.eraseIdx i) (ds.eraseIdx i) := by
  rw [List.eraseIdx_eq_take_drop_succ, List.eraseIdx_eq_take_drop_succ]
  exact (h.take _).append (h.drop _)
theorem sPopAt (a : SE B ta φa) (b : SE B tb φb) : SE B (tBM K "list" rPopAt ta (tCons tb tNil)) (dPopAt φa φb) := fun σ H δ μ Φ Q S q k =>
  a σ H δ μ _ _ S q fun v H1 x μ1 S1 e1 r1 q1 => by
    obtain ⟨p, ds, rfl, hp, q1⟩ := q1
    obtain rfl := Rep.hd_inv r1
    obtain ⟨us, h1, h2⟩ := S1.sto _ _ hp
    refine ⟨.inl ⟨rfl, us, .of h1⟩, b σ H1 δ μ1 _ _ S1 q1 fun w H2 y μ2 S2 e2 r2 q2 => ?_⟩
    obtain ⟨es, hp2, hz, i, d, rfl, hi, q2⟩ := q2
    obtain rfl := Rep.int_inv r2
    obtain ⟨ws, h3, h4⟩ := S2.sto _ _ hp2
    obtain ⟨u, hu, ru⟩ := h4.get hi
    have hl := h4.length
    have hil : i < es.length := (List.getElem?_eq_some_iff.mp hi).1
    have e3 : Evo μ2 H2 (sset μ2 p (.lst (es.eraseIdx i))) (upd H2 p (.lst (ws.eraseIdx i))) := own_evo hp2
    obtain ⟨e4, s4⟩ := own_upd S2.sto hp2 ((h4.eraseIdx i).mono e3)
    refine ⟨p, ws, i, i, u, rfl, rfl, h3, by omega, by omega, seqIndex_nat (by omega), hu, k _ _ _ _ (S2.step e4 s4) ((e1.trans e2).trans e4) (ru.mono e4) q2⟩
end
section
variable {K : Fg} {B : Bx K} {ta tb : TE} {φ φ' φa φb : DE} {tas : TA} {ψ : DA}
theorem TupAt.bare {μ : Sto} {H : Hp} {a : Addr} {us : List V} (h : TupAt K μ H a us) : (∃ (o : Obj) (us : List V), H a = some (.frz o (.tup us)) ∧ o.dict = none ∧ o.cls = .type "tuple") ∨ ∃ o, K.lookup a = some o ∧ o.cls = .type "tuple" ∧ o.dict = none :=
  h.elim (fun ⟨o, h1, h2, h3, _⟩ => .inl ⟨o, us, h1, h2, h3⟩) fun ⟨o, _, _, h1, h2, h3, _⟩ => .inr ⟨o, h1, h2, h3⟩
def dCntT (φa φb : DE) : DE := fun Ψ δ μ Φ => φa Ψ δ μ fun x μ1 => ∃ ns : List Int, x = .tup (ns.map .int) ∧ φb Ψ δ μ1 fun y μ2 => ∃ k : Int, y = .int k ∧ Φ (.int (ns.count k : Nat)) μ2
def dIdxT (φa φb : DE) : DE := fun Ψ δ μ Φ => φa Ψ δ μ fun x μ1 => ∃ ns : List Int, x = .tup (ns.map .int) ∧ φb Ψ δ μ1 fun y μ2 => ∃ (k : Int) (j : Nat), y = .int k ∧ ns[j]? = some k ∧ (∀ m, m < j → ns[m]? ≠ some k) ∧ Φ (.int j) μ2
end
end DW
set_option Elab.async false
set_option linter.all false
set_option maxRecDepth 100000
set_option maxHeartbeats 4000000
namespace DW
open PySem PySem.Spec PyProof.Rows L2
section
variable {M : Model} {A : Around} {E : Value → Shared → Prop} {s : Shared}
theorem callWith_tyKw {pos : Pos} {T : String} {x : Sem Value} {rest : List (Bool × Sem Value)} {kws : List (Option Str × Sem Value)} {Q : Value → Shared → Prop} (plain : ((false, x) :: rest).any (·.1) = false) (named : kws.any (·.1.isNone) = false) (all : kws.all (·.1.isSome) = true)
    (h : wpAny M A (spliced ((false, x) :: rest)) (fun vs s1 => wpAny M A (evalAll (kws.map (·.2))) (fun ks s2 => wpAny M A (call (.type T) vs ((kws.filterMap (·.1)).zip ks)) Q E s2) E s1) E s) :
    wpAny M A (callWith pos (.type T) [] ((false, x) :: rest) kws) Q E s := by
  have h2 : wpAny M A (evalArgs (.type T) true ((false, x) :: rest) kws) (fun a s1 => wpAny M A (call (.type T) ([] ++ a.pos) a.kw) Q E s1) E s := evalArgs_kwB all h
  unfold callWith
  refine wpAny_bind (wpAny_holding (wpAny_mono h2 (fun a s1 h1 => wpAny_bind (wpAny_standAt ?_)) fun _ _ z => z))
  simp only [plain, named, Bool.or_false]
  exact wpAny_bind (wpAny_pure (wpAny_bind (wpAny_mono h1 (fun r s2 hr => wpAny_bind (wpAny_holding (wpAny_point (wpAny_pure hr)))) fun _ _ z => z)))
end
section
variable {K : Fg} {B : Bx K} {ta tb : TE} {φa φb : DE} {w : World} {d : Addr} {tbl : List (Str × D)}
/-- d[z] -/
def oIxD (d : Addr) (tbl : List (Str × D)) : DO := fun x y μ Φ => x = .hd (.ref d) ∧ ∃ z v, y = .str z ∧ tbl.lookup z = some v ∧ Φ v μ
def oInD (d : Addr) (tbl : List (Str × D)) (neg : Bool) : DO := fun x y μ Φ => y = .hd (.ref d) ∧ ∃ z, x = .str z ∧ Φ (.bl (if neg then !(tbl.lookup z).isSome else (tbl.lookup z).isSome)) μ
end
section
variable {K : Fg} {B : Bx K} {tas : TA} {ψ : DA}
def dCallF (i : Nat) (F : Addr → Con → Prop) (ψ : DA) : DE := fun Ψ δ μ Φ => ∃ f c, F f c ∧ δ[i]? = some (some (.hd (.ref f))) ∧ ψ Ψ δ μ fun ds μ1 => c ds μ1 Φ fun y μ2 => Ψ y δ μ2
end
end DW
set_option Elab.async false
set_option linter.all false
set_option maxRecDepth 100000
set_option maxHeartbeats 4000000
namespace DW
open PySem PySem.Spec PyProof.Rows L2
section
variable {K : Fg} {B : Bx K} {ta : TE} {tas : TA} {φ φ' φa φb φv : DE} {ψ : DA} {W : WX} {C : Addr} {NS : List Str} {m : Str} {c : Con}
theorem sMakeSW (hW : B.W = W) (a : SA B tas ψ) : SE B (tMakeS C (spOf K c) (WE W) tas) (dMakeS C c ψ) := by
  subst hW
  exact sMakeS a
end
/-- a statement of a class's suite -/
def clsS : Stmt → Nat → Stmt
  | .ClassDef _ _ _ b _ _ _ _ _ _ _, j => b.getD j (.Pass ⟨0, 0, 0, 0⟩)
  | s, _ => s
section
variable {K : Fg} {φ φ' φa φb φv : DE} {ψ : DA} {Ψ : XP} {δ : DEnv} {μ : Sto} {Φ : DK} {Δ : DEnds} {C d : Addr} {NS : List Str} {i j : Nat} {c : Con} {f z : Str} {F : Addr → Con → Prop} {ds es : List D} {k : Int} {tbl : List (Str × D)} {n : Bool} {x : D}
theorem u_fld : dFld C NS i φ Ψ δ μ Φ = φ Ψ δ μ fun x μ1 => ∃ ds d, x = .obj C NS ds ∧ ds[i]? = some d ∧ Φ d μ1 := rfl
theorem w_fld {P : D → Prop} : (∃ es d, D.obj C NS ds = .obj C NS es ∧ es[i]? = some d ∧ P d) = ∃ d, ds[i]? = some d ∧ P d := propext ⟨fun ⟨es, d, e, h, q⟩ => by cases e; exact ⟨d, h, q⟩, fun ⟨d, h, q⟩ => ⟨_, d, rfl, h, q⟩⟩
theorem w_someE {y : D} {P : D → Prop} : (∃ d, some y = some d ∧ P d) = P y := propext ⟨fun ⟨_, e, q⟩ => by cases e; exact q, fun q => ⟨_, rfl, q⟩⟩
theorem u_setF : dSetF C f φv φa Ψ Δ δ μ = φv Ψ δ μ fun y μ1 => φa Ψ δ μ1 fun x μ2 => ∃ a ns ds, x = .hd (.ref a) ∧ μ2 a = some (.ins C ns ds) ∧ f ∉ ns ∧ ns.length < 1000 ∧ Δ.nx δ (sset μ2 a (.ins C (ns ++ [f]) (ds ++ [y]))) := rfl
theorem u_methX : dMethX C NS c φ ψ Ψ δ μ Φ = φ Ψ δ μ fun x μ1 => ∃ es, x = .obj C NS es ∧ ψ Ψ δ μ1 fun ds μ2 => c (x :: ds) μ2 Φ fun y μ3 => Ψ y δ μ3 := rfl
theorem w_objE {P : List D → Prop} : (∃ es, D.obj C NS ds = .obj C NS es ∧ P es) = P ds := propext ⟨fun ⟨_, e, q⟩ => by cases e; exact q, fun q => ⟨_, rfl, q⟩⟩
theorem u_makeS : dMakeS C c ψ Ψ δ μ Φ = ψ Ψ δ μ fun ds μ1 => ∀ x, μ1 x = none → c (.hd (.ref x) :: ds) (sset μ1 x (.ins C [] [])) (fun d μ2 => d = .non ∧ ∃ ns es, μ2 x = some (.ins C ns es) ∧ Φ (.obj C ns es) (sdel μ2 x)) (fun y μ2 => Ψ y δ μ2) := rfl
theorem u_sortSet : dSortSet φ Ψ δ μ Φ = φ Ψ δ μ fun x μ1 => ∃ zs : List Int, Items μ1 x (zs.map .int) ∧ (zs.length ≤ 1000 ∧ ∃ bd : List Int, bd.length < 64 ∧ ∀ z ∈ zs, z ∈ bd) ∧ ∀ ns : List Int, ns.Pairwise (· < ·) → (∀ k : Int, k ∈ ns ↔ k ∈ zs) → Φ (.lst (ns.map .int)) μ1 := rfl
theorem u_lstR1 : dLstR1 φ Ψ δ μ Φ = φ Ψ δ μ fun x μ1 => ∃ j, x = .int j ∧ 0 ≤ j ∧ j ≤ 100000 ∧ Φ (.lst (rngD 0 j.toNat)) μ1 := rfl
theorem u_iZipL {Φ : List D → Sto → Prop} : iZipL φ φ' Ψ δ μ Φ = φ Ψ δ μ fun x μ1 => φ' Ψ δ μ1 fun y μ2 => ∃ xs ys, x = .lst xs ∧ y = .lst ys ∧ Φ ((xs.zip ys).map fun p => D.pr [p.1, p.2]) μ2 := rfl
theorem u_iEnL {Φ : List D → Sto → Prop} : iEnL φ Ψ δ μ Φ = φ Ψ δ μ fun x μ1 => ∃ ds, x = .lst ds ∧ Φ ((List.range ds.length).map fun (i : Nat) => D.pr [.int (i : Int), ds.getD i .non]) μ1 := rfl
theorem u_idx : dIdx φa φb Ψ δ μ Φ = φa Ψ δ μ fun x μ1 => ∃ ds, x = .lst ds ∧ φb Ψ δ μ1 fun y μ2 => flatD y = true ∧ ds.all flatD = true ∧ ∃ (j : Nat) (z : D), ds[j]? = some z ∧ eqF z y = true ∧ (∀ (m : Nat) (z' : D), m < j → ds[m]? = some z' → eqF z' y = false) ∧ Φ (.int j) μ2 := rfl
theorem u_popAt : dPopAt φa φb Ψ δ μ Φ = φa Ψ δ μ fun x μ1 => ∃ a ds, x = .hd (.ref a) ∧ μ1 a = some (.lst ds) ∧ φb Ψ δ μ1 fun y μ2 => ∃ es, μ2 a = some (.lst es) ∧ es.length ≤ 100000 ∧ ∃ (i : Nat) (d : D), y = .int i ∧ es[i]? = some d ∧ Φ d (sset μ2 a (.lst (es.eraseIdx i))) := rfl
theorem u_cntT : dCntT φa φb Ψ δ μ Φ = φa Ψ δ μ fun x μ1 => ∃ ns : List Int, x = .tup (ns.map .int) ∧ φb Ψ δ μ1 fun y μ2 => ∃ k : Int, y = .int k ∧ Φ (.int (ns.count k : Nat)) μ2 := rfl
theorem u_idxT : dIdxT φa φb Ψ δ μ Φ = φa Ψ δ μ fun x μ1 => ∃ ns : List Int, x = .tup (ns.map .int) ∧ φb Ψ δ μ1 fun y μ2 => ∃ (k : Int) (j : Nat), y = .int k ∧ ns[j]? = some k ∧ (∀ m, m < j → ns[m]? ≠ some k) ∧ Φ (.int j) μ2 := rfl
theorem u_callF : dCallF i F ψ Ψ δ μ Φ = ∃ f c, F f c ∧ δ[i]? = some (some (.hd (.ref f))) ∧ ψ Ψ δ μ fun ds μ1 => c ds μ1 Φ fun y μ2 => Ψ y δ μ2 := rfl
theorem w_maxL : cMaxL [x] μ Φ = ∃ ns, Items μ x (ns.map .int) ∧ isTup x = false ∧ ns ≠ [] ∧ ∀ m, m ∈ ns → (∀ y, y ∈ ns → y ≤ m) → Φ (.int m) μ := propext ⟨fun ⟨_, ns, e, q⟩ => by cases e; exact ⟨ns, q⟩, fun ⟨ns, q⟩ => ⟨_, ns, rfl, q⟩⟩
theorem w_minL : cMinL [x] μ Φ = ∃ ns, Items μ x (ns.map .int) ∧ isTup x = false ∧ ns ≠ [] ∧ ∀ m, m ∈ ns → (∀ y, y ∈ ns → m ≤ y) → Φ (.int m) μ := propext ⟨fun ⟨_, ns, e, q⟩ => by cases e; exact ⟨ns, q⟩, fun ⟨ns, q⟩ => ⟨_, ns, rfl, q⟩⟩
theorem w_ixDc : oIxD d tbl (.hd (.ref d)) (.str z) μ Φ = ∃ v, tbl.lookup z = some v ∧ Φ v μ := propext ⟨fun ⟨_, _, v, e, h, q⟩ => by cases e; exact ⟨v, h, q⟩, fun ⟨v, h, q⟩ => ⟨rfl, _, v, rfl, h, q⟩⟩
theorem w_inDc : oInD d tbl n (.str z) (.hd (.ref d)) μ Φ = Φ (.bl (if n then !(tbl.lookup z).isSome else (tbl.lookup z).isSome)) μ := propext ⟨fun ⟨_, _, e, q⟩ => by cases e; exact q, fun q => ⟨rfl, _, rfl, q⟩⟩
theorem w_repL : oRepL (.lst ds) (.int k) μ Φ = (k ≤ 100000 ∧ -100000 ≤ k ∧ ds.length * k.toNat ≤ 100000 ∧ Φ (.lst (List.replicate k.toNat ds).flatten) μ) := propext ⟨fun ⟨_, _, e1, e2, q⟩ => by cases e1; cases e2; exact q, fun q => ⟨_, _, rfl, rfl, q⟩⟩
theorem w_listLs {P : List D → List D → Prop} : (∃ xs ys, D.lst ds = .lst xs ∧ D.lst es = .lst ys ∧ P xs ys) = P ds es := propext ⟨fun ⟨_, _, e1, e2, q⟩ => by cases e1; cases e2; exact q, fun q => ⟨_, _, rfl, rfl, q⟩⟩
end
end DW
set_option Elab.async false
set_option linter.all false
set_option maxRecDepth 100000
namespace DW
open PySem PySem.Spec PyProof.Rows L2
/-- list(range(n)), a list that will change -/
def dLstR1O (φ : DE) : DE := fun Ψ δ μ Φ => φ Ψ δ μ fun x μ1 => ∃ j, x = .int j ∧ 0 ≤ j ∧ j ≤ 100000 ∧ ∀ p, μ1 p = none → Φ (.hd (.ref p)) (sset μ1 p (.lst (rngD 0 j.toNat)))
theorem u_lstR1O {φ : DE} {Ψ : XP} {δ : DEnv} {μ : Sto} {Φ : DK} : dLstR1O φ Ψ δ μ Φ = φ Ψ δ μ fun x μ1 => ∃ j, x = .int j ∧ 0 ≤ j ∧ j ≤ 100000 ∧ ∀ p, μ1 p = none → Φ (.hd (.ref p)) (sset μ1 p (.lst (rngD 0 j.toNat))) := rfl
end DW
set_option Elab.async false
set_option linter.all false
set_option maxRecDepth 100000
namespace DW
open PySem PySem.Spec PyProof.Rows L2
/-- xs.count(k), xs a list of ints -/
def dCntL (φa φb : DE) : DE := fun Ψ δ μ Φ => φa Ψ δ μ fun x μ1 => ∃ ns : List Int, x = .lst (ns.map .int) ∧ φb Ψ δ μ1 fun y μ2 => ∃ k : Int, y = .int k ∧ Φ (.int (ns.count k : Nat)) μ2
theorem u_cntL {φa φb : DE} {Ψ : XP} {δ : DEnv} {μ : Sto} {Φ : DK} : dCntL φa φb Ψ δ μ Φ = φa Ψ δ μ fun x μ1 => ∃ ns : List Int, x = .lst (ns.map .int) ∧ φb Ψ δ μ1 fun y μ2 => ∃ k : Int, y = .int k ∧ Φ (.int (ns.count k : Nat)) μ2 := rfl
end DW
set_option Elab.async false
set_option linter.all false
set_option maxRecDepth 100000
namespace DW
open PySem PySem.Spec PyProof.Rows L2
end DW
set_option Elab.async false
set_option linter.all false
set_option maxRecDepth 100000
namespace DW
open PySem PySem.Spec PyProof.Rows L2
section
variable {K : Fg} {B : Bx K}
def dLc2 (ι : DI) (γ : DG) (θ : DT) (ι1 : DI) (γ1 : DG) (θ1 : DT) (φ : DE) (vs vs1 : List Nat) : DE := fun Ψ δ μ Φ => ι Ψ δ μ fun xs μ1 => ∀ p, μ1 p = none → ∃ W : Nat → Sto → Prop, W 0 (sset μ1 p (.lst [])) ∧
  (∀ i d μ2, xs[i]? = some d → W i μ2 → γ d (dwipe δ vs) μ2 fun δ3 μ3 => θ Ψ δ3 μ3 fun b μ4 =>
    (b = true → ι1 Ψ δ3 μ4 fun xs1 μ5 => ∃ W1 : Nat → Sto → Prop, W1 0 μ5 ∧
      (∀ j d1 μ6, xs1[j]? = some d1 → W1 j μ6 → γ1 d1 (dwipe δ3 vs1) μ6 fun δ7 μ7 => θ1 Ψ δ7 μ7 fun b1 μ8 =>
        (b1 = true → φ Ψ δ7 μ8 fun y μ9 => ∃ acc, μ9 p = some (.lst acc) ∧ acc.length ≤ 100000 ∧ W1 (j + 1) (sset μ9 p (.lst (acc ++ [y])))) ∧ (b1 = false → W1 (j + 1) μ8)) ∧
      ∀ μ6, W1 xs1.length μ6 → W (i + 1) μ6) ∧ (b = false → W (i + 1) μ4)) ∧
  ∀ μ2, W xs.length μ2 → ∃ acc, μ2 p = some (.lst acc) ∧ Φ (.lst acc) (sdel μ2 p)
theorem sLc2 {wi wi1 : TI} {g g1 : TG} {tt tt1 : TT} {te : TE} {vs vs1 : List Nat} {ι ι1 : DI} {γ γ1 : DG} {θ θ1 : DT} {φ : DE} (a : SI B wi ι) (w : GW vs g) (w1 : GW vs1 g1) (b : ∀ H1 μ1 e, SG (B.re H1 μ1 e) g γ) (c : ∀ H1 μ1 e, ST (B.re H1 μ1 e) tt θ)
    (a1 : ∀ H1 μ1 e, SI (B.re H1 μ1 e) wi1 ι1) (b1 : ∀ H1 μ1 e, SG (B.re H1 μ1 e) g1 γ1) (c1 : ∀ H1 μ1 e, ST (B.re H1 μ1 e) tt1 θ1) (d : ∀ H1 μ1 e, SE (B.re H1 μ1 e) te φ) :
    SE B (tLc2 wi g tt wi1 g1 tt1 te vs vs1) (dLc2 ι γ θ ι1 γ1 θ1 φ vs vs1) := fun σ H δ μ Φ Q S q k =>
  a σ H δ μ _ _ S q fun xs J H1 μ1 S1 e1 it q1 => fun p hp => by
    have hμp : μ1 p = none := S1.sto.fresh hp
    obtain ⟨W, w0, ws, wd⟩ := q1 p hμp
    refine ⟨fun i m H' => m = xs.length - i ∧ i ≤ xs.length ∧ ∃ μ', Evo μ1 H1 μ' H' ∧ StoOk K μ' H' ∧ W i μ', ⟨xs.length, by simp, Nat.zero_le _, _, .newC S1.sto hp, sto_own S1.sto hp .nil, w0⟩, ?_⟩
    rintro i m H' ⟨rfl, hi, μ', e', s', wi'⟩
    by_cases hlt : i < xs.length
    · obtain ⟨hgo, hy⟩ := (it i H' μ' s' e').1 hlt
      refine .inr ⟨hgo, fun H2 => ∃ μ2, Evo μ1 H1 μ2 H2 ∧ StoOk K μ2 H2 ∧ W (i + 1) μ2, fun H2 ⟨μ2, e2, s2, w2⟩ => ⟨xs.length - (i + 1), by omega, rfl, by omega, μ2, e2, s2, w2⟩, fun x H2 y => ?_⟩
      obtain ⟨dd, hd, s2, e2, r2⟩ := hy x H2 y
      have S2 : (B.re H1 μ1 S1.evo).S (L2.wipe σ vs) H2 (dwipe δ vs) μ' := ⟨e'.trans e2, s2, ((S1.env.mono e').mono e2).wipe vs⟩
      refine w x (L2.wipe σ vs) (L2.wipe σ vs) H2 _ wipe_wipe ?_
      refine b H1 μ1 S1.evo x dd (L2.wipe σ vs) H2 (dwipe δ vs) μ' _ _ S2 r2 (ws i dd μ' hd wi') fun σ3 H3 δ3 μ3 S3 e3 q3 => ?_
      refine c H1 μ1 S1.evo σ3 H3 δ3 μ3 _ _ S3 q3 fun b4 H4 μ4 S4 e4 q4 => ?_
      cases b4 with
      | true =>
        rw [if_pos rfl]
        refine a1 H1 μ1 S1.evo σ3 H4 δ3 μ4 _ _ S4 (q4.1 rfl) fun xs1 J1 H5 μ5 S5 e5 it1 q5 => ?_
        obtain ⟨W1, w10, ws1, wd1⟩ := q5
        refine ⟨fun j m H' => m = xs1.length - j ∧ j ≤ xs1.length ∧ ∃ μ', Evo μ5 H5 μ' H' ∧ StoOk K μ' H' ∧ W1 j μ', ⟨xs1.length, by simp, Nat.zero_le _, μ5, .refl, S5.sto, w10⟩, ?_⟩
        rintro j m H6 ⟨rfl, hj, μ6, e6, s6, w16⟩
        by_cases hlt1 : j < xs1.length
        · obtain ⟨hgo1, hy1⟩ := (it1 j H6 μ6 s6 e6).1 hlt1
          refine .inr ⟨hgo1, fun H7 => ∃ μ7, Evo μ5 H5 μ7 H7 ∧ StoOk K μ7 H7 ∧ W1 (j + 1) μ7, fun H7 ⟨μ7, e7, s7, w7⟩ => ⟨xs1.length - (j + 1), by omega, rfl, by omega, μ7, e7, s7, w7⟩, fun x1 H7 y1 => ?_⟩
          obtain ⟨d1, hd1, s7, e7, r7⟩ := hy1 x1 H7 y1
          have S7 : (B.re H1 μ1 S1.evo).S (L2.wipe σ3 vs1) H7 (dwipe δ3 vs1) μ6 := ⟨(S5.evo.trans e6).trans e7, s7, ((S5.env.mono e6).mono e7).wipe vs1⟩
          refine w1 x1 (L2.wipe σ3 vs1) (L2.wipe σ3 vs1) H7 _ wipe_wipe ?_
          refine b1 H1 μ1 S1.evo x1 d1 (L2.wipe σ3 vs1) H7 (dwipe δ3 vs1) μ6 _ _ S7 r7 (ws1 j d1 μ6 hd1 w16) fun σ8 H8 δ8 μ8 S8 e8 q8 => ?_
          have E8 : Evo μ5 H5 μ8 H8 := (e6.trans e7).trans e8
          refine c1 H1 μ1 S1.evo σ8 H8 δ8 μ8 _ _ S8 q8 fun b9 H9 μ9 S9 e9 q9 => ?_
          have E9 : Evo μ5 H5 μ9 H9 := E8.trans e9
          cases b9 with
          | true =>
            rw [if_pos rfl]
            refine d H1 μ1 S1.evo σ8 H9 δ8 μ9 _ _ S9 (q9.1 rfl) fun v10 H10 y10 μ10 S10 e10 r10 q10 => ?_
            obtain ⟨acc, hacc, hz, w11⟩ := q10
            obtain ⟨us, h10, hr10⟩ := S10.sto _ _ hacc
            have e11 : Evo μ10 H10 (sset μ10 p (.lst (acc ++ [y10]))) (upd H10 p (.lst (us ++ [v10]))) := own_evo hacc
            obtain ⟨e12, s12⟩ := own_upd S10.sto hacc ((hr10.append r10).mono e11)
            exact ⟨us, h10, Nat.lt_of_le_of_lt (by rw [hr10.length]; exact hz) (by decide), _, (E9.trans e10).trans e12, s12, w11⟩
          | false =>
            rw [if_neg Bool.false_ne_true]
            exact ⟨μ9, E9, S9.sto, q9.2 rfl⟩
        · have e : j = xs1.length := by omega
          subst e
          exact .inl ⟨(it1 _ H6 μ6 s6 e6).2 (Nat.le_refl _), μ6, S5.evo.trans e6, s6, wd1 μ6 w16⟩
      | false =>
        rw [if_neg Bool.false_ne_true]
        exact ⟨μ4, S4.evo, S4.sto, q4.2 rfl⟩
    · have e : i = xs.length := by omega
      subst e
      obtain ⟨acc, hacc, q2⟩ := wd μ' wi'
      obtain ⟨us, h5, hr5⟩ := s' _ _ hacc
      refine .inl ⟨(it _ H' μ' s' e').2 (Nat.le_refl _), ?_⟩
      have e8 : Evo μ1 H1 (sdel μ' p) H' := e'.trans sdel_sub.evo
      exact k (.ref p) H' (.lst acc) (sdel μ' p) (S1.step e8 (sdel_sub.sto s')) (e1.trans e8) (.lst ⟨h5, .of sdel_same⟩ (hr5.mono sdel_sub.evo) .nil) q2
end
def LcG2 (γ : DG) (θ : DT) (ι1 : DI) (γ1 : DG) (θ1 : DT) (φ : DE) (δw : DEnv) (vs1 : List Nat) (Ψ : XP) (xs : List D) (μ1 : Sto) (Φ : DK) : Prop := ∀ p, μ1 p = none → ∃ W : Nat → Sto → Prop, W 0 (sset μ1 p (.lst [])) ∧
  (∀ i d μ2, xs[i]? = some d → W i μ2 → γ d δw μ2 fun δ3 μ3 => θ Ψ δ3 μ3 fun b μ4 =>
    (b = true → ι1 Ψ δ3 μ4 fun xs1 μ5 => ∃ W1 : Nat → Sto → Prop, W1 0 μ5 ∧
      (∀ j d1 μ6, xs1[j]? = some d1 → W1 j μ6 → γ1 d1 (dwipe δ3 vs1) μ6 fun δ7 μ7 => θ1 Ψ δ7 μ7 fun b1 μ8 =>
        (b1 = true → φ Ψ δ7 μ8 fun y μ9 => ∃ acc, μ9 p = some (.lst acc) ∧ acc.length ≤ 100000 ∧ W1 (j + 1) (sset μ9 p (.lst (acc ++ [y])))) ∧ (b1 = false → W1 (j + 1) μ8)) ∧
      ∀ μ6, W1 xs1.length μ6 → W (i + 1) μ6) ∧ (b = false → W (i + 1) μ4)) ∧
  ∀ μ2, W xs.length μ2 → ∃ acc, μ2 p = some (.lst acc) ∧ Φ (.lst acc) (sdel μ2 p)
section
variable {Ψ : XP} {Φ : DK} {δ : DEnv} {μ : Sto}
theorem u_lc2 {ι : DI} {γ : DG} {θ : DT} {ι1 : DI} {γ1 : DG} {θ1 : DT} {φ : DE} {vs vs1 : List Nat} : dLc2 ι γ θ ι1 γ1 θ1 φ vs vs1 Ψ δ μ Φ = ι Ψ δ μ fun xs μ1 => LcG2 γ θ ι1 γ1 θ1 φ (dwipe δ vs) vs1 Ψ xs μ1 Φ := rfl
/-- plain names, no tests, nothing changes -/
theorem lcG2_pure {n n1 : Nat} {ι1 : DI} {φ : DE} {δw : DEnv} {μ1 : Sto} {xs : List D} (cols : Nat → List D) (v : Nat → Nat → D) (hz : ∀ i, i ≤ xs.length → ((List.range i).flatMap fun i => (List.range (cols i).length).map (v i)).length ≤ 50000)
    (hc : ∀ i, (cols i).length ≤ 50000)
    (hi : ∀ (i : Nat) (d : D) (μ2 : Sto) (X : List D → Sto → Prop), xs[i]? = some d → Sub μ1 μ2 → X (cols i) μ2 → ι1 Ψ (δw.set n (some d)) μ2 X)
    (hs : ∀ (i : Nat) (d : D) (j : Nat) (d1 : D) (μ2 : Sto) (X : DK), xs[i]? = some d → (cols i)[j]? = some d1 → Sub μ1 μ2 → X (v i j) μ2 → φ Ψ (((δw.set n (some d)).set n1 none).set n1 (some d1)) μ2 X)
    (hd : Φ (.lst ((List.range xs.length).flatMap fun i => (List.range (cols i).length).map (v i))) μ1) : LcG2 (eName n) dYes ι1 (eName n1) dYes φ δw [n1] Ψ xs μ1 Φ := fun p hp => by
  refine ⟨fun i μ' => μ' = sset μ1 p (.lst ((List.range i).flatMap fun i => (List.range (cols i).length).map (v i))), rfl, fun i d μ2 hi2 e => ?_, fun μ2 e => ?_⟩
  · subst e
    refine ⟨fun _ => hi i d _ _ hi2 (.set Sub.refl hp) ⟨fun j μ' => j ≤ (cols i).length ∧ μ' = sset μ1 p (.lst (((List.range i).flatMap fun i => (List.range (cols i).length).map (v i)) ++ (List.range j).map (v i))), ⟨Nat.zero_le _, by rw [List.range_zero, List.map_nil, List.append_nil]⟩, fun j d1 μ6 hj hw => ?_, fun μ6 hw => ?_⟩, fun z => by cases z⟩
    · obtain ⟨hjl, rfl⟩ := hw
      have hj2 := (List.getElem?_eq_some_iff.mp hj).1
      refine ⟨fun _ => hs i d j d1 _ _ hi2 hj (.set Sub.refl hp) ⟨_, sset_same, ?_, ?_⟩, fun z => by cases z⟩
      · have h1 := hz i (Nat.le_of_lt (List.getElem?_eq_some_iff.mp hi2).1)
        have h2 := hc i
        rw [List.length_append, List.length_map, List.length_range]
        omega
      · refine ⟨hj2, ?_⟩
        rw [sset_sset, List.range_succ, List.map_append, List.append_assoc]
        rfl
    · obtain ⟨_, rfl⟩ := hw
      rw [List.range_succ, List.flatMap_append]
      simp
  · subst e
    refine ⟨_, sset_same, ?_⟩
    rw [sdel_sset hp]
    exact hd
end
end DW
set_option Elab.async false
set_option linter.all false
set_option maxRecDepth 100000
set_option maxHeartbeats 4000000
namespace DW
open PySem PySem.Spec PyProof.Rows L2
def wrap : Bool → List D → D
  | true => .tup
  | false => .lst
def iZM (b1 b2 : Bool) (φ φ' : DE) : DI := fun Ψ δ μ Φ => φ Ψ δ μ fun x μ1 => φ' Ψ δ μ1 fun y μ2 => ∃ xs ys, x = wrap b1 xs ∧ y = wrap b2 ys ∧ Φ ((xs.zip ys).map fun p => .pr [p.1, p.2]) μ2
theorem u_iZM {b1 b2 : Bool} {φ φ' : DE} {Ψ : XP} {δ : DEnv} {μ : Sto} {Φ : List D → Sto → Prop} : iZM b1 b2 φ φ' Ψ δ μ Φ = φ Ψ δ μ fun x μ1 => φ' Ψ δ μ1 fun y μ2 => ∃ xs ys, x = wrap b1 xs ∧ y = wrap b2 ys ∧ Φ ((xs.zip ys).map fun p => .pr [p.1, p.2]) μ2 := rfl
theorem w_zipLT {l t : List D} {P : List D → List D → Prop} : (∃ xs ys, D.lst l = wrap false xs ∧ D.tup t = wrap true ys ∧ P xs ys) = P l t := propext ⟨fun ⟨_, _, e1, e2, q⟩ => by cases e1; cases e2; exact q, fun q => ⟨_, _, rfl, rfl, q⟩⟩
theorem w_zipTL {l t : List D} {P : List D → List D → Prop} : (∃ xs ys, D.tup l = wrap true xs ∧ D.lst t = wrap false ys ∧ P xs ys) = P l t := propext ⟨fun ⟨_, _, e1, e2, q⟩ => by cases e1; cases e2; exact q, fun q => ⟨_, _, rfl, rfl, q⟩⟩
end DW
set_option Elab.async false
set_option linter.all false
set_option maxRecDepth 100000
set_option maxHeartbeats 4000000
namespace DW
open PySem PySem.Spec PyProof.Rows L2
section
variable {K : Fg} {B : Bx K} {ta : TE} {φ : DE} {Ψ : XP} {δ : DEnv} {μ : Sto} {Φ : DK}
def dTupR1 (φ : DE) : DE := fun Ψ δ μ Φ => φ Ψ δ μ fun x μ1 => ∃ j, x = .int j ∧ 0 ≤ j ∧ j ≤ 100000 ∧ Φ (.tup (rngD 0 j.toNat)) μ1
theorem u_tupR1 : dTupR1 φ Ψ δ μ Φ = φ Ψ δ μ fun x μ1 => ∃ j, x = .int j ∧ 0 ≤ j ∧ j ≤ 100000 ∧ Φ (.tup (rngD 0 j.toNat)) μ1 := rfl
end
end DW
set_option Elab.async false
set_option linter.all false
set_option maxRecDepth 100000
set_option maxHeartbeats 4000000
namespace DW
open PySem PySem.Spec PyProof.Rows L2
mutual
def toPy : D → PyData
  | .bl b => .bool b
  | .int i => .int i
  | .str s => .str s
  | .tup ds => .tuple (toPys ds)
  | .lst ds => .list (toPys ds)
  | _ => .none
def toPys : List D → List PyData
  | [] => []
  | d :: ds => toPy d :: toPys ds
end
mutual
/-- what can be compared -/
def eqOk : D → Bool
  | .non => true
  | .bl _ => true
  | .int _ => true
  | .str s => PyData.strOk s
  | .tup ds => eqOks ds
  | .lst ds => eqOks ds
  | _ => false
def eqOks : List D → Bool
  | [] => true
  | d :: ds => eqOk d && eqOks ds
end
mutual
def dpt : D → Nat
  | .tup ds => dpts ds + 1
  | .lst ds => dpts ds + 1
  | _ => 0
def dpts : List D → Nat
  | [] => 0
  | d :: ds => max (dpt d) (dpts ds)
end
mutual
theorem eqOk_lay : ∀ d : D, eqOk d = true → (toPy d).canLay0 = true
  | .non, _ => rfl
  | .bl _, _ => rfl
  | .int _, _ => rfl
  | .str s, h => by simpa [eqOk, toPy, PyData.canLay0] using h
  | .tup ds, h => by simp only [toPy, PyData.canLay0]; exact eqOks_lay ds (by simpa [eqOk] using h)
  | .lst ds, h => by simp only [toPy, PyData.canLay0]; exact eqOks_lay ds (by simpa [eqOk] using h)
  | .pr _, h => by simp [eqOk] at h
  | .obj _ _ _, h => by simp [eqOk] at h
  | .hd _, h => by simp [eqOk] at h
  | .scr _, h => by simp [eqOk] at h
theorem eqOks_lay : ∀ ds : List D, eqOks ds = true → PyData.canLayAll0 (toPys ds) = true
  | [], _ => rfl
  | d :: ds, h => by
    simp only [eqOks, Bool.and_eq_true] at h
    simp only [toPys, PyData.canLayAll0, eqOk_lay d h.1, eqOks_lay ds h.2, Bool.and_self]
end
mutual
theorem dpt_py : ∀ d : D, (toPy d).depth ≤ dpt d + 1
  | .non => by simp [toPy, PyData.depth]
  | .bl _ => by simp [toPy, PyData.depth]
  | .int _ => by simp [toPy, PyData.depth]
  | .str s => by simp [toPy, PyData.depth]
  | .tup ds => by simp only [toPy, PyData.depth, dpt]; have := dpts_py ds; omega
  | .lst ds => by simp only [toPy, PyData.depth, dpt]; have := dpts_py ds; omega
  | .pr _ => by simp [toPy, PyData.depth]
  | .obj _ _ _ => by simp [toPy, PyData.depth]
  | .hd _ => by simp [toPy, PyData.depth]
  | .scr _ => by simp [toPy, PyData.depth]
theorem dpts_py : ∀ ds : List D, PyData.depthAll (toPys ds) ≤ dpts ds + 1
  | [] => by simp [toPys, PyData.depthAll]
  | d :: ds => by
    simp only [toPys, PyData.depthAll, dpts]
    have h1 := dpt_py d
    have h2 := dpts_py ds
    omega
end
theorem shaped_of {d : D} (h : eqOk d = true) (hd : dpt d ≤ 60) : SeqAt.shaped (toPy d) = true := by
  unfold SeqAt.shaped
  rw [eqOk_lay d h, Bool.true_and]
  exact decide_eq_true (by have := dpt_py d; omega)
theorem dp_all {K : Fg} {μ : Sto} {H : Hp} {vs : List V} {ds : List D} (r : Reps K μ H vs ds) : eqOks ds = true → DpAll K H vs (toPys ds) := by
  induction r with
  | nil => intro _; exact .nil
  | non _ ih => intro h; simp only [eqOks, eqOk, Bool.true_and] at h; exact .cons .non (ih h)
  | bl b _ ih => intro h; simp only [eqOks, eqOk, Bool.true_and] at h; exact .cons (.bl b) (ih h)
  | int b _ ih => intro h; simp only [eqOks, eqOk, Bool.true_and] at h; exact .cons (.int b) (ih h)
  | str b _ ih => intro h; simp only [eqOks, Bool.and_eq_true] at h; exact .cons (.str b) (ih h.2)
  | hd v _ ih => intro h; simp [eqOks, eqOk] at h
  | tup h1 _ _ i1 i2 => intro h; simp only [eqOks, eqOk, Bool.and_eq_true] at h; exact .cons (.tup h1.sq (i1 h.1)) (i2 h.2)
  | pr _ _ _ _ _ => intro h; simp [eqOks, eqOk] at h
  | scr _ _ _ => intro h; simp [eqOks, eqOk] at h
  | lst h1 _ _ i1 i2 => intro h; simp only [eqOks, eqOk, Bool.and_eq_true] at h; exact .cons (.lst h1.sq (i1 h.1)) (i2 h.2)
  | obj _ _ _ _ _ _ _ => intro h; simp [eqOks, eqOk] at h
theorem dp_one {K : Fg} {μ : Sto} {H : Hp} {v : V} {d : D} (r : Rep K μ H v d) (h : eqOk d = true) : Dp K H v (toPy d) := by
  have q := dp_all r (by simp only [eqOks, h, Bool.and_self])
  cases q with
  | cons a b => exact a
def eqD (a b : D) : Bool := PyData.eqv (toPy a) (toPy b)
def EqSide (d : D) : Prop := eqOk d = true ∧ dpt d ≤ 60
def oEqD : DO := fun x y μ Φ => EqSide x ∧ EqSide y ∧ Φ (.bl (eqD x y)) μ
def oNeD : DO := fun x y μ Φ => EqSide x ∧ EqSide y ∧ Φ (.bl (!eqD x y)) μ
theorem roEqD {K : Fg} : RO K (rEqD K) oEqD := fun H μ v w x y Φ Q s r1 r2 q k => by
  obtain ⟨h1, h2, q⟩ := q
  exact ⟨_, _, dp_one r1 h1.1, dp_one r2 h2.1, shaped_of h1.1 h1.2, shaped_of h2.1 h2.2, k _ H _ μ .refl s (.bl _ .nil) q⟩
theorem roNeD {K : Fg} : RO K (rNeD K) oNeD := fun H μ v w x y Φ Q s r1 r2 q k => by
  obtain ⟨h1, h2, q⟩ := q
  exact ⟨_, _, dp_one r1 h1.1, dp_one r2 h2.1, shaped_of h1.1 h1.2, shaped_of h2.1 h2.2, k _ H _ μ .refl s (.bl _ .nil) q⟩
theorem eqD_refl {d : D} (h : eqOk d = true) : eqD d d = true := SeqAt.eqv_refl _ (eqOk_lay d h)
end DW
set_option Elab.async false
set_option linter.all false
set_option maxRecDepth 100000
set_option maxHeartbeats 4000000
namespace DW
open PySem PySem.Spec PyProof.Rows L2
section
variable {K : Fg} {B : Bx K} {ta : TE} {φ : DE} {tas : TA} {ψ : DA} {Ψ : XP} {δ : DEnv} {μ : Sto} {Φ : DK}
def dMethXN (C : Addr) (NS : List Str) (c : Con) (φ : DE) (ψ : DA) : DE := fun Ψ δ μ Φ => φ Ψ δ μ fun x μ1 => ∃ es, x = .obj C NS es ∧ ψ Ψ δ μ1 fun ds μ2 => c (x :: ds) μ2 Φ fun _ _ => False
def dMakeSN (C : Addr) (c : Con) (ψ : DA) : DE := fun Ψ δ μ Φ => ψ Ψ δ μ fun ds μ1 => ∀ x, μ1 x = none → c (.hd (.ref x) :: ds) (sset μ1 x (.ins C [] [])) (fun d μ2 => d = .non ∧ ∃ ns es, μ2 x = some (.ins C ns es) ∧ Φ (.obj C ns es) (sdel μ2 x)) (fun _ _ => False)
theorem u_methXN {C : Addr} {NS : List Str} {c : Con} : dMethXN C NS c φ ψ Ψ δ μ Φ = φ Ψ δ μ fun x μ1 => ∃ es, x = .obj C NS es ∧ ψ Ψ δ μ1 fun ds μ2 => c (x :: ds) μ2 Φ fun _ _ => False := rfl
theorem u_makeSN {C : Addr} {c : Con} : dMakeSN C c ψ Ψ δ μ Φ = ψ Ψ δ μ fun ds μ1 => ∀ x, μ1 x = none → c (.hd (.ref x) :: ds) (sset μ1 x (.ins C [] [])) (fun d μ2 => d = .non ∧ ∃ ns es, μ2 x = some (.ins C ns es) ∧ Φ (.obj C ns es) (sdel μ2 x)) (fun _ _ => False) := rfl
end
theorem w_neB {b c : Bool} {μ : Sto} {Φ : DK} : oNe (.bl b) (.bl c) μ Φ = Φ (.bl (!decide (b = c))) μ := w_someb
end DW
set_option Elab.async false
set_option linter.all false
set_option maxRecDepth 100000
set_option maxHeartbeats 4000000
namespace DW
open PySem PySem.Spec PyProof.Rows L2
section
variable {K : Fg} {B : Bx K} {ta tb : TE} {φ φ2 : DE} {Ψ : XP} {δ : DEnv} {μ : Sto} {Φ : DK} {W : WX}
def dBinX (C : Addr) (NS : List Str) (c : Con) (φ φ2 : DE) : DE := fun Ψ δ μ Φ => φ Ψ δ μ fun x μ1 => φ2 Ψ δ μ1 fun y μ2 => ∃ es fs, x = .obj C NS es ∧ y = .obj C NS fs ∧ c [x, y] μ2 (fun d μ3 => (∃ C' NS' es', d = .obj C' NS' es') ∧ Φ d μ3) fun z μ3 => Ψ z δ μ3
def dInvX (C : Addr) (NS : List Str) (c : Con) (φ : DE) : DE := fun Ψ δ μ Φ => φ Ψ δ μ fun x μ1 => ∃ es, x = .obj C NS es ∧ c [x] μ1 Φ fun z μ3 => Ψ z δ μ3
theorem u_binX {C : Addr} {NS : List Str} {c : Con} : dBinX C NS c φ φ2 Ψ δ μ Φ = φ Ψ δ μ fun x μ1 => φ2 Ψ δ μ1 fun y μ2 => ∃ es fs, x = .obj C NS es ∧ y = .obj C NS fs ∧ c [x, y] μ2 (fun d μ3 => (∃ C' NS' es', d = .obj C' NS' es') ∧ Φ d μ3) fun z μ3 => Ψ z δ μ3 := rfl
theorem u_invX {C : Addr} {NS : List Str} {c : Con} : dInvX C NS c φ Ψ δ μ Φ = φ Ψ δ μ fun x μ1 => ∃ es, x = .obj C NS es ∧ c [x] μ1 Φ fun z μ3 => Ψ z δ μ3 := rfl
end
end DW
set_option Elab.async false
set_option linter.all false
set_option maxRecDepth 100000
set_option maxHeartbeats 4000000
namespace DW
open PySem PySem.Spec PyProof.Rows L2
section
variable {X : Cx} {CX : CXT} {k : Nat} {f C : Addr} {fd : FuncData} {ps : List Str} {sp : Sp} {E : L2.St → XK} {ta tb : TE} {ea eb : Expr} {pos : Pos}
theorem run_fnS1 {pins : List (Addr × Obj)} {σ : L2.St} {H : Hp} {s : Shared} {Q : VK} {us : List Value} {vs : List V} (F : FnOk X.prog X.w X.K X.mg X.base CX k f fd ps sp) (hr : Room (k + 1) X.A) (hb : Binds X.K fd ps []) (hx : PassesAt CX X σ (E σ))
    (I : Inv X pins σ H s) (r : Vals vs us) (h : sp vs H Q (E σ)) : wpAny (model X.prog X.w) X.A.in1 (call (.ref f) us) (EP X pins σ Q) X.xe s := by
  have hl : us.length = ps.length := by rw [← r.length]; exact F.len _ _ _ _ h
  have b := hb s us I.kIn (by rw [List.append_nil]; exact hl)
  rw [List.append_nil] at b
  have e0 : Env0 X.prog X.w X.K X.mg X.base X.A.in1 X.stack s H := by
    have e := I.env0
    exact ⟨e.frames, e.mod, e.bs, e.bsz, e.funs, e.frf, e.hok, e.bare⟩
  refine wpAny_call (codeAny_mono (F.run X.A.in1 X.stack s H ⟨us, []⟩ us vs Q (E σ) hr.in1 e0 b r h) fun r s' hq => ?_)
  cases r with
  | error e => exact hx pins H s e s' I hq
  | ok fl =>
    cases fl with
    | ret u => exact I.after hq
    | next => exact False.elim hq
    | brk => exact False.elim hq
    | cont => exact False.elim hq
def PlainOwn (b : Expr) : Prop := ∀ o i, subscripted b true o i = runValue (.builtin "lifetime.subscript" ⟨[o, i], []⟩)
def tGetX (C : Addr) (sp : Sp) (E : L2.St → XK) (ta tb : TE) : TE := fun σ H Q => ta σ H fun x H1 => tb σ H1 fun y H2 => ∃ a dx fs, x = .ref a ∧ H2 a = some (.ins C dx fs) ∧ sp [x, y] H2 Q (E σ)
theorem pe_getX (hm : Meth X.K C "__getitem__" f) (hfn : PySem.W.fnIn X.K f = true) (F : FnOk X.prog X.w X.K X.mg X.base CX k f fd ps sp) (hr : Room (k + 1) X.A) (hb : Binds X.K fd ps []) (hx : ∀ σ, PassesAt CX X σ (E σ)) (ha : PE X ea ta) (hbb : PE X eb tb) (hs : PlainOwn eb) :
    PE X (.Subscript ea eb pos) (tGetX C sp E ta tb) := by
  refine ⟨fun pins s σ H Q I h => ?_⟩
  refine Subscript_ (binT ha hbb I h fun v u s2 x y H2 I2 rx ry q => ?_)
  obtain ⟨a, dx, fs, rfl, h1, q⟩ := q
  obtain rfl : v = Value.ref a := rx
  obtain ⟨mA, J, _⟩ := ins_get I2.hok h1
  obtain ⟨od, J, _⟩ := J.look
  obtain ⟨m, hF⟩ := I2.fr
  exact PySem.W.sub_K hF I2.ok.mod.kin J hm.at_ hfn hm.fn (run_fnS1 (us := [.ref a, u]) (vs := [.ref a, y]) F hr hb (hx σ) I2 (.cons rfl (.cons ry .nil)) q) (hs _ _)
end
section
variable {K : Fg} {B : Bx K} {ta tb : TE} {φ φ2 : DE} {Ψ : XP} {δ : DEnv} {μ : Sto} {Φ : DK} {W : WX}
def dGetX (C : Addr) (NS : List Str) (c : Con) (φ φ2 : DE) : DE := fun Ψ δ μ Φ => φ Ψ δ μ fun x μ1 => φ2 Ψ δ μ1 fun y μ2 => ∃ es, x = .obj C NS es ∧ c [x, y] μ2 Φ fun z μ3 => Ψ z δ μ3
theorem sGetX {C : Addr} {NS : List Str} {c : Con} (hW : B.W = W) (a : SE B ta φ) (b : SE B tb φ2) : SE B (tGetX C (spOf K c) (WE W) ta tb) (dGetX C NS c φ φ2) := by
  subst hW
  exact fun σ H δ μ Φ Q S q k => a σ H δ μ _ _ S q fun v H1 x μ1 S1 e1 r1 q1 => b σ H1 δ μ1 _ _ S1 q1 fun u H2 y μ2 S2 e2 r2 q2 => by
    obtain ⟨es, rfl, q3⟩ := q2
    obtain ⟨p, dx, us, rfl, hH, hnm, hl, hr⟩ := Rep.obj_inv (r1.mono e2)
    exact ⟨p, dx, _, rfl, hH, ⟨μ2, _, Φ, fun y μ3 => B.Ψ y δ μ3, S2.sto, .cons (r1.mono e2) (.cons r2 .nil), q3, fun v H3 d μ3 e3 s3 r3 q4 => k v H3 d μ3 (S2.step e3 s3) ((e1.trans e2).trans e3) r3 q4, fun cls dd H3 y μ3 e3 s3 rx q4 => B.hW cls dd σ H3 y δ μ3 (S2.step e3 s3) rx q4⟩⟩
theorem u_getX {C : Addr} {NS : List Str} {c : Con} : dGetX C NS c φ φ2 Ψ δ μ Φ = φ Ψ δ μ fun x μ1 => φ2 Ψ δ μ1 fun y μ2 => ∃ es, x = .obj C NS es ∧ c [x, y] μ2 Φ fun z μ3 => Ψ z δ μ3 := rfl
end
end DW
set_option Elab.async false
set_option linter.all false
set_option maxRecDepth 100000
set_option maxHeartbeats 4000000
namespace DW
open PySem PySem.Spec PyProof.Rows PySem.Calls L2
section
variable {X : Cx} {CX : CXT} {k i : Nat} {f C : Addr} {fd : FuncData} {ps : List Str} {sp : Sp} {E : L2.St → XK} {t : TA} {e : Expr} {es : List Expr} {x : Str} {p pos : Pos}
/-- a call of an instance, its place known after the arguments -/
theorem callWith_ins {M : Model} {A : Around} {R : Value → Shared → Prop} {Er : Value → Shared → Prop} {s : Shared} {env : Env} {a C : Addr} {fst : List Value}
    (h : wpAny M A (spliced (backTo pos (starEach (e :: es) env))) (fun vs s₁ => (∃ ox od, ox.data = .plain ∧ PySem.W.InstAt s₁.heap a ox C od) ∧ wpAny M A (call (.ref a) (fst ++ vs)) R Er s₁) Er s)
    (he : starEach (e :: es) env = (false, eval e env) :: starEach es env) (hp : (backTo pos (starEach es env)).any (·.1) = false) :
    wpAny M A (callWith pos (.ref a) fst (backTo pos (starEach (e :: es) env)) []) R Er s := by
  rw [he] at h ⊢
  have hplain : ((backTo pos ((false, eval e env) :: starEach es env)).any (·.1) || ([] : List (Option Str × Sem Value)).any (·.1.isNone)) = false := by
    show ((false || (backTo pos (starEach es env)).any (·.1)) || false) = false
    rw [hp]; rfl
  generalize ha : (backTo pos ((false, eval e env) :: starEach es env)) = args at h hplain
  have h2 : wpAny M A (evalArgs (.ref a) true args []) (fun b s₁ => (∃ ox od, ox.data = .plain ∧ PySem.W.InstAt s₁.heap a ox C od) ∧ wpAny M A (call (.ref a) (fst ++ b.pos) b.kw) R Er s₁) Er s := by
    subst ha
    exact evalArgs_plain h
  unfold callWith
  refine wpAny_bind (wpAny_holding (wpAny_mono h2 (fun b s₁ h₁ => wpAny_bind (wpAny_standAt ?_)) fun _ _ y => y))
  obtain ⟨⟨ox, od, hpl, J⟩, h3⟩ := h₁
  have L := PySem.W.kco_keeper (M := M) J hpl
  simp only [hplain]
  refine wpAny_bind (L.here ?_)
  have tail : ∀ {u : Sem Value}, wpAny M A u R Er s₁ → wpAny M A (u >>= fun r => holding [r] point >>= fun _ => pure r) R Er s₁ :=
    fun hu => wpAny_bind (wpAny_mono hu (fun r s₂ hr => wpAny_bind (wpAny_holding (wpAny_point (wpAny_pure hr)))) fun _ _ y => y)
  exact tail (wpAny_operateT h3)
theorem run_ins {pins : List (Addr × Obj)} {σ : L2.St} {H : Hp} {s : Shared} {Q : VK} {us : List Value} {vs : List V} {a dx : Addr} {fs : List (Str × V)} (hm : Meth X.K C "__call__" f) (hfn : PySem.W.fnIn X.K f = true) (F : FnOk X.prog X.w X.K X.mg X.base CX k f fd ps sp) (hr : Room k X.A) (hb : Binds X.K fd ps []) (hx : PassesAt CX X σ (E σ))
    (I : Inv X pins σ H s) (h1 : H a = some (.ins C dx fs)) (r0 : Vals vs us) (h : sp (.ref a :: vs) H Q (E σ)) : wpAny (model X.prog X.w) X.A (call (.ref a) us) (EP X pins σ Q) X.xe s := by
  obtain ⟨mA, J, _⟩ := ins_get I.hok h1
  obtain ⟨od, J, _⟩ := J.look
  have r : Vals (V.ref a :: vs) (Value.ref a :: us) := .cons rfl r0
  have hl : (Value.ref a :: us).length = ps.length := by rw [← r.length]; exact F.len _ _ _ _ h
  have b := hb s (Value.ref a :: us) I.kIn (by rw [List.append_nil]; exact hl)
  rw [List.append_nil] at b
  refine wpAny_call (PySem.W.kco_code (a := ⟨us, []⟩) I.kIn J rfl hm.at_ hm.fn hfn (codeAny_mono (F.run X.A X.stack s H ⟨Value.ref a :: us, []⟩ (Value.ref a :: us) (V.ref a :: vs) Q (E σ) hr I.env0 b r h) fun r s' hq => ?_))
  cases r with
  | error e => exact hx pins H s e s' I hq
  | ok fl =>
    cases fl with
    | ret u => exact I.after hq
    | next => exact False.elim hq
    | brk => exact False.elim hq
    | cont => exact False.elim hq
def tCallX (C : Addr) (i : Nat) (sp : Sp) (E : L2.St → XK) (t : TA) : TE := fun σ H Q => ∃ a, σ[i]? = some (some (.ref a)) ∧ t σ H fun vs H1 => (∃ dx fs, H1 a = some (.ins C dx fs)) ∧ sp (.ref a :: vs) H1 Q (E σ)
theorem pe_callX (hm : Meth X.K C "__call__" f) (hfn : PySem.W.fnIn X.K f = true) (F : FnOk X.prog X.w X.K X.mg X.base CX k f fd ps sp) (hr : Room k X.A) (hb : Binds X.K fd ps []) (hx : ∀ σ, PassesAt CX X σ (E σ)) (hN : X.N[i]? = some x) (hv : Vis X.env.scope x) (ha : PA X (e :: es) t)
    (hd : (x == ("__debug__" : Str)) = false := by decide) (hcd : (x == ("__classdict__" : Str)) = false := by decide)
    (he : starEach (e :: es) X.env = (false, eval e X.env) :: starEach es X.env := by rfl) (hpl : (backTo pos (starEach es X.env)).any (·.1) = false := by rfl) : PE X (.Call (.Name x p) (e :: es) [] pos) (tCallX C i sp E t) := by
  refine ⟨fun pins s σ H Q I ⟨a, hs, h⟩ => ?_⟩
  refine wpAny_Call_Name_kw (thn ((pe_var (pos := p) (i := i) hN hv hd hcd).run pins s σ H (fun v H1 => v = .ref a ∧ H1 = H) I ⟨.ref a, hs, rfl, rfl⟩) fun u s1 ⟨v, H1, I1, r1, ev, eH⟩ => ?_)
  subst ev
  rw [eH] at I1
  cases r1
  refine callWith_ins (C := C) (fst := []) (thn (ha.run pos pins s1 σ H _ I1 h) fun us s2 ⟨vs, H2, I2, r, ⟨dx, fs, h1⟩, q⟩ => ⟨?_, run_ins hm hfn F hr hb (hx σ) I2 h1 r q⟩) he hpl
  obtain ⟨mA, J, _⟩ := ins_get I2.hok h1
  obtain ⟨od, J, _⟩ := J.look
  exact ⟨_, some od, rfl, J⟩
end
section
variable {K : Fg} {B : Bx K} {tas : TA} {ψ : DA} {Ψ : XP} {δ : DEnv} {μ : Sto} {Φ : DK} {W : WX}
def dCallX (C : Addr) (NS : List Str) (i : Nat) (c : Con) (ψ : DA) : DE := fun Ψ δ μ Φ => ∃ es, δ[i]? = some (some (.obj C NS es)) ∧ ψ Ψ δ μ fun ds μ1 => c (.obj C NS es :: ds) μ1 Φ fun y μ2 => Ψ y δ μ2
theorem sCallX {C : Addr} {NS : List Str} {i : Nat} {c : Con} (hW : B.W = W) (a : SA B tas ψ) : SE B (tCallX C i (spOf K c) (WE W) tas) (dCallX C NS i c ψ) := by
  subst hW
  exact fun σ H δ μ Φ Q S q k => by
    obtain ⟨es, hi, q⟩ := q
    obtain ⟨v, ev, r⟩ := S.env.at_ i _ hi
    obtain ⟨p, _, _, rfl, _⟩ := Rep.obj_inv r
    refine ⟨p, ev, a σ H δ μ _ _ S q fun vs H1 ds μ1 S1 e1 r1 q1 => ?_⟩
    obtain ⟨p', dx, us, ep, hH, _⟩ := Rep.obj_inv (r.mono e1)
    cases ep
    exact ⟨⟨dx, _, hH⟩, μ1, _, Φ, fun y μ2 => B.Ψ y δ μ2, S1.sto, .cons (r.mono e1) r1, q1, fun v H2 d μ2 e2 s2 r2 q2 => k v H2 d μ2 (S1.step e2 s2) (e1.trans e2) r2 q2, fun cls dd H2 y μ2 e2 s2 rx q2 => B.hW cls dd σ H2 y δ μ2 (S1.step e2 s2) rx q2⟩
theorem u_callX {C : Addr} {NS : List Str} {i : Nat} {c : Con} : dCallX C NS i c ψ Ψ δ μ Φ = ∃ es, δ[i]? = some (some (.obj C NS es)) ∧ ψ Ψ δ μ fun ds μ1 => c (.obj C NS es :: ds) μ1 Φ fun y μ2 => Ψ y δ μ2 := rfl
end
end DW
set_option Elab.async false
set_option linter.all false
set_option maxRecDepth 100000
set_option maxHeartbeats 4000000
namespace DW
open PySem PySem.Spec PyProof.Rows L2
section
variable {K : Fg} {B : Bx K} {ta tb : TE} {φ φ2 : DE} {Ψ : XP} {δ : DEnv} {μ : Sto} {Φ : DK} {W : WX}
def dBinXI (C : Addr) (NS : List Str) (c : Con) (φ φ2 : DE) : DE := fun Ψ δ μ Φ => φ Ψ δ μ fun x μ1 => φ2 Ψ δ μ1 fun y μ2 => ∃ es j, x = .obj C NS es ∧ y = .int j ∧ c [x, y] μ2 (fun d μ3 => (∃ C' NS' es', d = .obj C' NS' es') ∧ Φ d μ3) fun z μ3 => Ψ z δ μ3
theorem u_binXI {C : Addr} {NS : List Str} {c : Con} : dBinXI C NS c φ φ2 Ψ δ μ Φ = φ Ψ δ μ fun x μ1 => φ2 Ψ δ μ1 fun y μ2 => ∃ es j, x = .obj C NS es ∧ y = .int j ∧ c [x, y] μ2 (fun d μ3 => (∃ C' NS' es', d = .obj C' NS' es') ∧ Φ d μ3) fun z μ3 => Ψ z δ μ3 := rfl
def dRestF (i : Nat) : DE := fun _ δ μ Φ => ∃ a ds, δ[i]? = some (some (.hd (.ref a))) ∧ ((μ a = some (.lst ds) ∧ Φ (.lst ds) (sset μ a (.frz ds))) ∨ (μ a = some (.frz ds) ∧ Φ (.lst ds) μ))
theorem u_restF {i : Nat} : dRestF i Ψ δ μ Φ = ∃ a ds, δ[i]? = some (some (.hd (.ref a))) ∧ ((μ a = some (.lst ds) ∧ Φ (.lst ds) (sset μ a (.frz ds))) ∨ (μ a = some (.frz ds) ∧ Φ (.lst ds) μ)) := rfl
end
end DW
set_option Elab.async false
set_option linter.all false
set_option maxRecDepth 100000
set_option maxHeartbeats 4000000
namespace DW
open PySem PySem.Spec PyProof.Rows L2
end DW
set_option Elab.async false
set_option linter.all false
set_option maxRecDepth 100000
set_option maxHeartbeats 4000000
namespace DW
open PySem PySem.Spec PyProof.Rows L2
end DW
set_option Elab.async false
set_option linter.all false
set_option maxRecDepth 100000
namespace DW
open PySem PySem.Spec PyProof.Rows L2
section
variable {K : Fg} {B : Bx K}
def dStar (φ : DE) (ψ : DA) : DA := fun Ψ δ μ Φ => φ Ψ δ μ fun x μ1 => ∃ ds, x = .tup ds ∧ ψ Ψ δ μ1 fun xs μ2 => Φ (ds ++ xs) μ2
theorem u_star {φ : DE} {ψ : DA} {Ψ : XP} {δ : DEnv} {μ : Sto} {Φ : List D → Sto → Prop} : dStar φ ψ Ψ δ μ Φ = φ Ψ δ μ fun x μ1 => ∃ ds, x = .tup ds ∧ ψ Ψ δ μ1 fun xs μ2 => Φ (ds ++ xs) μ2 := rfl
def dRev2L (φ : DE) : DE := fun Ψ δ μ Φ => φ Ψ δ μ fun x μ1 => ∃ ds, Items μ1 x ds ∧ isTup x = false ∧ ds ≠ [] ∧ Φ (.lst ds.dropLast.reverse) μ1
theorem u_rev2L {φ : DE} {Ψ : XP} {δ : DEnv} {μ : Sto} {Φ : DK} : dRev2L φ Ψ δ μ Φ = φ Ψ δ μ fun x μ1 => ∃ ds, Items μ1 x ds ∧ isTup x = false ∧ ds ≠ [] ∧ Φ (.lst ds.dropLast.reverse) μ1 := rfl
end
section
variable {K : Fg} {B : Bx K}
def dCallR (n : Nat) (c : Con) (ψ : DA) : DE := fun Ψ δ μ Φ => ψ Ψ δ μ fun xs μ1 => n ≤ xs.length ∧ xs.length ≤ 100000 ∧ c (xs.take n ++ [.tup (xs.drop n)]) μ1 Φ fun x μ2 => Ψ x δ μ2
theorem u_callR {n : Nat} {c : Con} {ψ : DA} {Ψ : XP} {δ : DEnv} {μ : Sto} {Φ : DK} : dCallR n c ψ Ψ δ μ Φ = ψ Ψ δ μ fun xs μ1 => n ≤ xs.length ∧ xs.length ≤ 100000 ∧ c (xs.take n ++ [.tup (xs.drop n)]) μ1 Φ fun x μ2 => Ψ x δ μ2 := rfl
end
end DW
set_option Elab.async false
set_option linter.all false
set_option maxRecDepth 100000
set_option maxHeartbeats 4000000
namespace DW
open PySem PySem.Spec PyProof.Rows L2
section
variable {K : Fg} {B : Bx K} {ta tb tc : TE} {φ φ' φ'' : DE} {tas : TA} {ψ : DA} {W : WX} {Ψ : XP} {δ : DEnv} {μ : Sto} {Φ : DK}
def dMakeSD (C : Addr) (c : Con) (dds : List D) (ψ : DA) : DE := fun Ψ δ μ Φ => ψ Ψ δ μ fun ds μ1 => ∀ x, μ1 x = none → c (.hd (.ref x) :: (ds ++ dds)) (sset μ1 x (.ins C [] [])) (fun d μ2 => d = .non ∧ ∃ ns es, μ2 x = some (.ins C ns es) ∧ Φ (.obj C ns es) (sdel μ2 x)) (fun y μ2 => Ψ y δ μ2)
theorem u_makeSD {C : Addr} {c : Con} {dds : List D} : dMakeSD C c dds ψ Ψ δ μ Φ = ψ Ψ δ μ fun ds μ1 => ∀ x, μ1 x = none → c (.hd (.ref x) :: (ds ++ dds)) (sset μ1 x (.ins C [] [])) (fun d μ2 => d = .non ∧ ∃ ns es, μ2 x = some (.ins C ns es) ∧ Φ (.obj C ns es) (sdel μ2 x)) (fun y μ2 => Ψ y δ μ2) := rfl
def rngB (hi : Int) (n : Nat) : List D := (List.range n).map fun (i : Nat) => .int (hi - (i : Int))
theorem rngB_len {hi : Int} {n : Nat} : (rngB hi n).length = n := by unfold rngB; rw [List.length_map, List.length_range]
def iR3 (φ φ' φ'' : DE) : DI := fun Ψ δ μ Φ => φ Ψ δ μ fun x μ1 => φ' Ψ δ μ1 fun y μ2 => φ'' Ψ δ μ2 fun z μ3 => ∃ i j, x = .int i ∧ y = .int j ∧ z = .int (-1) ∧ (-4611686018427387904 ≤ i ∧ i < 4611686018427387904 ∧ -4611686018427387904 ≤ j ∧ j < 4611686018427387904) ∧ Φ (rngB i (i - j).toNat) μ3
theorem u_iR3 {Ls : List D → Sto → Prop} : iR3 φ φ' φ'' Ψ δ μ Ls = φ Ψ δ μ fun x μ1 => φ' Ψ δ μ1 fun y μ2 => φ'' Ψ δ μ2 fun z μ3 => ∃ i j, x = .int i ∧ y = .int j ∧ z = .int (-1) ∧ (-4611686018427387904 ≤ i ∧ i < 4611686018427387904 ∧ -4611686018427387904 ≤ j ∧ j < 4611686018427387904) ∧ Ls (rngB i (i - j).toNat) μ3 := rfl
end
/-- THE RULE for a def with defaults -/
theorem def_okD {CX : CXT} {P : Program} {w : World} {K : Fg} {mg : Str → Option Value} {base : Heap} {x qual : Str} {st : Stmt} {f : Addr} {fd : FuncData} {N ps : List Str} {dvs : List V} {kws : List (Str × V)} {k : Nat} {c : Con} (F : FunD K x qual (defArgs st) (defBody st) (defScope st) dvs kws f fd) (Sc : FnScope N ps (defScope st)) (φ : DSt)
    (hl : ∀ ds μ Φ Ψ, c ds μ Φ Ψ → ds.length = ps.length)
    (hb : ∀ (cdv : Value) (A : Around) (outer : List Env) (s : Shared) (H : Hp) (E : XK) (B : Bx K), B.W = (fun cls d _ H => E cls d H) → Room k (A.deeper (PyProof.Rows.envOfC qual (defScope st) s.heap.objs.size f cdv)) →
      ∃ t, PSs (cxOf CX P w K mg base N qual (defScope st) f cdv A outer s H E) (defBody st) t ∧ SS B t φ)
    (hv : ∀ ds μ Φ Ψ, c ds μ Φ Ψ → φ (goalX Ψ) (goalE Φ) (dstart N ds) μ) : FnOk P w K mg base CX (k + 1) f fd ps (spOf K c) := by
  refine F.ok Sc (fun vs H Q E h => ?_) (fun cdv A outer s H vs Q E hr h => ?_)
  · obtain ⟨μ, ds, Φ, Ψ, _, r, hc, _⟩ := h
    rw [r.length]
    exact hl ds μ Φ Ψ hc
  · obtain ⟨μ, ds, Φ, Ψ, s0, r, hc, hq, hx⟩ := h
    let B : Bx K := ⟨H, μ, fun cls d _ H => E cls d H, goalX Ψ, fun cls dd σ H' x δ μ' S rx ⟨μ2, hs, q⟩ => hx cls dd H' x μ2 (S.evo.trans hs.evo) (hs.sto S.sto) (rx.mono hs.evo) q⟩
    obtain ⟨t, ht, hs⟩ := hb cdv A outer s H E B rfl hr
    refine ⟨t, ht, hs { nx := fun _ H' => Q .non H', rt := Q } (goalE Φ) (L2.start N vs) H (dstart N ds) μ ⟨fun σ H' δ μ' S ⟨μ2, h2, q⟩ => ?_, fun v H' d μ' σ δ S rv ⟨μ2, h2, q⟩ => ?_, fun _ _ _ _ _ z => z, fun _ _ _ _ _ z => z⟩ ⟨.refl, s0, env_start r⟩ (hv ds μ Φ Ψ hc)⟩
    · exact hq .non H' .non μ2 (S.evo.trans h2.evo) (h2.sto S.sto) (.non .nil) q
    · exact hq v H' d μ2 (S.evo.trans h2.evo) (h2.sto S.sto) (rv.mono h2.evo) q
theorem fund_mk {K : Fg} {x qual : Str} {st : Stmt} {f dT : Addr} {oc oc2 : Value} {od an od2 : Option Addr} {osl sl2 : Array (Option Value)} {kV doc pm cdv ct : Value} {its : Array Value} {n : Nat} {dvs : List V}
    (l : K.lookup f = some ⟨oc, od, .func (PySem.W.fnOf x qual (defArgs st) (defBody st) (defScope st) (.ref dT) kV doc pm an cdv ct), osl⟩) (c : PySem.W.codeIn K cdv qual = true) (k : PySem.W.keepIn K (.ref f) = true)
    (lT : K.lookup dT = some ⟨oc2, od2, .seq its n, sl2⟩) (rT : Vals dvs its.toList) (hne : dvs ≠ []) :
    FunD K x qual (defArgs st) (defBody st) (defScope st) dvs [] f (PySem.W.fnOf x qual (defArgs st) (defBody st) (defScope st) (.ref dT) kV doc pm an cdv ct) :=
  ⟨⟨oc, od, _, kV, doc, pm, an, cdv, ct, osl, rfl, l, c, .inr ⟨hne, dT, _, its.toList, n, rfl, lT, by simp, rT⟩, .inl rfl⟩, k⟩
theorem binds_full {K : Fg} {fd : FuncData} {ps : List Str} (h : ∃ us, Vals [] us ∧ Binds K fd ps us) : Binds K fd ps [] := by
  obtain ⟨us, r, b⟩ := h
  cases r
  exact b
section
variable {K : Fg} {B : Bx K} {ta tb : TE} {φ φ2 : DE} {Ψ : XP} {δ : DEnv} {μ : Sto} {Φ : DK}
def dGetXN (C : Addr) (NS : List Str) (c : Con) (φ φ2 : DE) : DE := fun Ψ δ μ Φ => φ Ψ δ μ fun x μ1 => φ2 Ψ δ μ1 fun y μ2 => ∃ es, x = .obj C NS es ∧ c [x, y] μ2 Φ fun _ _ => False
theorem u_getXN {C : Addr} {NS : List Str} {c : Con} : dGetXN C NS c φ φ2 Ψ δ μ Φ = φ Ψ δ μ fun x μ1 => φ2 Ψ δ μ1 fun y μ2 => ∃ es, x = .obj C NS es ∧ c [x, y] μ2 Φ fun _ _ => False := rfl
end
section
variable {K : Fg} {B : Bx K} {tas : TA} {ψ : DA} {Ψ : XP} {Δ : DEnds} {δ : DEnv} {μ : Sto}
def dPar (i j : Nat) (ψ : DA) : DSt := fun Ψ Δ δ μ => ψ Ψ δ μ fun xs μ1 => ∃ v w, xs = [v, w] ∧ Δ.nx ((δ.set i (some v)).set j (some w)) μ1
theorem u_par {i j : Nat} : dPar i j ψ Ψ Δ δ μ = ψ Ψ δ μ fun xs μ1 => ∃ v w, xs = [v, w] ∧ Δ.nx ((δ.set i (some v)).set j (some w)) μ1 := rfl
end
def cIsiO (C : Addr) : DC := fun xs μ Φ => ∃ ns es, xs = [.obj C ns es, .hd (.ref C)] ∧ Φ (.bl true) μ
theorem w_isiO {C : Addr} {ns : List Str} {es : List D} {μ : Sto} {Φ : DK} : cIsiO C [.obj C ns es, .hd (.ref C)] μ Φ = Φ (.bl true) μ := propext ⟨fun ⟨_, _, e, q⟩ => q, fun q => ⟨ns, es, rfl, q⟩⟩
end DW
set_option Elab.async false
set_option linter.all false
set_option maxRecDepth 100000
set_option maxHeartbeats 4000000
namespace DW
open PySem PySem.Spec PyProof.Rows L2
section
variable {K : Fg} {B : Bx K} {ta : TE} {φ : DE} {Ψ : XP} {δ : DEnv} {μ : Sto} {Φ : DK}
def dCVal (n : Int) : DE := fun _ _ μ Φ => Φ (.int n) μ
theorem sCVal {C : Addr} {mc : Value} {f : Str} {n : Int} (r : ClX.CRead K C mc) (c : ∃ t, ClX.CVal K C mc f (.int n) (.int n t)) (_a : SE B (tC (.ref C)) (dC (.hd (.ref C)))) : SE B (ClX.tCVal K (tC (.ref C)) f) (dCVal n) := fun σ H δ μ Φ Q S q k => by
  obtain ⟨t, h⟩ := c
  exact ⟨C, mc, .int n, _, rfl, r, h, sInt σ H δ μ Φ Q S q k⟩
theorem u_cval {n : Int} : dCVal n Ψ δ μ Φ = Φ (.int n) μ := rfl
end
/-- enumerate(t, start=e2), e2 a constant by name -/
theorem pi_enumTg {X : Cx} {e e2 : Expr} {ta : TA} {p kp pos tpos : Pos} {kk : Nat} {n : Int} {elts : List Expr} (hg : Gl X "enumerate") (hm : X.mg "enumerate" = none) (he : PE X e2 (tC (.int n))) (ha : PA X [e] ta) (h0 : -(2 ^ 63) ≤ n) (h1 : n < 2 ^ 63)
    (hs : starEach [e] X.env = [(false, eval e X.env)] := by rfl) :
    PI X (.Tuple elts kk tpos) (.Call (.Name "enumerate" p) [e] [⟨some "start", e2, kp⟩] pos) (iEnumT X.K n ta) := by
  refine ⟨fun pins s σ H R I h => ?_⟩
  refine wpAny_Call_Name_kw (ld_blt I hg hm boot_enumerate ?_)
  have A := ha.run pos pins s σ H _ I h
  rw [hs] at A ⊢
  refine callWith_tyKw rfl rfl rfl (thn A fun us s1 ⟨vs, H1, I1, r1, q1⟩ => kws_cons ?_)
  obtain ⟨a, xs, rfl, hq, q⟩ := q1
  rw [Vals.ref1 r1]
  obtain ⟨its, rv, p', hz⟩ := I1.tuple hq
  refine thn (he.run pins s1 σ H1 (fun v H2 => v = .int n ∧ H2 = H1) I1 ⟨rfl, rfl⟩) fun u s2 ⟨v, H2, I2, r2, ev, eh⟩ => kws_nil ?_
  subst ev
  rw [eh] at I2
  obtain ⟨t, rfl⟩ := r2
  obtain ⟨its2, rv2, p2', hz2⟩ := I2.tuple hq
  exact enum_begins_start (begins_tuple a its2.toArray) p2' h0 h1 fun h' he ho hsz hk => wpAny_pyIter_enum he (pie_enumT I2 hq he ho hk q)
end DW
set_option Elab.async false
set_option linter.all false
set_option maxRecDepth 100000
set_option maxHeartbeats 4000000
namespace DW
open PySem PySem.Spec PyProof.Rows L2
theorem cr_range1 {X : Cx} : CallR X (.type "range") (fun vs H Q => ∃ j, vs = [V.int j] ∧ ∀ p, H p = none → Q (.ref p) (upd H p (.rng 0 j))) := by
  intro pins s σ H vs us Q I r h
  obtain ⟨j, rfl, q⟩ := h
  cases r with
  | cons r rr =>
    cases rr
    obtain ⟨t, rfl⟩ := r
    refine call_range_1 ⟨.ref s.heap.objs.size, upd H s.heap.objs.size (.rng 0 j), I.laid (t' := s.toks + 1 + 1) (fun b o e => Heap.get?_push_of_some _ e) (Nat.le_refl _) ?_, rfl, q _ (I.hok.fresh (Nat.le_refl _))⟩
    exact ⟨s.toks, t, s.toks + 1, Heap.get?_push_size _ rfl⟩
def iRngV (tl : TE) : TI := fun σ H R => tl σ H fun x H1 => ∃ a lo hi, x = .ref a ∧ H1 a = some (.rng lo hi) ∧ (-(2 ^ 62) ≤ lo ∧ lo < 2 ^ 62 ∧ -(2 ^ 62) ≤ hi ∧ hi < 2 ^ 62) ∧ R (Itr lo (hi - lo).toNat) H1
theorem pi_rngV {X : Cx} {tg l : Expr} {tl : TE} (hl : PE X l tl) : PI X tg l (iRngV tl) := by
  refine ⟨fun pins s σ H R I h => ?_⟩
  refine thn (hl.run pins s σ H _ I h) fun v s1 ⟨x, H1, I1, r1, q1⟩ => ?_
  obtain ⟨a, lo, hi, e, ha, ⟨h1, h2, h3, h4⟩, q⟩ := q1
  subst e
  cases r1
  obtain ⟨t, u, w, ho⟩ := I1.hok a _ ha
  refine wpAny_pyIter_range (show IsRange s1.heap a lo hi 1 t u w from ho) (small_one h1 h2 h3 h4) ?_
  refine ⟨s1.heap.objs.size, [s1.heap.objs.size], _, _, H1, rfl, I1.kept (t' := s1.toks) fun b o e => Heap.get?_push_of_some _ e, turn_range _ lo (hi - lo).toNat, ?_, fun b hb => ?_, q⟩
  · have e1 : lo + ((0 : Nat) : Int) * 1 = lo := by simp
    have e2 : (((hi - lo).toNat : Nat) : Int) - ((0 : Nat) : Int) = Builtin.Range.rangeSize lo hi 1 := by rw [rangeSize_one]; split <;> omega
    show IsRangeIter _ _ (lo + ((0 : Nat) : Int) * 1) ((((hi - lo).toNat : Nat) : Int) - ((0 : Nat) : Int)) 1
    rw [e1, e2]
    exact Heap.get?_push_size _ rfl
  · have e : b = s1.heap.objs.size := by simpa using hb
    subst e
    exact I1.fpOk (Nat.le_refl _) (I1.hok.fresh (Nat.le_refl _))
section
variable {K : Fg} {B : Bx K} {te : TE} {φ : DE} {Ψ : XP} {δ : DEnv} {μ : Sto}
def cRng1 : DC := fun xs μ Φ => ∃ j, xs = [.int j] ∧ ∀ p, μ p = none → Φ (.hd (.ref p)) (sset μ p (.rng 0 j))
theorem sto_rng {H : Hp} {p : Addr} {lo hi : Int} (s : StoOk K μ H) (h : H p = none) : StoOk K (sset μ p (.rng lo hi)) (upd H p (.rng lo hi)) := fun a x q => by
  by_cases ha : a = p
  · subst ha
    rw [sset_same] at q
    cases q
    exact upd_same
  · rw [sset_ne ha] at q
    exact (s a x q).mono (.newC s h) fun u z => by rw [upd_ne ha]; exact z
theorem rcRng1 : RC K (fun vs H Q => ∃ j, vs = [V.int j] ∧ ∀ p, H p = none → Q (.ref p) (upd H p (.rng 0 j))) cRng1 := fun H μ vs ds Φ Q s r q k => by
  obtain ⟨j, rfl, q⟩ := q
  obtain ⟨v, rfl, r⟩ := reps1 r
  obtain rfl := Rep.int_inv r
  exact ⟨j, rfl, fun p hp => k _ _ _ _ (.newC s hp) (sto_rng s hp) (.hd _ .nil) (q p (s.fresh hp))⟩
def iRngD (φ : DE) : DI := fun Ψ δ μ Φ => φ Ψ δ μ fun x μ1 => ∃ a lo hi, x = .hd (.ref a) ∧ μ1 a = some (.rng lo hi) ∧ (-4611686018427387904 ≤ lo ∧ lo < 4611686018427387904 ∧ -4611686018427387904 ≤ hi ∧ hi < 4611686018427387904) ∧ Φ (rngD lo (hi - lo).toNat) μ1
theorem siRngV (a : SE B te φ) : SI B (iRngV te) (iRngD φ) := fun σ H δ μ Φ R S q k =>
  a σ H δ μ _ _ S q fun v H1 x μ1 S1 e1 r1 q1 => by
    obtain ⟨p, lo, hi, rfl, hp, hb, q2⟩ := q1
    obtain rfl := Rep.hd_inv r1
    exact ⟨p, lo, hi, rfl, S1.sto p _ hp, by omega, k _ _ H1 μ1 S1 e1 iter_rng q2⟩
variable {Φ : DK} {R : List D → Sto → Prop}
theorem v_rng1 {x : D} : cRng1 [x] μ Φ = ∃ j, x = .int j ∧ ∀ p, μ p = none → Φ (.hd (.ref p)) (sset μ p (.rng 0 j)) := propext ⟨fun ⟨j, e, q⟩ => by cases e; exact ⟨j, rfl, q⟩, fun ⟨j, e, q⟩ => ⟨j, by rw [e], q⟩⟩
theorem u_rngV : iRngD φ Ψ δ μ R = φ Ψ δ μ fun x μ1 => ∃ a lo hi, x = .hd (.ref a) ∧ μ1 a = some (.rng lo hi) ∧ (-4611686018427387904 ≤ lo ∧ lo < 4611686018427387904 ∧ -4611686018427387904 ≤ hi ∧ hi < 4611686018427387904) ∧ R (rngD lo (hi - lo).toNat) μ1 := rfl
theorem w_rngE {a b : Int} {c d : Int} : (some (Cell.rng a b) = some (Cell.rng c d)) = (a = c ∧ b = d) := propext ⟨fun e => by cases e; exact ⟨rfl, rfl⟩, fun ⟨h, k⟩ => by rw [h, k]⟩
end
end DW
set_option Elab.async false
set_option linter.all false
set_option maxRecDepth 100000
namespace LW
open PySem PySem.Spec L2 DW
def prodI (ws : List Int) : Int := ws.foldl (· * ·) 1
theorem prodI_snoc (ws : List Int) (z : Int) : prodI (ws ++ [z]) = prodI ws * z := by unfold prodI; rw [List.foldl_append]; rfl
theorem prod_snoc {ws : List Int} {i : Nat} {z : Int} (h : ws[i]? = some z) : prodI (ws.take (i + 1)) = prodI (ws.take i) * z := by
  rw [List.take_add_one, h]; exact prodI_snoc _ _
def prodR : List Int → Int
  | [] => 1
  | w :: r => prodR r * w
theorem prodI_rev : ∀ r : List Int, prodI r.reverse = prodR r
  | [] => rfl
  | w :: r => by rw [List.reverse_cons, prodI_snoc, prodI_rev r]; rfl
abbrev Pos (ws : List Int) : Prop := ∀ w ∈ ws, (0 : Int) < w
theorem Pos.rev {ws : List Int} (h : Pos ws) : Pos ws.reverse := fun w hw => h w (List.mem_reverse.mp hw)
theorem prodR_pos : ∀ {r : List Int}, Pos r → 0 < prodR r
  | [], _ => by decide
  | w :: r, h => Int.mul_pos (prodR_pos fun x hx => h x (List.mem_cons_of_mem _ hx)) (h w List.mem_cons_self)
/-- widths as they are drawn -/
structure WB (ws : List Int) : Prop where
  len : ws.length ≤ 1000
  lo : ∀ w ∈ ws, (0 : Int) ≤ w
  hi : ∀ w ∈ ws, w < 2 ^ 100
  pr : ∀ j, 0 ≤ prodI (ws.take j) ∧ prodI (ws.take j) < 2 ^ 200
end LW
set_option Elab.async false
set_option linter.all false
set_option maxRecDepth 100000
namespace LW
open PySem PySem.Spec L2 DW
/-- two lists that change: the state and one's own -/
structure Two (μ : Sto) (p st : Addr) (L c : List D) (μ' : Sto) : Prop where
  hp : μ p = none
  ne : st ≠ p
  pL : μ' p = some (.lst L)
  sc : μ' st = some (.lst c)
  ot : ∀ a, a ≠ p → a ≠ st → μ' a = μ a
theorem Two.start {μ : Sto} {p st : Addr} {L c : List D} (hp : μ p = none) (hs : μ st = some (.lst c)) : Two μ p st L c (sset μ p (.lst L)) := by
  have ne : st ≠ p := fun z => by rw [z, hp] at hs; cases hs
  exact ⟨hp, ne, sset_same, by rw [sset_ne ne]; exact hs, fun a h _ => sset_ne h⟩
theorem Two.setS {μ μ' : Sto} {p st : Addr} {L c c2 : List D} (T : Two μ p st L c μ') : Two μ p st L c2 (sset μ' st (.lst c2)) :=
  ⟨T.hp, T.ne, by rw [sset_ne (Ne.symm T.ne)]; exact T.pL, sset_same, fun a h1 h2 => by rw [sset_ne h2]; exact T.ot a h1 h2⟩
theorem Two.setP {μ μ' : Sto} {p st : Addr} {L L2 c : List D} (T : Two μ p st L c μ') : Two μ p st L2 c (sset μ' p (.lst L2)) :=
  ⟨T.hp, T.ne, sset_same, by rw [sset_ne T.ne]; exact T.sc, fun a h1 h2 => by rw [sset_ne h1]; exact T.ot a h1 h2⟩
theorem Two.sub {μ μ' : Sto} {p st : Addr} {L c : List D} (T : Two μ p st L c μ') : Sub (sset μ st (.lst c)) μ' := fun a x e => by
  by_cases h : a = st
  · subst h; rw [sset_same] at e; rw [T.sc]; exact e
  · rw [sset_ne h] at e
    have h1 : a ≠ p := fun z => by rw [z, T.hp] at e; cases e
    rw [T.ot a h1 h]; exact e
theorem Two.del {μ μ' : Sto} {p st : Addr} {L c : List D} (T : Two μ p st L c μ') : sdel μ' p = sset μ st (.lst c) := by
  funext a
  unfold sdel
  by_cases h : a = p
  · subst h; rw [if_pos rfl, sset_ne (Ne.symm T.ne), T.hp]
  · rw [if_neg h]
    by_cases h2 : a = st
    · subst h2; rw [sset_same, T.sc]
    · rw [sset_ne h2]; exact T.ot a h h2
theorem prodI_eqR (ws : List Int) : prodI ws = prodR ws.reverse := by
  have e := prodI_rev ws.reverse
  rw [List.reverse_reverse] at e
  exact e
theorem prodI_pos0 {ws : List Int} (h : Pos ws) : 0 < prodI ws := by rw [prodI_eqR]; exact prodR_pos h.rev
theorem Pos.take {ws : List Int} (h : Pos ws) (j : Nat) : Pos (ws.take j) := fun w hw => h w (List.mem_of_mem_take hw)
/-- a product of a front is no greater -/
theorem prod_take_le {ws : List Int} (h : Pos ws) : ∀ j, prodI (ws.take j) ≤ prodI ws := by
  have step : ∀ j, prodI (ws.take j) ≤ prodI (ws.take (j + 1)) := fun j => by
    cases e : ws[j]? with
    | none =>
      have hl : ws.length ≤ j := by rw [List.getElem?_eq_none_iff] at e; exact e
      rw [List.take_of_length_le hl, List.take_of_length_le (by omega)]; exact Int.le_refl _
    | some z =>
      rw [LW.prod_snoc e]
      have h1 := prodI_pos0 (h.take j)
      have h2 := h z (List.mem_of_getElem? e)
      have : prodI (ws.take j) * 1 ≤ prodI (ws.take j) * z := Int.mul_le_mul_of_nonneg_left (by omega) (by omega)
      omega
  have far : ∀ k j, prodI (ws.take j) ≤ prodI (ws.take (j + k)) := fun k => by
    induction k with
    | zero => intro j; exact Int.le_refl _
    | succ k ih => intro j; exact Int.le_trans (ih j) (step (j + k))
  intro j
  have := far ws.length j
  rw [List.take_of_length_le (by omega : ws.length ≤ j + ws.length)] at this
  exact this
theorem WB.of {ws : List Int} (hl : ws.length ≤ 1000) (hp : Pos ws) (hh : ∀ w ∈ ws, w < 2 ^ 100) (hb : prodI ws < 2 ^ 200) : WB ws :=
  ⟨hl, fun w hw => by have := hp w hw; omega, hh, fun j => ⟨by have := prodI_pos0 (hp.take j); omega, by have := prod_take_le hp j; omega⟩⟩
end LW
set_option Elab.async false
set_option linter.all false
set_option maxRecDepth 100000
namespace LW
open PySem PySem.Spec L2 DW
inductive Am where
  | any | best (r : List Int) | second (r : List Int) | most | fewest | fixed | like (i : Nat) | unlike (i : Nat) | among (l : List Int) | only (l : List Int) | table (rows : List (List Int))
  | either (a b : Am) | both (a b : Am) | els (a b : Am) | not (a : Am) | first (a : Am) | recode (m : List Int) (a : Am) | reorder (p : List Int) (a : Am)
namespace Am
def iT (l : List Int) : D := .tup (l.map .int)
def d : Am → D
  | any => .tup [.str "any"]
  | best r => .tup [.str "best", iT r]
  | second r => .tup [.str "second", iT r]
  | most => .tup [.str "most"]
  | fewest => .tup [.str "fewest"]
  | fixed => .tup [.str "fixed"]
  | like i => .tup [.str "like", .int i]
  | unlike i => .tup [.str "unlike", .int i]
  | among l => .tup [.str "among", iT l]
  | only l => .tup [.str "only", iT l]
  | table rows => .tup [.str "table", .tup (rows.map iT)]
  | either a b => .tup [.str "either", a.d, b.d]
  | both a b => .tup [.str "both", a.d, b.d]
  | els a b => .tup [.str "else", a.d, b.d]
  | not a => .tup [.str "not", a.d]
  | first a => .tup [.str "first", a.d]
  | recode m a => .tup [.str "recode", iT m, a.d]
  | reorder p a => .tup [.str "reorder", iT p, a.d]
def dep : Am → Nat
  | either a b => max a.dep b.dep + 1
  | both a b => max a.dep b.dep + 1
  | els a b => max a.dep b.dep + 1
  | not a => a.dep + 1
  | first a => a.dep + 1
  | recode _ a => a.dep + 1
  | reorder _ a => a.dep + 1
  | _ => 1
end Am
/-- ascending numbers from lo on, below hi -/
def Asc (hi : Int) : Int → List Int → Prop
  | _, [] => True
  | lo, x :: r => lo ≤ x ∧ x < hi ∧ Asc hi (x + 1) r
structure CtxOk (n k : Nat) (c : List Int) : Prop where
  len : c.length = n
  lo : ∀ r ∈ c, 0 ≤ r
  hi : ∀ r ∈ c, r < k
  n1 : 1 ≤ n
  n64 : n ≤ 64
  k1 : 1 ≤ k
  k4 : k ≤ 4
def NumOk (len lim : Nat) (r : List Int) : Prop := r.length = len ∧ ∀ x ∈ r, 0 ≤ x ∧ x < (lim : Int)
def AmOk (n k : Nat) : Am → Prop
  | .any => True
  | .best r => NumOk k 10 r
  | .second r => NumOk k 10 r
  | .most => True
  | .fewest => True
  | .fixed => True
  | .like i => i < n
  | .unlike i => i < n
  | .among l => Asc k 0 l
  | .only l => Asc n 0 l
  | .table rows => n ≤ 8 ∧ k ^ n ≤ 256 ∧ rows.length = k ^ n ∧ ∀ l ∈ rows, Asc n 0 l
  | .either a b => AmOk n k a ∧ AmOk n k b
  | .both a b => AmOk n k a ∧ AmOk n k b
  | .els a b => AmOk n k a ∧ AmOk n k b
  | .not a => AmOk n k a
  | .first a => AmOk n k a
  | .recode m a => NumOk k k m ∧ AmOk n k a
  | .reorder p a => NumOk n n p ∧ p.Nodup ∧ AmOk n k a
def at' (l : List Int) (i : Int) : Int := l.getD i.toNat 0
/-- the number of a context -/
def ctxIx (k : Nat) (c : List Int) : Int := c.foldl (fun s r => s * k + r) 0
def someI (n : Nat) (p : Nat → Bool) : Bool := (List.range n).any p
def isG (k : Nat) : Am → List Int → Nat → Bool
  | .any, _, _ => true
  | .best r, c, x => c.all fun s => decide (at' r s ≤ at' r (c.getD x 0))
  | .second r, c, x => let m := at' r (c.getD x 0); c.all (fun s => m == at' r s) || (let ab := (c.map (at' r)).filter (fun s => decide (m < s)); decide (0 < ab.length) && ab.all (· == ab.getD 0 0))
  | .most, c, x => c.all fun s => decide (c.count s ≤ c.count (c.getD x 0))
  | .fewest, c, x => c.all fun s => decide (c.count (c.getD x 0) ≤ c.count s)
  | .fixed, c, x => c.getD x 0 == (x : Int)
  | .like i, c, x => c.getD x 0 == c.getD i 0
  | .unlike i, c, x => c.getD x 0 != c.getD i 0
  | .among l, c, x => l.contains (c.getD x 0)
  | .only l, _, x => l.contains (x : Int)
  | .table rows, c, x => (rows.getD (ctxIx k c).toNat []).contains (x : Int)
  | .either a b, c, x => isG k a c x || isG k b c x
  | .both a b, c, x => isG k a c x && isG k b c x
  | .els a b, c, x => if someI c.length (isG k a c) then isG k a c x else isG k b c x
  | .not a, c, x => !isG k a c x
  | .first a, c, x => isG k a c x && !someI x (isG k a c)
  | .recode m a, c, x => isG k a (c.map (at' m)) x
  | .reorder p a, c, x => isG k a ((List.range c.length).map fun (y : Nat) => c.getD (p.idxOf (y : Int)) (0 : Int)) (at' p x).toNat
def flagL (k : Nat) (a : Am) (c : List Int) : List D := (List.range c.length).map fun x => .bl (isG k a c x)
def FlC (P : Am → Prop) : Con := fun ds μ Φ _ => ∃ (n k : Nat) (a : Am) (c : List Int), P a ∧ AmOk n k a ∧ CtxOk n k c ∧ ds = [a.d, .tup (c.map .int), .int k] ∧ Φ (.lst (flagL k a c)) μ
section
variable {Ψ : XP} {Φ : DK} {n : Nat} {φ : DE} {δw : DEnv} {μ1 : Sto}
/-- over numbers, by the place -/
theorem lcI {ws : List Int} (v : Nat → D) (hz : ws.length ≤ 100000)
    (hs : ∀ (i : Nat) (z : Int) (μ2 : Sto) (X : DK), ws[i]? = some z → Sub μ1 μ2 → X (v i) μ2 → φ Ψ (δw.set n (some (.int z))) μ2 X)
    (hd : Φ (.lst ((List.range ws.length).map v)) μ1) : LcG (eName n) dYes φ δw Ψ (ws.map .int) μ1 Φ := by
  have hl : (ws.map D.int).length = ws.length := List.length_map ..
  refine lcG_mapN v (by rw [hl]; exact hz) (fun i d μ2 X hi hsub hx => ?_) (by rw [hl]; exact hd)
  obtain ⟨z, e, rfl⟩ := mapI_get hi
  exact hs i z μ2 X e hsub hx
/-- over numbers, by the number -/
theorem lcZ {ws : List Int} (f : Int → D) (hz : ws.length ≤ 100000)
    (hs : ∀ (z : Int) (μ2 : Sto) (X : DK), z ∈ ws → Sub μ1 μ2 → X (f z) μ2 → φ Ψ (δw.set n (some (.int z))) μ2 X)
    (hd : Φ (.lst (ws.map f)) μ1) : LcG (eName n) dYes φ δw Ψ (ws.map .int) μ1 Φ := by
  refine lcI (fun i => f (ws.getD i 0)) hz (fun i z μ2 X hi hsub hx => ?_) ?_
  · rw [List.getD_eq_getElem?_getD, hi] at hx
    exact hs z μ2 X (List.mem_of_getElem? hi) hsub hx
  · have : (List.range ws.length).map (fun i => f (ws.getD i 0)) = ws.map f := by
      apply List.ext_getElem
      · simp
      · intro i h1 h2
        simp at h1
        simp [List.getD_eq_getElem?_getD, List.getElem?_eq_getElem h1]
    rw [this]; exact hd
theorem inD_I (z : Int) : ∀ l : List Int, inD (.int z) (l.map .int) = l.contains z
  | [] => rfl
  | x :: l => by
    have ih := inD_I z l
    unfold inD at ih ⊢
    rw [List.map_cons, List.any_cons, ih, List.contains_cons]
    show (x == z || l.contains z) = _
    by_cases hh : x = z
    · rw [hh]
    · rw [beq_eq_false_iff_ne.mpr hh, beq_eq_false_iff_ne.mpr (Ne.symm hh)]
theorem flat_I (l : List Int) : (l.map D.int).all flatD = true := by rw [List.all_map]; exact List.all_eq_true.mpr fun _ _ => rfl
end
theorem FlC.len {P : Am → Prop} {ds μ Φ Ψ} (h : FlC P ds μ Φ Ψ) : ds.length = 3 := by obtain ⟨_, _, _, _, _, _, _, rfl, _⟩ := h; rfl
end LW
set_option Elab.async false
set_option linter.all false
set_option maxRecDepth 100000
set_option Elab.async false
set_option linter.all false
set_option maxRecDepth 100000
namespace LW
open PySem PySem.Spec L2 DW
theorem seq_cut {ω ζ : DSt} {Ψ : XP} {Δ : DEnds} {δ : DEnv} {μ : Sto} (h : ∀ M, M = ζ Ψ Δ → ω Ψ { Δ with nx := M } δ μ) : dSeq ω ζ Ψ Δ δ μ := h _ rfl
structure Rw where
  h : List Int
  c : List Int
def NSA : List Str := ["head", "cycle"]
def rwO (C : Addr) (r : Rw) : D := .obj C NSA [.tup (r.h.map .int), .tup (r.c.map .int)]
def cyc (c : List Int) (i : Nat) : Int := c.getD (i % c.length) 0
/-- what stands at a place -/
def ent (r : Rw) (i : Nat) : Int := if i < r.h.length then r.h.getD i 0 else cyc r.c (i - r.h.length)
structure RwOk (r : Rw) : Prop where
  c0 : r.c ≠ []
  hl : r.h.length ≤ 1000
  cl : r.c.length ≤ 1000
  hp : ∀ x ∈ r.h, 0 ≤ x
  cp : ∀ x ∈ r.c, 0 ≤ x
theorem cyc_mod (c : List Int) (i : Nat) : cyc c (i % c.length) = cyc c i := by unfold cyc; rw [Nat.mod_mod]
theorem cyc_lt {c : List Int} {i : Nat} (h : i < c.length) : cyc c i = c[i] := by
  unfold cyc
  rw [Nat.mod_eq_of_lt h, List.getD_eq_getElem?_getD, List.getElem?_eq_getElem h]; rfl
theorem self_at {c : List Int} {i : Nat} (hi : i < c.length) : c[i]? = some (cyc c i) := by rw [List.getElem?_eq_getElem hi, cyc_lt hi]
end LW
set_option Elab.async false
set_option linter.all false
set_option maxRecDepth 100000
namespace LW
open PySem PySem.Spec L2 DW
inductive QT where
  | tell (o : Nat)
  | look (p : Nat) (ts : List QT)
abbrev NS_Row : List Str := NSA
def NS_Query : List Str := ["term", "widths", "outcomes"]
mutual
def qD : QT → D
  | .tell o => .tup [.str "tell", .int (o : Int)]
  | .look p ts => .tup (.str "look" :: .int (p : Int) :: qDs ts)
def qDs : List QT → List D
  | [] => []
  | t :: ts => qD t :: qDs ts
end
theorem qDs_map : ∀ ts : List QT, qDs ts = ts.map qD
  | [] => rfl
  | t :: ts => by rw [qDs, qDs_map ts]; rfl
theorem qDs_len (ts : List QT) : (qDs ts).length = ts.length := by rw [qDs_map, List.length_map]
/-- the width of a place -/
def wd (ws : List Int) (p : Nat) : Nat := (ws.getD (p % ws.length) 0).toNat
structure WsOk (ws : List Int) : Prop where
  l0 : 1 ≤ ws.length
  l1 : ws.length ≤ 6
  w : ∀ x ∈ ws, 1 ≤ x ∧ x ≤ 4
theorem WsOk.at_ {ws : List Int} (h : WsOk ws) (p : Nat) : ∃ x, ws[p % ws.length]? = some x ∧ x = (wd ws p : Int) ∧ 1 ≤ x ∧ x ≤ 4 := by
  have hp : p % ws.length < ws.length := Nat.mod_lt _ (by have := h.l0; omega)
  have hx := h.w _ (List.getElem_mem hp)
  refine ⟨ws[p % ws.length], List.getElem?_eq_getElem hp, ?_, hx⟩
  unfold wd
  rw [List.getD_eq_getElem?_getD, List.getElem?_eq_getElem hp]
  simp only [Option.getD_some]
  omega
theorem WsOk.wd1 {ws : List Int} (h : WsOk ws) (p : Nat) : 1 ≤ wd ws p ∧ wd ws p ≤ 4 := by
  obtain ⟨x, _, e, h1, h2⟩ := h.at_ p
  omega
mutual
def QOk (ws : List Int) (oc : Nat) : QT → Prop
  | .tell o => o < oc
  | .look p ts => p < 100 ∧ ts.length = wd ws p ∧ QOks ws oc ts
def QOks (ws : List Int) (oc : Nat) : List QT → Prop
  | [] => True
  | t :: ts => QOk ws oc t ∧ QOks ws oc ts
end
theorem qoks_iff {ws : List Int} {oc : Nat} : ∀ {ts : List QT}, QOks ws oc ts ↔ ∀ t ∈ ts, QOk ws oc t
  | [] => by simp [QOks]
  | t :: ts => by rw [QOks, qoks_iff (ts := ts)]; simp
/-- how many looks inside of one another -/
def qDep : QT → Nat
  | .tell _ => 0
  | .look _ ts => qDeps ts + 1
where qDeps : List QT → Nat
  | [] => 0
  | t :: ts => max (qDep t) (qDeps ts)
theorem qdeps_le {t : QT} : ∀ {ts : List QT}, t ∈ ts → qDep t ≤ qDep.qDeps ts
  | s :: ts, h => by
    rw [qDep.qDeps]
    rcases List.mem_cons.mp h with e | e
    · subst e; omega
    · have := qdeps_le e; omega
/-- the places, look by look -/
def qPl : QT → List Nat
  | .tell _ => []
  | .look p ts => p :: qPls ts
where qPls : List QT → List Nat
  | [] => []
  | t :: ts => qPl t ++ qPls ts
theorem qpls_flat : ∀ ts : List QT, qPl.qPls ts = ts.flatMap qPl
  | [] => rfl
  | t :: ts => by rw [qPl.qPls, qpls_flat ts, List.flatMap_cons]
theorem qpls_mem {ts : List QT} {q : Nat} : q ∈ qPl.qPls ts ↔ ∃ t ∈ ts, q ∈ qPl t := by rw [qpls_flat, List.mem_flatMap]
theorem qpls_len {t : QT} : ∀ {ts : List QT}, t ∈ ts → (qPl t).length ≤ (qPl.qPls ts).length
  | s :: ts, h => by
    rw [qPl.qPls, List.length_append]
    rcases List.mem_cons.mp h with e | e
    · subst e; omega
    · have := qpls_len e; omega
/-- what is told on a way -/
def qA (f : Nat → Nat) : QT → Nat
  | .tell o => o
  | .look p ts => (qAs f ts).getD (f p) 0
where qAs (f : Nat → Nat) : List QT → List Nat
  | [] => []
  | t :: ts => qA f t :: qAs f ts
theorem qas_map {f : Nat → Nat} : ∀ ts : List QT, qA.qAs f ts = ts.map (qA f)
  | [] => rfl
  | t :: ts => by rw [qA.qAs, qas_map ts]; rfl
theorem qA_look {f : Nat → Nat} {p : Nat} {ts : List QT} {t : QT} (h : ts[f p]? = some t) : qA f (.look p ts) = qA f t := by
  rw [qA, qas_map, List.getD_eq_getElem?_getD, List.getElem?_map, h]; rfl
/-- a place fixed -/
def qFx (m o : Nat) : QT → QT
  | .tell x => .tell x
  | .look p ts => if p = m then (qFxs m o ts).getD o (.tell 0) else .look p (qFxs m o ts)
where qFxs (m o : Nat) : List QT → List QT
  | [] => []
  | t :: ts => qFx m o t :: qFxs m o ts
theorem qfxs_map {m o : Nat} : ∀ ts : List QT, qFx.qFxs m o ts = ts.map (qFx m o)
  | [] => rfl
  | t :: ts => by rw [qFx.qFxs, qfxs_map ts]; rfl
theorem qFx_at {m o : Nat} {ts : List QT} {t : QT} (h : ts[o]? = some t) : qFx m o (.look m ts) = qFx m o t := by
  rw [qFx, if_pos rfl, qfxs_map, List.getD_eq_getElem?_getD, List.getElem?_map, h]; rfl
theorem qFx_ne {m o p : Nat} {ts : List QT} (h : p ≠ m) : qFx m o (.look p ts) = .look p (ts.map (qFx m o)) := by rw [qFx, if_neg h, qfxs_map]
/-- a way of proving for all terms -/
theorem QT.ind {P : QT → Prop} (h1 : ∀ o, P (.tell o)) (h2 : ∀ p ts, (∀ t ∈ ts, P t) → P (.look p ts)) (t : QT) : P t :=
  QT.rec (motive_1 := P) (motive_2 := fun ts => ∀ t ∈ ts, P t) h1 h2 (by simp) (fun t ts a b => by simpa using ⟨a, b⟩) t
section
variable {ws : List Int} {oc m o : Nat}
theorem qFx_ok (hm : o < wd ws m) : ∀ t, QOk ws oc t → QOk ws oc (qFx m o t) := fun t => by
  induction t using QT.ind with
  | h1 x => intro h; exact h
  | h2 p ts ih =>
    intro h
    obtain ⟨hp, hl, ht⟩ := h
    rw [qoks_iff] at ht
    by_cases e : p = m
    · subst e
      have ho : o < ts.length := by omega
      rw [qFx_at (List.getElem?_eq_getElem ho)]
      exact ih _ (List.getElem_mem ho) (ht _ (List.getElem_mem ho))
    · rw [qFx_ne e]
      refine ⟨hp, by rw [List.length_map]; exact hl, qoks_iff.mpr fun t h => ?_⟩
      obtain ⟨s, hs, rfl⟩ := List.mem_map.mp h
      exact ih s hs (ht s hs)
theorem qFx_ans {f : Nat → Nat} (hm : o < wd ws m) (hf : ∀ p, f p < wd ws p) : ∀ t, QOk ws oc t → qA f (qFx m o t) = qA (fun p => if p = m then o else f p) t := fun t => by
  induction t using QT.ind with
  | h1 x => intro h; rfl
  | h2 p ts ih =>
    intro h
    obtain ⟨hp, hl, ht⟩ := h
    rw [qoks_iff] at ht
    by_cases e : p = m
    · subst e
      have ho : o < ts.length := by omega
      rw [qFx_at (List.getElem?_eq_getElem ho), ih _ (List.getElem_mem ho) (ht _ (List.getElem_mem ho))]
      refine (qA_look ?_).symm
      rw [if_pos rfl]
      exact List.getElem?_eq_getElem ho
    · rw [qFx_ne e]
      have ho : f p < ts.length := by have := hf p; omega
      rw [qA_look (t := qFx m o ts[f p]) (by rw [List.getElem?_map, List.getElem?_eq_getElem ho]; rfl), ih _ (List.getElem_mem ho) (ht _ (List.getElem_mem ho))]
      refine (qA_look ?_).symm
      rw [if_neg e]
      exact List.getElem?_eq_getElem ho
theorem qFx_pl (hm : o < wd ws m) : ∀ t, QOk ws oc t → ∀ q ∈ qPl (qFx m o t), q ∈ qPl t ∧ q ≠ m := fun t => by
  induction t using QT.ind with
  | h1 x => intro h q hq; simp [qFx, qPl] at hq
  | h2 p ts ih =>
    intro h q hq
    obtain ⟨hp, hl, ht⟩ := h
    rw [qoks_iff] at ht
    rw [qPl]
    by_cases e : p = m
    · subst e
      have ho : o < ts.length := by omega
      rw [qFx_at (List.getElem?_eq_getElem ho)] at hq
      obtain ⟨h1, h2⟩ := ih _ (List.getElem_mem ho) (ht _ (List.getElem_mem ho)) q hq
      exact ⟨List.mem_cons_of_mem _ (qpls_mem.mpr ⟨_, List.getElem_mem ho, h1⟩), h2⟩
    · rw [qFx_ne e, qPl] at hq
      rcases List.mem_cons.mp hq with e2 | e2
      · subst e2; exact ⟨List.mem_cons_self, e⟩
      · obtain ⟨s, hs, hq2⟩ := qpls_mem.mp e2
        obtain ⟨t, ht2, rfl⟩ := List.mem_map.mp hs
        obtain ⟨h1, h2⟩ := ih t ht2 (ht t ht2) q hq2
        exact ⟨List.mem_cons_of_mem _ (qpls_mem.mpr ⟨t, ht2, h1⟩), h2⟩
theorem qpls_map_le {g : QT → QT} : ∀ ts : List QT, (∀ t ∈ ts, (qPl (g t)).length ≤ (qPl t).length) → (qPl.qPls (ts.map g)).length ≤ (qPl.qPls ts).length
  | [], _ => Nat.le_refl _
  | t :: ts, h => by
    rw [List.map_cons, qPl.qPls, qPl.qPls, List.length_append, List.length_append]
    have h1 := h t List.mem_cons_self
    have h2 := qpls_map_le ts fun s hs => h s (List.mem_cons_of_mem _ hs)
    omega
theorem qFx_len (hm : o < wd ws m) : ∀ t, QOk ws oc t → (qPl (qFx m o t)).length ≤ (qPl t).length := fun t => by
  induction t using QT.ind with
  | h1 x => intro h; exact Nat.le_refl _
  | h2 p ts ih =>
    intro h
    obtain ⟨hp, hl, ht⟩ := h
    rw [qoks_iff] at ht
    by_cases e : p = m
    · subst e
      have ho : o < ts.length := by omega
      rw [qFx_at (List.getElem?_eq_getElem ho), qPl, List.length_cons]
      have h1 := ih _ (List.getElem_mem ho) (ht _ (List.getElem_mem ho))
      have h2 := qpls_len (List.getElem_mem ho)
      omega
    · rw [qFx_ne e, qPl, qPl, List.length_cons, List.length_cons]
      have := qpls_map_le (g := qFx m o) ts fun t h => ih t h (ht t h)
      omega
theorem qFx_same : ∀ t, m ∉ qPl t → qFx m o t = t := fun t => by
  induction t using QT.ind with
  | h1 x => intro h; rfl
  | h2 p ts ih =>
    intro h
    rw [qPl] at h
    rw [qFx_ne (fun e => h (by rw [e]; exact List.mem_cons_self))]
    congr 1
    refine (List.map_congr_left fun t ht => ih t ht fun q => h (List.mem_cons_of_mem _ (qpls_mem.mpr ⟨t, ht, q⟩))).trans (List.map_id' _)
theorem qFx_dep : ∀ t, QOk ws oc t → o < wd ws m → qDep (qFx m o t) ≤ qDep t := fun t => by
  induction t using QT.ind with
  | h1 x => intro h _; exact Nat.le_refl _
  | h2 p ts ih =>
    intro h hm
    obtain ⟨hp, hl, ht⟩ := h
    rw [qoks_iff] at ht
    by_cases e : p = m
    · subst e
      have ho : o < ts.length := by omega
      rw [qFx_at (List.getElem?_eq_getElem ho), qDep]
      have h1 := ih _ (List.getElem_mem ho) (ht _ (List.getElem_mem ho)) hm
      have h2 := qdeps_le (List.getElem_mem ho)
      omega
    · rw [qFx_ne e, qDep, qDep]
      have : ∀ us : List QT, (∀ t ∈ us, qDep (qFx m o t) ≤ qDep t) → qDep.qDeps (us.map (qFx m o)) ≤ qDep.qDeps us := fun us => by
        induction us with
        | nil => intro _; exact Nat.le_refl _
        | cons u us ih2 =>
          intro h
          rw [List.map_cons, qDep.qDeps, qDep.qDeps]
          have h1 := h u List.mem_cons_self
          have h2 := ih2 fun t ht => h t (List.mem_cons_of_mem _ ht)
          omega
      have := this ts fun t h => ih t h (ht t h) hm
      omega
end
section
variable {ws : List Int} {oc m o : Nat}
theorem qpls_map_lt {g : QT → QT} {t0 : QT} : ∀ ts : List QT, (∀ t ∈ ts, (qPl (g t)).length ≤ (qPl t).length) → t0 ∈ ts → (qPl (g t0)).length < (qPl t0).length → (qPl.qPls (ts.map g)).length < (qPl.qPls ts).length
  | [], _, z, _ => by cases z
  | t :: ts, h, hm, hl => by
    rw [List.map_cons, qPl.qPls, qPl.qPls, List.length_append, List.length_append]
    have h1 := h t List.mem_cons_self
    have h2 := qpls_map_le (g := g) ts fun s hs => h s (List.mem_cons_of_mem _ hs)
    rcases List.mem_cons.mp hm with e | e
    · subst e; omega
    · have := qpls_map_lt ts (fun s hs => h s (List.mem_cons_of_mem _ hs)) e hl
      omega
theorem qFx_lt (hm : o < wd ws m) : ∀ t, QOk ws oc t → m ∈ qPl t → (qPl (qFx m o t)).length < (qPl t).length := fun t => by
  induction t using QT.ind with
  | h1 x => intro h q; simp [qPl] at q
  | h2 p ts ih =>
    intro h q
    have hh := h
    obtain ⟨hp, hl, ht⟩ := h
    rw [qoks_iff] at ht
    by_cases e : p = m
    · subst e
      have ho : o < ts.length := by omega
      rw [qFx_at (List.getElem?_eq_getElem ho), qPl, List.length_cons]
      have h1 := qFx_len hm _ (ht _ (List.getElem_mem ho))
      have h2 := qpls_len (List.getElem_mem ho)
      omega
    · rw [qFx_ne e, qPl, qPl, List.length_cons, List.length_cons]
      rw [qPl] at q
      rcases List.mem_cons.mp q with e2 | e2
      · exact absurd e2.symm e
      · obtain ⟨t, ht2, hq⟩ := qpls_mem.mp e2
        have := qpls_map_lt (g := qFx m o) (t0 := t) ts (fun t h => qFx_len hm t (ht t h)) ht2 (ih t ht2 (ht t ht2) hq)
        omega
/-- the least of numbers -/
def qMin : List Nat → Nat
  | [] => 0
  | [x] => x
  | x :: y :: l => min x (qMin (y :: l))
theorem qMin_mem : ∀ {l : List Nat}, l ≠ [] → qMin l ∈ l
  | [x], _ => List.mem_cons_self
  | x :: y :: l, _ => by
    rw [qMin]
    have h := qMin_mem (l := y :: l) (by simp)
    by_cases e : x ≤ qMin (y :: l)
    · rw [Nat.min_eq_left e]; exact List.mem_cons_self
    · rw [Nat.min_eq_right (by omega)]; exact List.mem_cons_of_mem _ h
theorem qMin_le : ∀ {l : List Nat} {z : Nat}, z ∈ l → qMin l ≤ z
  | [x], z, h => by simp at h; subst h; exact Nat.le_refl _
  | x :: y :: l, z, h => by
    rw [qMin]
    rcases List.mem_cons.mp h with e | e
    · subst e; omega
    · have := qMin_le e; omega
theorem qMin_eq {l : List Nat} (h : m ∈ l) (hl : ∀ z ∈ l, m ≤ z) : qMin l = m := by
  have h1 := qMin_le h
  have h2 := hl _ (qMin_mem (l := l) (fun e => by rw [e] at h; cases h))
  omega
open Classical in
/-- the parts of a place put together -/
noncomputable def joinP (m : Nat) (parts : List QT) : QT := if ∀ q ∈ parts, q = parts.headD (.tell 0) then parts.headD (.tell 0) else .look m parts
/-- a settled term -/
noncomputable def qSt (ws : List Int) : Nat → QT → QT
  | 0, t => t
  | _ + 1, .tell o => .tell o
  | n + 1, .look p ts => joinP (qMin (qPl (.look p ts))) ((List.range (wd ws (qMin (qPl (.look p ts))))).map fun i => qSt ws n (qFx (qMin (qPl (.look p ts))) i (.look p ts)))
mutual
def IsS (ws : List Int) (oc : Nat) : Nat → QT → Prop
  | _, .tell o => o < oc
  | lo, .look p ts => lo ≤ p ∧ p < 100 ∧ ts.length = wd ws p ∧ (¬ ∀ q ∈ ts, q = ts.headD (.tell 0)) ∧ IsSs ws oc (p + 1) ts
def IsSs (ws : List Int) (oc : Nat) : Nat → List QT → Prop
  | _, [] => True
  | lo, t :: ts => IsS ws oc lo t ∧ IsSs ws oc lo ts
end
theorem iss_iff {lo : Nat} : ∀ {ts : List QT}, IsSs ws oc lo ts ↔ ∀ t ∈ ts, IsS ws oc lo t
  | [] => by simp [IsSs]
  | t :: ts => by rw [IsSs, iss_iff (ts := ts)]; simp
theorem IsS.mono {lo lo' : Nat} (h : lo' ≤ lo) : ∀ {t : QT}, IsS ws oc lo t → IsS ws oc lo' t
  | .tell o, q => by rw [IsS] at q ⊢; exact q
  | .look p ts, q => by rw [IsS] at q ⊢; exact ⟨by omega, q.2⟩
theorem IsS.ok : ∀ (t : QT) {lo : Nat}, IsS ws oc lo t → QOk ws oc t := fun t => by
  induction t using QT.ind with
  | h1 x => intro lo h; rw [IsS] at h; exact h
  | h2 p ts ih =>
    intro lo h
    rw [IsS] at h
    obtain ⟨_, h1, h2, _, h3⟩ := h
    exact ⟨h1, h2, qoks_iff.mpr fun t ht => ih t ht (iss_iff.mp h3 t ht)⟩
theorem IsS.pl : ∀ (t : QT) {lo : Nat}, IsS ws oc lo t → ∀ q ∈ qPl t, lo ≤ q := fun t => by
  induction t using QT.ind with
  | h1 x => intro lo h q hq; simp [qPl] at hq
  | h2 p ts ih =>
    intro lo h q hq
    rw [IsS] at h
    obtain ⟨h0, h1, h2, _, h3⟩ := h
    rw [qPl] at hq
    rcases List.mem_cons.mp hq with e | e
    · subst e; exact h0
    · obtain ⟨t, ht, hq2⟩ := qpls_mem.mp e
      have := ih t ht (iss_iff.mp h3 t ht) q hq2
      omega
theorem qSt_ok (hw : WsOk ws) : ∀ (n : Nat) (t : QT) (lo : Nat), QOk ws oc t → (qPl t).length ≤ n → (∀ p ∈ qPl t, lo ≤ p) →
    IsS ws oc lo (qSt ws n t) ∧ (∀ q ∈ qPl (qSt ws n t), q ∈ qPl t) ∧ ∀ f : Nat → Nat, (∀ p, f p < wd ws p) → qA f (qSt ws n t) = qA f t := fun n => by
  induction n with
  | zero =>
    intro t lo h hl hp
    cases t with
    | tell x => exact ⟨by rw [qSt, IsS]; exact h, fun _ q => q, fun _ _ => rfl⟩
    | look p ts => rw [qPl, List.length_cons] at hl; omega
  | succ n ih =>
    intro t lo h hl hp
    cases t with
    | tell x => exact ⟨by rw [qSt, IsS]; exact h, fun _ q => by rw [qSt] at q; exact q, fun _ _ => rfl⟩
    | look p ts =>
      rw [qSt]
      generalize ht : QT.look p ts = t at *
      have hne : qPl t ≠ [] := by rw [← ht, qPl]; simp
      have hm := qMin_mem hne
      generalize hmm : qMin (qPl t) = m at *
      have hm1 : ∀ z ∈ qPl t, m ≤ z := fun z hz => by rw [← hmm]; exact qMin_le hz
      have hlo := hp m hm
      have hm100 : m < 100 := by
        have : ∀ t : QT, QOk ws oc t → ∀ q ∈ qPl t, q < 100 := fun t => by
          induction t using QT.ind with
          | h1 x => intro h q hq; simp [qPl] at hq
          | h2 p ts ih2 =>
            intro h q hq
            obtain ⟨hp, hl, ht⟩ := h
            rw [qoks_iff] at ht
            rw [qPl] at hq
            rcases List.mem_cons.mp hq with e | e
            · subst e; exact hp
            · obtain ⟨t, ht2, hq2⟩ := qpls_mem.mp e
              exact ih2 t ht2 (ht t ht2) q hq2
        exact this t h m hm
      have I : ∀ i, i < wd ws m → IsS ws oc (m + 1) (qSt ws n (qFx m i t)) ∧ (∀ q ∈ qPl (qSt ws n (qFx m i t)), q ∈ qPl t) ∧ ∀ f : Nat → Nat, (∀ p, f p < wd ws p) → f m = i → qA f (qSt ws n (qFx m i t)) = qA f t := fun i hi => by
        have hlt := qFx_lt hi t h hm
        obtain ⟨a, b, c⟩ := ih (qFx m i t) (m + 1) (qFx_ok hi t h) (by omega) (fun q hq => by
          obtain ⟨x, y⟩ := qFx_pl hi t h q hq
          have := hm1 q x
          omega)
        refine ⟨a, fun q hq => (qFx_pl hi t h q (b q hq)).1, fun f hf e => ?_⟩
        rw [c f hf, qFx_ans hi hf t h]
        congr 1
        funext p
        by_cases ep : p = m
        · rw [if_pos ep, ep, e]
        · rw [if_neg ep]
      have hw1 := hw.wd1 m
      generalize hps : ((List.range (wd ws m)).map fun i => qSt ws n (qFx m i t)) = parts
      have hpl : parts.length = wd ws m := by rw [← hps, List.length_map, List.length_range]
      have hat : ∀ i, i < wd ws m → parts[i]? = some (qSt ws n (qFx m i t)) := fun i hi => by rw [← hps, List.getElem?_map, List.getElem?_range hi]; rfl
      have hmem : ∀ s ∈ parts, ∃ i, i < wd ws m ∧ s = qSt ws n (qFx m i t) := fun s hs => by
        rw [← hps] at hs
        obtain ⟨i, hi, rfl⟩ := List.mem_map.mp hs
        exact ⟨i, List.mem_range.mp hi, rfl⟩
      unfold joinP
      split
      · rename_i hall
        have h0 : parts.headD (.tell 0) = qSt ws n (qFx m 0 t) := by
          have := hat 0 (by omega)
          cases parts with
          | nil => simp at this
          | cons a l => simpa using this
        rw [h0] at hall ⊢
        obtain ⟨a, b, c⟩ := I 0 (by omega)
        refine ⟨a.mono (by omega), b, fun f hf => ?_⟩
        have e := hall _ (List.mem_of_getElem? (hat (f m) (hf m)))
        rw [← e]
        exact (I (f m) (hf m)).2.2 f hf rfl
      · rename_i hall
        refine ⟨?_, fun q hq => ?_, fun f hf => ?_⟩
        · rw [IsS]
          exact ⟨hlo, hm100, hpl, hall, iss_iff.mpr fun s hs => by obtain ⟨i, hi, rfl⟩ := hmem s hs; exact (I i hi).1⟩
        · rw [qPl] at hq
          rcases List.mem_cons.mp hq with e | e
          · subst e; exact hm
          · obtain ⟨s, hs, hq2⟩ := qpls_mem.mp e
            obtain ⟨i, hi, rfl⟩ := hmem s hs
            exact (I i hi).2.1 q hq2
        · rw [qA_look (hat (f m) (hf m))]
          exact (I (f m) (hf m)).2.2 f hf rfl
theorem qSt_fix (hw : WsOk ws) : ∀ (n : Nat) (t : QT) (lo : Nat), IsS ws oc lo t → (qPl t).length ≤ n → qSt ws n t = t := fun n => by
  induction n with
  | zero => intro t lo _ _; rfl
  | succ n ih =>
    intro t lo h hl
    cases t with
    | tell x => rfl
    | look p ts =>
      have hpl := IsS.pl _ h
      rw [IsS] at h
      obtain ⟨h0, h1, h2, h4, h3⟩ := h
      rw [iss_iff] at h3
      have hmin : qMin (qPl (.look p ts)) = p := by
        refine qMin_eq (by rw [qPl]; exact List.mem_cons_self) fun z hz => ?_
        rw [qPl] at hz
        rcases List.mem_cons.mp hz with e | e
        · omega
        · obtain ⟨t, ht, hq⟩ := qpls_mem.mp e
          have := IsS.pl t (h3 t ht) z hq
          omega
      rw [qSt, hmin]
      have e : ((List.range (wd ws p)).map fun i => qSt ws n (qFx p i (.look p ts))) = ts := by
        refine List.ext_getElem (by rw [List.length_map, List.length_range]; exact h2.symm) fun i hi hi2 => ?_
        rw [List.getElem_map, List.getElem_range, qFx_at (List.getElem?_eq_getElem hi2)]
        have ht := List.getElem_mem hi2
        rw [qFx_same _ fun q => by have := IsS.pl _ (h3 _ ht) _ q; omega]
        refine ih _ _ (h3 _ ht) ?_
        have := qpls_len ht
        rw [qPl, List.length_cons] at hl
        omega
      rw [e]
      unfold joinP
      rw [if_neg h4]
/-- the product of the widths of places -/
def wpr (ws : List Int) : List Nat → Nat
  | [] => 1
  | p :: ps => wd ws p * wpr ws ps
theorem wpr_pos (hw : WsOk ws) : ∀ ps, 1 ≤ wpr ws ps
  | [] => Nat.le_refl _
  | p :: ps => by rw [wpr]; exact Nat.mul_le_mul (hw.wd1 p).1 (wpr_pos hw ps)
theorem wpr_split (hw : WsOk ws) {p : Nat} : ∀ {ps : List Nat}, ps.Pairwise (· < ·) → p ∈ ps → ∃ b : List Nat, b.Pairwise (· < ·) ∧ (∀ q ∈ ps, p < q → q ∈ b) ∧ wd ws p * wpr ws b ≤ wpr ws ps ∧ b.length + 1 ≤ ps.length
  | x :: ps, hs, hp => by
    rw [List.pairwise_cons] at hs
    rcases List.mem_cons.mp hp with e | e
    · subst e
      refine ⟨ps, hs.2, fun q hq hl => ?_, by rw [wpr]; exact Nat.le_refl _, by rw [List.length_cons]; omega⟩
      rcases List.mem_cons.mp hq with e2 | e2
      · omega
      · exact e2
    · obtain ⟨b, h1, h2, h3, h4⟩ := wpr_split hw hs.2 e
      refine ⟨b, h1, fun q hq hl => ?_, ?_, by rw [List.length_cons]; omega⟩
      · rcases List.mem_cons.mp hq with e2 | e2
        · have := hs.1 p e; omega
        · exact h2 q e2 hl
      · rw [wpr]
        have := (hw.wd1 x).1
        exact Nat.le_trans h3 (Nat.le_mul_of_pos_left _ (by omega))
theorem qpls_bound {k : Nat} : ∀ ts : List QT, (∀ t ∈ ts, (qPl t).length + 1 ≤ k) → (qPl.qPls ts).length + ts.length ≤ ts.length * k
  | [], _ => by simp [qPl.qPls]
  | t :: ts, h => by
    rw [qPl.qPls, List.length_append, List.length_cons, Nat.add_mul, Nat.one_mul]
    have h1 := h t List.mem_cons_self
    have h2 := qpls_bound ts fun s hs => h s (List.mem_cons_of_mem _ hs)
    omega
theorem qdeps_bound {k : Nat} : ∀ ts : List QT, (∀ t ∈ ts, qDep t ≤ k) → qDep.qDeps ts ≤ k
  | [], _ => by rw [qDep.qDeps]; omega
  | t :: ts, h => by
    rw [qDep.qDeps]
    have h1 := h t List.mem_cons_self
    have h2 := qdeps_bound ts fun s hs => h s (List.mem_cons_of_mem _ hs)
    omega
/-- a settled term is small -/
theorem IsS.small (hw : WsOk ws) : ∀ (t : QT) {lo : Nat} {ps : List Nat}, IsS ws oc lo t → ps.Pairwise (· < ·) → (∀ q ∈ qPl t, q ∈ ps) → (qPl t).length + 1 ≤ wpr ws ps ∧ qDep t ≤ ps.length := fun t => by
  induction t using QT.ind with
  | h1 x => intro lo ps _ _ _; exact ⟨by rw [qPl]; exact wpr_pos hw ps, by rw [qDep]; omega⟩
  | h2 p ts ih =>
    intro lo ps h hs hm
    rw [IsS] at h
    obtain ⟨h0, h1, h2, h4, h3⟩ := h
    rw [iss_iff] at h3
    obtain ⟨b, b1, b2, b3, b4⟩ := wpr_split hw hs (hm p (by rw [qPl]; exact List.mem_cons_self))
    have hch : ∀ t ∈ ts, (qPl t).length + 1 ≤ wpr ws b ∧ qDep t ≤ b.length := fun t ht => ih t ht (h3 t ht) b1 fun q hq => by
      have hl := IsS.pl t (h3 t ht) q hq
      exact b2 q (hm q (by rw [qPl]; exact List.mem_cons_of_mem _ (qpls_mem.mpr ⟨t, ht, hq⟩))) (by omega)
    have h5 := qpls_bound ts fun t ht => (hch t ht).1
    have h6 := qdeps_bound ts fun t ht => (hch t ht).2
    have h7 : 2 ≤ ts.length := by
      refine Classical.byContradiction fun z => h4 fun q hq => ?_
      match ts, hq with
      | [a], hq => simpa using hq
      | a :: c :: l, _ => exact absurd (by simp) z
    refine ⟨?_, by rw [qDep]; omega⟩
    rw [qPl, List.length_cons]
    rw [← h2] at b3
    omega
end
theorem qpls_take : ∀ (ts : List QT) (k : Nat), (qPl.qPls (ts.take k)).length ≤ (qPl.qPls ts).length
  | [], k => by rw [List.take_nil]; exact Nat.le_refl _
  | t :: ts, 0 => by rw [List.take_zero]; exact Nat.zero_le _
  | t :: ts, k + 1 => by
    rw [List.take_succ_cons, qPl.qPls, qPl.qPls, List.length_append, List.length_append]
    have := qpls_take ts k
    omega
def nI (l : List Nat) : List D := l.map fun (n : Nat) => D.int (n : Int)
theorem nI_len (l : List Nat) : (nI l).length = l.length := by unfold nI; rw [List.length_map]
theorem nI_get {l : List Nat} {i : Nat} {d : D} (h : (nI l)[i]? = some d) : ∃ hi : i < l.length, d = .int ((l[i] : Nat) : Int) := by
  unfold nI at h
  rw [List.getElem?_map] at h
  have hi : i < l.length := by
    refine Classical.byContradiction fun z => ?_
    rw [List.getElem?_eq_none (by omega)] at h
    cases h
  rw [List.getElem?_eq_getElem hi] at h
  cases h
  exact ⟨hi, rfl⟩
theorem nI_ints (l : List Nat) : nI l = (l.map fun (n : Nat) => (n : Int)).map D.int := by unfold nI; rw [List.map_map]; rfl
theorem nI_range (l : List Nat) : ((List.range (nI l).length).map fun j => D.int ((l.getD j 0 : Nat) : Int)) = nI l := by
  refine List.ext_getElem (by rw [List.length_map, List.length_range]) fun i h1 h2 => ?_
  have hi : i < l.length := by rw [nI_len] at h2; exact h2
  have e : (nI l)[i]? = some (D.int ((l[i] : Nat) : Int)) := by unfold nI; rw [List.getElem?_map, List.getElem?_eq_getElem hi]; rfl
  rw [List.getElem_map, List.getElem_range, List.getD_eq_getElem?_getD, List.getElem?_eq_getElem hi]
  rw [List.getElem?_eq_getElem h2] at e
  exact (Option.some.inj e).symm
theorem nI_flat (ts : List QT) : ∀ k, k ≤ ts.length → ((List.range k).flatMap fun i => (List.range (nI (qPl (ts.getD i (.tell 0)))).length).map fun j => D.int (((qPl (ts.getD i (.tell 0))).getD j 0 : Nat) : Int)) = nI (qPl.qPls (ts.take k))
  | 0, _ => by rw [List.range_zero, List.take_zero]; rfl
  | k + 1, h => by
    rw [List.range_succ, List.flatMap_append, nI_flat ts k (by omega), List.take_succ, List.getElem?_eq_getElem (by omega), List.flatMap_cons, List.flatMap_nil, nI_range, qpls_flat, qpls_flat]
    unfold nI
    rw [Option.toList_some, List.flatMap_append, List.flatMap_cons, List.flatMap_nil, List.append_nil, List.append_nil, List.map_append, List.getD_eq_getElem?_getD, List.getElem?_eq_getElem (show k < ts.length by omega)]
    rfl
theorem qDs_at {ts : List QT} {i : Nat} (h : i < ts.length) : (qDs ts).getD i .non = qD ts[i] := by rw [qDs_map, List.getD_eq_getElem?_getD, List.getElem?_map, List.getElem?_eq_getElem h]; rfl
theorem qDs_get {ts : List QT} {i : Nat} {d : D} (h : (qDs ts)[i]? = some d) : ∃ hi : i < ts.length, d = qD ts[i] := by
  rw [qDs_map, List.getElem?_map] at h
  have hi : i < ts.length := by
    refine Classical.byContradiction fun z => ?_
    rw [List.getElem?_eq_none (by omega)] at h
    cases h
  rw [List.getElem?_eq_getElem hi] at h
  cases h
  exact ⟨hi, rfl⟩
section
variable {ws : List Int}
theorem wpr_mono (hw : WsOk ws) : ∀ {ns ps : List Nat}, ns.Pairwise (· < ·) → ps.Pairwise (· < ·) → (∀ q ∈ ns, q ∈ ps) → wpr ws ns ≤ wpr ws ps ∧ ns.length ≤ ps.length
  | [], ps, _, _, _ => ⟨wpr_pos hw ps, Nat.zero_le _⟩
  | n :: ns, ps, h1, h2, h3 => by
    rw [List.pairwise_cons] at h1
    obtain ⟨b, b1, b2, b3, b4⟩ := wpr_split hw h2 (h3 n List.mem_cons_self)
    obtain ⟨c1, c2⟩ := wpr_mono hw h1.2 b1 fun q hq => b2 q (h3 q (List.mem_cons_of_mem _ hq)) (h1.1 q hq)
    rw [wpr, List.length_cons]
    exact ⟨Nat.le_trans (Nat.mul_le_mul_left _ c1) b3, by omega⟩
theorem fold_wpr : ∀ (l : List Nat) (a : Int), (l.map fun (p : Nat) => (wd ws p : Int)).foldl (· * ·) a = a * (wpr ws l : Int)
  | [], a => by rw [wpr]; simp
  | p :: l, a => by
    rw [List.map_cons, List.foldl_cons, fold_wpr l, wpr, Int.natCast_mul, Int.mul_assoc]
theorem prod_wpr (l : List Nat) : prodI (l.map fun (p : Nat) => (wd ws p : Int)) = (wpr ws l : Int) := by
  unfold prodI
  rw [fold_wpr, Int.one_mul]
/-- what of a query keeps it within the limits -/
structure QFit (ws : List Int) (oc : Nat) (ps : List Nat) (t : QT) : Prop where
  w : WsOk ws
  o1 : 1 ≤ oc
  o4 : oc ≤ 4
  ok : QOk ws oc t
  sorted : ps.Pairwise (· < ·)
  most : ps.length ≤ 8
  few : wpr ws ps ≤ 256
  pl : ∀ q ∈ qPl t, q ∈ ps
  looks : (qPl t).length ≤ 300
  dep : qDep t ≤ 20
end
def qO (C : Addr) (t : QT) (ws : List Int) (oc : Nat) : D := .obj C NS_Query [qD t, .tup (ws.map .int), .int (oc : Int)]
/-- the row has options of all places -/
def RFit (ws : List Int) (r : Rw) : Prop := ∀ p, ent r p < (wd ws p : Int)
/-- the options of a row -/
def rF (r : Rw) (p : Nat) : Nat := (ent r p).toNat
theorem rangeQ {α : Type} (f : QT → α) (ts : List QT) : (List.range ts.length).map (fun i => f (ts.getD i (.tell 0))) = ts.map f := by
  refine List.ext_getElem (by rw [List.length_map, List.length_range, List.length_map]) fun i h1 h2 => ?_
  have hi : i < ts.length := by rw [List.length_map] at h2; exact h2
  rw [List.getElem_map, List.getElem_range, List.getElem_map, List.getD_eq_getElem?_getD, List.getElem?_eq_getElem hi]
  rfl
mutual
theorem eqv_q : ∀ s t : QT, PyData.eqv (toPy (qD s)) (toPy (qD t)) = true ↔ s = t
  | .tell a, .tell b => by
    rw [qD, qD]
    simp [toPy, toPys, PyData.eqv, PyData.eqvAll]
    exact ⟨fun h => Int.ofNat.inj h, fun h => by rw [h]⟩
  | .tell a, .look p ts => by
    rw [qD, qD]
    simp only [toPy, toPys, PyData.eqv, PyData.eqvAll, Bool.and_eq_true, reduceCtorEq, iff_false]
    intro h
    exact absurd (by simpa using h.1) (show ¬ (Str.ofString "tell" = Str.ofString "look") by decide)
  | .look p ts, .tell a => by
    rw [qD, qD]
    simp only [toPy, toPys, PyData.eqv, PyData.eqvAll, Bool.and_eq_true, reduceCtorEq, iff_false]
    intro h
    exact absurd (by simpa using h.1) (show ¬ (Str.ofString "look" = Str.ofString "tell") by decide)
  | .look p ts, .look q us => by
    rw [qD, qD]
    simp only [toPy, toPys, PyData.eqv, PyData.eqvAll, Bool.and_eq_true, QT.look.injEq, eqv_qs ts us]
    simp
    exact fun _ => ⟨fun h => Int.ofNat.inj h, fun h => by rw [h]⟩
theorem eqv_qs : ∀ ss ts : List QT, PyData.eqvAll (toPys (qDs ss)) (toPys (qDs ts)) = true ↔ ss = ts
  | [], [] => by simp [qDs, toPys, PyData.eqvAll]
  | [], t :: ts => by simp [qDs, toPys, PyData.eqvAll]
  | s :: ss, [] => by simp [qDs, toPys, PyData.eqvAll]
  | s :: ss, t :: ts => by
    simp only [qDs, toPys, PyData.eqvAll, Bool.and_eq_true, eqv_q s t, eqv_qs ss ts, List.cons.injEq]
end
open Classical in
theorem eqD_qs (ss ts : List QT) : eqD (.tup (qDs ss)) (.tup (qDs ts)) = decide (ss = ts) := by
  unfold eqD
  simp only [toPy, PyData.eqv]
  rw [Bool.eq_iff_iff, eqv_qs, decide_eq_true_eq]
open Classical in
theorem eqD_q (s t : QT) : eqD (qD s) (qD t) = decide (s = t) := by
  unfold eqD
  rw [Bool.eq_iff_iff, eqv_q, decide_eq_true_eq]
mutual
theorem eqOk_q : ∀ t : QT, eqOk (qD t) = true
  | .tell o => by rw [qD]; simp only [eqOk, eqOks, Bool.and_true]; decide +kernel
  | .look p ts => by rw [qD]; simp only [eqOk, eqOks, eqOk_qs ts, Bool.and_true]; decide +kernel
theorem eqOk_qs : ∀ ts : List QT, eqOks (qDs ts) = true
  | [] => rfl
  | t :: ts => by rw [qDs, eqOks, eqOk_q t, eqOk_qs ts]; rfl
end
mutual
theorem dpt_q : ∀ t : QT, dpt (qD t) ≤ qDep t + 1
  | .tell o => by rw [qD, qDep]; simp [dpt, dpts]
  | .look p ts => by rw [qD, qDep]; simp only [dpt, dpts]; have := dpts_q ts; omega
theorem dpts_q : ∀ ts : List QT, dpts (qDs ts) ≤ qDep.qDeps ts + 1
  | [] => by rw [qDs, dpts]; omega
  | t :: ts => by rw [qDs, dpts, qDep.qDeps]; have := dpt_q t; have := dpts_q ts; omega
end
theorem qSt_fuel {ws : List Int} {oc : Nat} (hw : WsOk ws) : ∀ (n n' : Nat) (t : QT), QOk ws oc t → (qPl t).length ≤ n → (qPl t).length ≤ n' → qSt ws n t = qSt ws n' t := fun n => by
  induction n with
  | zero =>
    intro n' t h h1 h2
    cases t with
    | tell x => cases n' <;> rfl
    | look p ts => rw [qPl, List.length_cons] at h1; omega
  | succ n ih =>
    intro n' t h h1 h2
    cases t with
    | tell x => cases n' <;> rfl
    | look p ts =>
      cases n' with
      | zero => rw [qPl, List.length_cons] at h2; omega
      | succ n' =>
        have hm : qMin (qPl (.look p ts)) ∈ qPl (.look p ts) := qMin_mem (by rw [qPl]; simp)
        rw [qSt, qSt]
        congr 1
        refine List.map_congr_left fun i hi => ?_
        have hi := List.mem_range.mp hi
        have hl := qFx_lt hi _ h hm
        exact ih n' _ (qFx_ok hi _ h) (by omega) (by omega)
end LW
set_option Elab.async false
set_option linter.all false
set_option maxRecDepth 100000
set_option maxHeartbeats 4000000
namespace LW
open PySem PySem.Spec L2 DW PyProof.Rows
def topS (i : Nat) : Stmt := PySem.Challenge.pw_choosersrow_k41_settled_queries.main.body.getD i (.Pass ⟨0, 0, 0, 0⟩)
local macro_rules | `(tactic| walk_at "wp") => `(tactic| try simp only [v_rng1, u_rngV, w_rngE, u_cval, w_isiO, u_par, u_iR3, u_makeSD, u_getXN, rngB_len, u_star, u_rev2L, u_callR, u_binXI, u_callX, u_getX, u_restF, u_binX, u_invX, w_neB, u_methXN, u_makeSN, u_tupR1, u_lc2, u_iZM, w_zipLT, w_zipTL, u_cntL, u_lstR1O, u_fld, w_fld, w_someE, u_setF, u_methX, w_objE, u_makeS, u_sortSet, u_lstR1, u_iZipL, u_iEnL, u_idx, u_popAt, u_cntT, u_idxT, u_callF, w_maxL, w_minL, w_ixDc, w_inDc, w_repL, w_listLs, w_tplT, w_tplP, u_isE, w_isE, u_kitER, u_kitET, u_excE, u_xf, w_xf1, u_slS, u_raise1, u_iEn, w_listStr, w_lenStr, w_catStr, w_ixStr, w_inStr, w_strE, w_strI, w_strS, u_rest, cut_to, cut_from1, Int.zero_add, u_revT, w_repT, u_tupG, u_try, u_gPlain, u_gThen, u_gNil, u_yield, u_gWhile, u_while, u_isX, u_kitR, u_kitT, u_excOk, w_zipE, u_goalX, u_lc, rngD_len, Int.toNat_natCast, u_for, u_iT, u_iL, u_iR1, u_iR2, u_iZ, u_iS, w_lstE, dwipe, u_asg, u_asgS, u_ret, u_retN, u_if, u_next, u_break, u_cont, u_drop, u_raise, u_aug, u_var, u_c, u_op, u_un, u_test, u_and, u_or, u_not, u_yes, u_andV, u_orV, u_notV, u_ifE, u_chain, u_nil, u_cons, u_tup, u_lst, u_own, u_cb, u_call, u_callS, u_name, u_etup, u_enil, u_econs, u_sub, u_app, u_slT, u_slL, u_noPart, u_part, u_revL, ex_some, w_I0, w_I, w_uI, w_int, w_bl, w_isi, w_someb, w_eqI, w_neI, w_eqS, w_neS, w_lenT, w_lenL, w_lenS, w_tupL, w_tupT, w_ixT, w_ixL, w_ixS, w_catT, w_catL, w_all, w_any, w_min2, w_divmod, w_listS, w_listL, w_listT, w_isN, w_notN, w_tupE, w_intE, w_consE, w_hdE, w_cellS, w_set, at0, at1, at2, at3, i_tT, i_tI, i_tB, i_tS, i_nT, i_nI, i_nB, i_nS, i_iT, i_iI, i_iB, i_iS, i_bT, i_bI, i_bB, i_bS, i_sT, i_sI, i_sB, i_sS, v_itemsS, w_eqB, isNone, dstart, List.map, List.length, List.replicate, List.cons_append, List.nil_append, List.append_nil, List.getElem?_cons_zero, List.getElem?_cons_succ, List.set_cons_zero, List.set_cons_succ, ix40, ix42, ix43, true_implies, false_implies, and_true, true_and, Bool.not_true, Bool.not_false, decide_eq_true_eq, decide_eq_false_iff_not, List.length_map, Nat.reduceAdd, reduceCtorEq, v_ixH, v_items, v_itemsT, v_itemsL, v_len, v_tuple, v_list, v_listOwn, sset_same, sset_sset, Option.some.injEq, Cell.lst.injEq, Cell.frz.injEq, false_and, exists_false, or_false, false_or, exists_eq_left', ne_eq, not_false_eq_true, isTup, Bool.true_eq_false, Bool.false_eq_true])
local macro_rules | `(tactic| walk_at "wps") => `(tactic| try simp only [u_seq, v_rng1, u_rngV, w_rngE, u_cval, w_isiO, u_par, u_iR3, u_makeSD, u_getXN, rngB_len, u_star, u_rev2L, u_callR, u_binXI, u_callX, u_getX, u_restF, u_binX, u_invX, w_neB, u_methXN, u_makeSN, u_tupR1, u_lc2, u_iZM, w_zipLT, w_zipTL, u_cntL, u_lstR1O, u_fld, w_fld, w_someE, u_setF, u_methX, w_objE, u_makeS, u_sortSet, u_lstR1, u_iZipL, u_iEnL, u_idx, u_popAt, u_cntT, u_idxT, u_callF, w_maxL, w_minL, w_ixDc, w_inDc, w_repL, w_listLs, w_tplT, w_tplP, u_isE, w_isE, u_kitER, u_kitET, u_excE, u_xf, w_xf1, u_slS, u_raise1, u_iEn, w_listStr, w_lenStr, w_catStr, w_ixStr, w_inStr, w_strE, w_strI, w_strS, u_rest, cut_to, cut_from1, Int.zero_add, u_revT, w_repT, u_tupG, u_try, u_gPlain, u_gThen, u_gNil, u_yield, u_gWhile, u_while, u_isX, u_kitR, u_kitT, u_excOk, w_zipE, u_goalX, u_lc, rngD_len, Int.toNat_natCast, u_for, u_iT, u_iL, u_iR1, u_iR2, u_iZ, u_iS, w_lstE, dwipe, u_asg, u_asgS, u_ret, u_retN, u_if, u_next, u_break, u_cont, u_drop, u_raise, u_aug, u_var, u_c, u_op, u_un, u_test, u_and, u_or, u_not, u_yes, u_andV, u_orV, u_notV, u_ifE, u_chain, u_nil, u_cons, u_tup, u_lst, u_own, u_cb, u_call, u_callS, u_name, u_etup, u_enil, u_econs, u_sub, u_app, u_slT, u_slL, u_noPart, u_part, u_revL, ex_some, w_I0, w_I, w_uI, w_int, w_bl, w_isi, w_someb, w_eqI, w_neI, w_eqS, w_neS, w_lenT, w_lenL, w_lenS, w_tupL, w_tupT, w_ixT, w_ixL, w_ixS, w_catT, w_catL, w_all, w_any, w_min2, w_divmod, w_listS, w_listL, w_listT, w_isN, w_notN, w_tupE, w_intE, w_consE, w_hdE, w_cellS, w_set, at0, at1, at2, at3, i_tT, i_tI, i_tB, i_tS, i_nT, i_nI, i_nB, i_nS, i_iT, i_iI, i_iB, i_iS, i_bT, i_bI, i_bB, i_bS, i_sT, i_sI, i_sB, i_sS, v_itemsS, w_eqB, isNone, dstart, List.map, List.length, List.replicate, List.cons_append, List.nil_append, List.append_nil, List.getElem?_cons_zero, List.getElem?_cons_succ, List.set_cons_zero, List.set_cons_succ, ix40, ix42, ix43, true_implies, false_implies, and_true, true_and, Bool.not_true, Bool.not_false, decide_eq_true_eq, decide_eq_false_iff_not, List.length_map, Nat.reduceAdd, reduceCtorEq, v_ixH, v_items, v_itemsT, v_itemsL, v_len, v_tuple, v_list, v_listOwn, sset_same, sset_sset, Option.some.injEq, Cell.lst.injEq, Cell.frz.injEq, false_and, exists_false, or_false, false_or, exists_eq_left', ne_eq, not_false_eq_true, isTup, Bool.true_eq_false, Bool.false_eq_true])
abbrev s_is_number : Stmt := topS 16
abbrev N_is_number : List Str := ["value"]
theorem sc_is_number : FnScope N_is_number ["value"] (defScope s_is_number) := ⟨rfl, rfl, rfl, by decide +kernel, rfl, by decide +kernel, by decide +kernel⟩
abbrev s_is_below : Stmt := topS 17
abbrev N_is_below : List Str := ["value", "limit"]
theorem sc_is_below : FnScope N_is_below ["value", "limit"] (defScope s_is_below) := ⟨rfl, rfl, rfl, by decide +kernel, rfl, by decide +kernel, by decide +kernel⟩
abbrev s_count_choices : Stmt := topS 28
abbrev N_count_choices : List Str := ["widths", "many", "width"]
theorem sc_count_choices : FnScope N_count_choices ["widths"] (defScope s_count_choices) := ⟨rfl, rfl, rfl, by decide +kernel, rfl, by decide +kernel, by decide +kernel⟩
abbrev s_has_outcomes : Stmt := topS 31
abbrev N_has_outcomes : List Str := ["outcomes"]
theorem sc_has_outcomes : FnScope N_has_outcomes ["outcomes"] (defScope s_has_outcomes) := ⟨rfl, rfl, rfl, by decide +kernel, rfl, by decide +kernel, by decide +kernel⟩
abbrev s_width_at : Stmt := topS 38
abbrev N_width_at : List Str := ["widths", "place"]
theorem sc_width_at : FnScope N_width_at ["widths", "place"] (defScope s_width_at) := ⟨rfl, rfl, rfl, by decide +kernel, rfl, by decide +kernel, by decide +kernel⟩
abbrev s_terms_behind : Stmt := topS 39
abbrev N_terms_behind : List Str := ["term"]
theorem sc_terms_behind : FnScope N_terms_behind ["term"] (defScope s_terms_behind) := ⟨rfl, rfl, rfl, by decide +kernel, rfl, by decide +kernel, by decide +kernel⟩
abbrev s_are_widths : Stmt := topS 40
abbrev N_are_widths : List Str := ["widths", "width"]
theorem sc_are_widths : FnScope N_are_widths ["widths"] (defScope s_are_widths) := ⟨rfl, rfl, rfl, by decide +kernel, rfl, by decide +kernel, by decide +kernel⟩
abbrev s_require_form : Stmt := topS 41
abbrev N_require_form : List Str := ["widths", "outcomes"]
theorem sc_require_form : FnScope N_require_form ["widths", "outcomes"] (defScope s_require_form) := ⟨rfl, rfl, rfl, by decide +kernel, rfl, by decide +kernel, by decide +kernel⟩
abbrev s_has_query_form : Stmt := topS 42
abbrev N_has_query_form : List Str := ["term", "widths", "level"]
theorem sc_has_query_form : FnScope N_has_query_form ["term", "widths", "level"] (defScope s_has_query_form) := ⟨rfl, rfl, rfl, by decide +kernel, rfl, by decide +kernel, by decide +kernel⟩
abbrev s_wrong_query : Stmt := topS 43
abbrev N_wrong_query : List Str := ["term", "widths", "outcomes", "level", "index", "below", "path"]
theorem sc_wrong_query : FnScope N_wrong_query ["term", "widths", "outcomes", "level"] (defScope s_wrong_query) := ⟨rfl, rfl, rfl, by decide +kernel, rfl, by decide +kernel, by decide +kernel⟩
abbrev s_places_of : Stmt := topS 44
abbrev N_places_of : List Str := ["term", "below", "place"]
theorem sc_places_of : FnScope N_places_of ["term"] (defScope s_places_of) := ⟨rfl, rfl, rfl, by decide +kernel, rfl, by decide +kernel, by decide +kernel⟩
abbrev s_require_few : Stmt := topS 45
abbrev N_require_few : List Str := ["places", "widths", "place"]
theorem sc_require_few : FnScope N_require_few ["places", "widths"] (defScope s_require_few) := ⟨rfl, rfl, rfl, by decide +kernel, rfl, by decide +kernel, by decide +kernel⟩
abbrev s_followed : Stmt := topS 46
abbrev N_followed : List Str := ["query", "row", "places", "term", "entry"]
theorem sc_followed : FnScope N_followed ["query", "row"] (defScope s_followed) := ⟨rfl, rfl, rfl, by decide +kernel, rfl, by decide +kernel, by decide +kernel⟩
abbrev s_fixed_term : Stmt := topS 47
abbrev N_fixed_term : List Str := ["term", "place", "option", "below"]
theorem sc_fixed_term : FnScope N_fixed_term ["term", "place", "option"] (defScope s_fixed_term) := ⟨rfl, rfl, rfl, by decide +kernel, rfl, by decide +kernel, by decide +kernel⟩
abbrev s_Query___init__ : Stmt := clsS (topS 53) 3
abbrev N_Query___init__ : List Str := ["self", "term", "widths", "outcomes", "path"]
theorem sc_Query___init__ : FnScope N_Query___init__ ["self", "term", "widths", "outcomes"] (defScope s_Query___init__) := ⟨rfl, rfl, rfl, by decide +kernel, rfl, by decide +kernel, by decide +kernel⟩
abbrev s_Query___call__ : Stmt := clsS (topS 53) 4
abbrev N_Query___call__ : List Str := ["self", "row"]
theorem sc_Query___call__ : FnScope N_Query___call__ ["self", "row"] (defScope s_Query___call__) := ⟨rfl, rfl, rfl, by decide +kernel, rfl, by decide +kernel, by decide +kernel⟩
abbrev s_Row___init__ : Stmt := clsS (topS 55) 0
abbrev N_Row___init__ : List Str := ["self", "head", "cycle", "entry"]
theorem sc_Row___init__ : FnScope N_Row___init__ ["self", "head", "cycle"] (defScope s_Row___init__) := ⟨rfl, rfl, rfl, by decide +kernel, rfl, by decide +kernel, by decide +kernel⟩
abbrev s_Row___getitem__ : Stmt := clsS (topS 55) 1
abbrev N_Row___getitem__ : List Str := ["self", "at"]
theorem sc_Row___getitem__ : FnScope N_Row___getitem__ ["self", "at"] (defScope s_Row___getitem__) := ⟨rfl, rfl, rfl, by decide +kernel, rfl, by decide +kernel, by decide +kernel⟩
abbrev s_settled_part : Stmt := topS 58
abbrev N_settled_part : List Str := ["term", "widths", "place", "options", "parts", "option"]
theorem sc_settled_part : FnScope N_settled_part ["term", "widths"] (defScope s_settled_part) := ⟨rfl, rfl, rfl, by decide +kernel, rfl, by decide +kernel, by decide +kernel⟩
abbrev s_settled_term : Stmt := topS 57
abbrev N_settled_term : List Str := ["query"]
theorem sc_settled_term : FnScope N_settled_term ["query"] (defScope s_settled_term) := ⟨rfl, rfl, rfl, by decide +kernel, rfl, by decide +kernel, by decide +kernel⟩
abbrev s_settle_query : Stmt := topS 59
abbrev N_settle_query : List Str := ["query"]
theorem sc_settle_query : FnScope N_settle_query ["query"] (defScope s_settle_query) := ⟨rfl, rfl, rfl, by decide +kernel, rfl, by decide +kernel, by decide +kernel⟩
abbrev s__law_start : Stmt := topS 61
abbrev N__law_start : List Str := ["_law_script", "_law_seed", "_law_k"]
theorem sc__law_start : FnScope N__law_start ["_law_script"] (defScope s__law_start) := ⟨rfl, rfl, rfl, by decide +kernel, rfl, by decide +kernel, by decide +kernel⟩
abbrev s__law_pick : Stmt := topS 62
abbrev N__law_pick : List Str := ["_law_state", "_law_limit", "_law_cell", "_law_mixed", "_law_rest"]
theorem sc__law_pick : FnScope N__law_pick ["_law_state", "_law_limit"] (defScope s__law_pick) := ⟨rfl, rfl, rfl, by decide +kernel, rfl, by decide +kernel, by decide +kernel⟩
abbrev s__law_width : Stmt := topS 63
abbrev N__law_width : List Str := ["_law_widths_here", "_law_place"]
theorem sc__law_width : FnScope N__law_width ["_law_widths_here", "_law_place"] (defScope s__law_width) := ⟨rfl, rfl, rfl, by decide +kernel, rfl, by decide +kernel, by decide +kernel⟩
abbrev s__law_widths : Stmt := topS 64
abbrev N__law_widths : List Str := ["_law_state", "_law_top", "_law_many", "_law_k"]
theorem sc__law_widths : FnScope N__law_widths ["_law_state"] (defScope s__law_widths) := ⟨rfl, rfl, rfl, by decide +kernel, rfl, by decide +kernel, by decide +kernel⟩
abbrev s__law_places : Stmt := topS 65
abbrev N__law_places : List Str := ["_law_state", "_law_widths_here", "_law_count", "_law_most", "_law_places_here", "_law_many", "_law_k", "_law_place"]
theorem sc__law_places : FnScope N__law_places ["_law_state", "_law_widths_here", "_law_count", "_law_most"] (defScope s__law_places) := ⟨rfl, rfl, rfl, by decide +kernel, rfl, by decide +kernel, by decide +kernel⟩
abbrev s__law_term : Stmt := topS 66
abbrev N__law_term : List Str := ["_law_state", "_law_size", "_law_places_here", "_law_levels", "_law_place", "_law_options", "_law_x"]
theorem sc__law_term : FnScope N__law_term ["_law_state", "_law_size", "_law_places_here", "_law_levels"] (defScope s__law_term) := ⟨rfl, rfl, rfl, by decide +kernel, rfl, by decide +kernel, by decide +kernel⟩
abbrev s__law_shuffled : Stmt := topS 67
abbrev N__law_shuffled : List Str := ["_law_state", "_law_places_here", "_law_rest", "_law_k"]
theorem sc__law_shuffled : FnScope N__law_shuffled ["_law_state", "_law_places_here"] (defScope s__law_shuffled) := ⟨rfl, rfl, rfl, by decide +kernel, rfl, by decide +kernel, by decide +kernel⟩
abbrev s__law_tree : Stmt := topS 68
abbrev N__law_tree : List Str := ["_law_state", "_law_size", "_law_order", "_law_marked", "_law_total", "_law_place", "_law_branches", "_law_x", "_law_more"]
theorem sc__law_tree : FnScope N__law_tree ["_law_state", "_law_size", "_law_order", "_law_marked", "_law_total"] (defScope s__law_tree) := ⟨rfl, rfl, rfl, by decide +kernel, rfl, by decide +kernel, by decide +kernel⟩
abbrev s__law_is_number : Stmt := topS 69
abbrev N__law_is_number : List Str := ["_law_item", "_law_limit"]
theorem sc__law_is_number : FnScope N__law_is_number ["_law_item", "_law_limit"] (defScope s__law_is_number) := ⟨rfl, rfl, rfl, by decide +kernel, rfl, by decide +kernel, by decide +kernel⟩
abbrev s__law_is_settled : Stmt := topS 70
abbrev N__law_is_settled : List Str := ["_law_term_here", "_law_size", "_law_least", "_law_branch"]
theorem sc__law_is_settled : FnScope N__law_is_settled ["_law_term_here", "_law_size", "_law_least"] (defScope s__law_is_settled) := ⟨rfl, rfl, rfl, by decide +kernel, rfl, by decide +kernel, by decide +kernel⟩
abbrev s__law_longer : Stmt := topS 71
abbrev N__law_longer : List Str := ["_law_heads_here", "_law_options", "_law_longer_here", "_law_head", "_law_x"]
theorem sc__law_longer : FnScope N__law_longer ["_law_heads_here", "_law_options"] (defScope s__law_longer) := ⟨rfl, rfl, rfl, by decide +kernel, rfl, by decide +kernel, by decide +kernel⟩
abbrev s__law_heads : Stmt := topS 72
abbrev N__law_heads : List Str := ["_law_widths_here", "_law_places_here", "_law_heads_here", "_law_place"]
theorem sc__law_heads : FnScope N__law_heads ["_law_widths_here", "_law_places_here"] (defScope s__law_heads) := ⟨rfl, rfl, rfl, by decide +kernel, rfl, by decide +kernel, by decide +kernel⟩
abbrev s__law_told : Stmt := topS 73
abbrev N__law_told : List Str := ["_law_term_here", "_law_places_here", "_law_head", "_law_k"]
theorem sc__law_told : FnScope N__law_told ["_law_term_here", "_law_places_here", "_law_head"] (defScope s__law_told) := ⟨rfl, rfl, rfl, by decide +kernel, rfl, by decide +kernel, by decide +kernel⟩
abbrev s__law_row : Stmt := topS 74
abbrev N__law_row : List Str := ["_law_state", "_law_widths_here", "_law_many", "_law_head", "_law_p", "_law_j"]
theorem sc__law_row : FnScope N__law_row ["_law_state", "_law_widths_here"] (defScope s__law_row) := ⟨rfl, rfl, rfl, by decide +kernel, rfl, by decide +kernel, by decide +kernel⟩
abbrev s__law_entry : Stmt := topS 75
abbrev N__law_entry : List Str := ["_law_row_here", "_law_place"]
theorem sc__law_entry : FnScope N__law_entry ["_law_row_here", "_law_place"] (defScope s__law_entry) := ⟨rfl, rfl, rfl, by decide +kernel, rfl, by decide +kernel, by decide +kernel⟩
abbrev s__law_answer : Stmt := topS 76
abbrev N__law_answer : List Str := ["_law_query", "_law_row_here", "_law_outcome"]
theorem sc__law_answer : FnScope N__law_answer ["_law_query", "_law_row_here"] (defScope s__law_answer) := ⟨rfl, rfl, rfl, by decide +kernel, rfl, by decide +kernel, by decide +kernel⟩
abbrev s_law : Stmt := topS 77
abbrev N_law : List Str := ["_law_script", "_law_state", "_law_widths_here", "_law_outcomes", "_law_size", "_law_places_here", "_law_how", "_law_marked", "_law_query", "_law_settled", "_law_head", "_law_turn", "_law_wider", "_law_term_here", "_law_row_here", "_law_due", "_law_place"]
theorem sc_law : FnScope N_law ["_law_script"] (defScope s_law) := ⟨rfl, rfl, rfl, by decide +kernel, rfl, by decide +kernel, by decide +kernel⟩
set_option genInjectivity false in
structure Txt (P : Program) (w : World) (K : Fg) (mg : Str → Option Value) where
  f_is_number : Addr
  d_is_number : FuncData
  F_is_number : Fun K "is_number" "is_number" s_is_number f_is_number d_is_number
  g_is_number : mg "is_number" = some (.ref f_is_number)
  b_is_number : Binds K d_is_number ["value"] []
  f_is_below : Addr
  d_is_below : FuncData
  F_is_below : Fun K "is_below" "is_below" s_is_below f_is_below d_is_below
  g_is_below : mg "is_below" = some (.ref f_is_below)
  b_is_below : Binds K d_is_below ["value", "limit"] []
  f_count_choices : Addr
  d_count_choices : FuncData
  F_count_choices : Fun K "count_choices" "count_choices" s_count_choices f_count_choices d_count_choices
  g_count_choices : mg "count_choices" = some (.ref f_count_choices)
  b_count_choices : Binds K d_count_choices ["widths"] []
  f_has_outcomes : Addr
  d_has_outcomes : FuncData
  F_has_outcomes : Fun K "has_outcomes" "has_outcomes" s_has_outcomes f_has_outcomes d_has_outcomes
  g_has_outcomes : mg "has_outcomes" = some (.ref f_has_outcomes)
  b_has_outcomes : Binds K d_has_outcomes ["outcomes"] []
  f_width_at : Addr
  d_width_at : FuncData
  F_width_at : Fun K "width_at" "width_at" s_width_at f_width_at d_width_at
  g_width_at : mg "width_at" = some (.ref f_width_at)
  b_width_at : Binds K d_width_at ["widths", "place"] []
  f_terms_behind : Addr
  d_terms_behind : FuncData
  F_terms_behind : Fun K "terms_behind" "terms_behind" s_terms_behind f_terms_behind d_terms_behind
  g_terms_behind : mg "terms_behind" = some (.ref f_terms_behind)
  b_terms_behind : Binds K d_terms_behind ["term"] []
  f_are_widths : Addr
  d_are_widths : FuncData
  F_are_widths : Fun K "are_widths" "are_widths" s_are_widths f_are_widths d_are_widths
  g_are_widths : mg "are_widths" = some (.ref f_are_widths)
  b_are_widths : Binds K d_are_widths ["widths"] []
  f_require_form : Addr
  d_require_form : FuncData
  F_require_form : Fun K "require_form" "require_form" s_require_form f_require_form d_require_form
  g_require_form : mg "require_form" = some (.ref f_require_form)
  b_require_form : Binds K d_require_form ["widths", "outcomes"] []
  f_has_query_form : Addr
  d_has_query_form : FuncData
  F_has_query_form : Fun K "has_query_form" "has_query_form" s_has_query_form f_has_query_form d_has_query_form
  g_has_query_form : mg "has_query_form" = some (.ref f_has_query_form)
  b_has_query_form : Binds K d_has_query_form ["term", "widths", "level"] []
  f_wrong_query : Addr
  d_wrong_query : FuncData
  F_wrong_query : Fun K "wrong_query" "wrong_query" s_wrong_query f_wrong_query d_wrong_query
  g_wrong_query : mg "wrong_query" = some (.ref f_wrong_query)
  b_wrong_query : Binds K d_wrong_query ["term", "widths", "outcomes", "level"] []
  f_places_of : Addr
  d_places_of : FuncData
  F_places_of : Fun K "places_of" "places_of" s_places_of f_places_of d_places_of
  g_places_of : mg "places_of" = some (.ref f_places_of)
  b_places_of : Binds K d_places_of ["term"] []
  f_require_few : Addr
  d_require_few : FuncData
  F_require_few : Fun K "require_few" "require_few" s_require_few f_require_few d_require_few
  g_require_few : mg "require_few" = some (.ref f_require_few)
  b_require_few : Binds K d_require_few ["places", "widths"] []
  f_followed : Addr
  d_followed : FuncData
  F_followed : Fun K "followed" "followed" s_followed f_followed d_followed
  g_followed : mg "followed" = some (.ref f_followed)
  b_followed : Binds K d_followed ["query", "row"] []
  f_fixed_term : Addr
  d_fixed_term : FuncData
  F_fixed_term : Fun K "fixed_term" "fixed_term" s_fixed_term f_fixed_term d_fixed_term
  g_fixed_term : mg "fixed_term" = some (.ref f_fixed_term)
  b_fixed_term : Binds K d_fixed_term ["term", "place", "option"] []
  f_Query___init__ : Addr
  d_Query___init__ : FuncData
  F_Query___init__ : Fun K "__init__" "Query.__init__" s_Query___init__ f_Query___init__ d_Query___init__
  b_Query___init__ : Binds K d_Query___init__ ["self", "term", "widths", "outcomes"] []
  f_Query___call__ : Addr
  d_Query___call__ : FuncData
  F_Query___call__ : Fun K "__call__" "Query.__call__" s_Query___call__ f_Query___call__ d_Query___call__
  b_Query___call__ : Binds K d_Query___call__ ["self", "row"] []
  a_Row___init__ : Addr
  q_Row___init__ : SqTw K a_Row___init__ (([0] : List Int).map V.int)
  f_Row___init__ : Addr
  d_Row___init__ : FuncData
  F_Row___init__ : FunD K "__init__" "Row.__init__" (defArgs s_Row___init__) (defBody s_Row___init__) (defScope s_Row___init__) [V.ref a_Row___init__] [] f_Row___init__ d_Row___init__
  b_Row___init__ : Binds K d_Row___init__ ["self", "head", "cycle"] []
  bd_Row___init__ : ∃ us, Vals [V.ref a_Row___init__] us ∧ Binds K d_Row___init__ ["self", "head", "cycle"] us
  f_Row___getitem__ : Addr
  d_Row___getitem__ : FuncData
  F_Row___getitem__ : Fun K "__getitem__" "Row.__getitem__" s_Row___getitem__ f_Row___getitem__ d_Row___getitem__
  b_Row___getitem__ : Binds K d_Row___getitem__ ["self", "at"] []
  f_settled_part : Addr
  d_settled_part : FuncData
  F_settled_part : Fun K "settled_part" "settled_part" s_settled_part f_settled_part d_settled_part
  g_settled_part : mg "settled_part" = some (.ref f_settled_part)
  b_settled_part : Binds K d_settled_part ["term", "widths"] []
  f_settled_term : Addr
  d_settled_term : FuncData
  F_settled_term : Fun K "settled_term" "settled_term" s_settled_term f_settled_term d_settled_term
  g_settled_term : mg "settled_term" = some (.ref f_settled_term)
  b_settled_term : Binds K d_settled_term ["query"] []
  f_settle_query : Addr
  d_settle_query : FuncData
  F_settle_query : Fun K "settle_query" "settle_query" s_settle_query f_settle_query d_settle_query
  g_settle_query : mg "settle_query" = some (.ref f_settle_query)
  b_settle_query : Binds K d_settle_query ["query"] []
  f__law_start : Addr
  d__law_start : FuncData
  F__law_start : Fun K "_law_start" "_law_start" s__law_start f__law_start d__law_start
  g__law_start : mg "_law_start" = some (.ref f__law_start)
  b__law_start : Binds K d__law_start ["_law_script"] []
  f__law_pick : Addr
  d__law_pick : FuncData
  F__law_pick : Fun K "_law_pick" "_law_pick" s__law_pick f__law_pick d__law_pick
  g__law_pick : mg "_law_pick" = some (.ref f__law_pick)
  b__law_pick : Binds K d__law_pick ["_law_state", "_law_limit"] []
  f__law_width : Addr
  d__law_width : FuncData
  F__law_width : Fun K "_law_width" "_law_width" s__law_width f__law_width d__law_width
  g__law_width : mg "_law_width" = some (.ref f__law_width)
  b__law_width : Binds K d__law_width ["_law_widths_here", "_law_place"] []
  f__law_widths : Addr
  d__law_widths : FuncData
  F__law_widths : Fun K "_law_widths" "_law_widths" s__law_widths f__law_widths d__law_widths
  g__law_widths : mg "_law_widths" = some (.ref f__law_widths)
  b__law_widths : Binds K d__law_widths ["_law_state"] []
  f__law_places : Addr
  d__law_places : FuncData
  F__law_places : Fun K "_law_places" "_law_places" s__law_places f__law_places d__law_places
  g__law_places : mg "_law_places" = some (.ref f__law_places)
  b__law_places : Binds K d__law_places ["_law_state", "_law_widths_here", "_law_count", "_law_most"] []
  f__law_term : Addr
  d__law_term : FuncData
  F__law_term : Fun K "_law_term" "_law_term" s__law_term f__law_term d__law_term
  g__law_term : mg "_law_term" = some (.ref f__law_term)
  b__law_term : Binds K d__law_term ["_law_state", "_law_size", "_law_places_here", "_law_levels"] []
  f__law_shuffled : Addr
  d__law_shuffled : FuncData
  F__law_shuffled : Fun K "_law_shuffled" "_law_shuffled" s__law_shuffled f__law_shuffled d__law_shuffled
  g__law_shuffled : mg "_law_shuffled" = some (.ref f__law_shuffled)
  b__law_shuffled : Binds K d__law_shuffled ["_law_state", "_law_places_here"] []
  f__law_tree : Addr
  d__law_tree : FuncData
  F__law_tree : Fun K "_law_tree" "_law_tree" s__law_tree f__law_tree d__law_tree
  g__law_tree : mg "_law_tree" = some (.ref f__law_tree)
  b__law_tree : Binds K d__law_tree ["_law_state", "_law_size", "_law_order", "_law_marked", "_law_total"] []
  f__law_is_number : Addr
  d__law_is_number : FuncData
  F__law_is_number : Fun K "_law_is_number" "_law_is_number" s__law_is_number f__law_is_number d__law_is_number
  g__law_is_number : mg "_law_is_number" = some (.ref f__law_is_number)
  b__law_is_number : Binds K d__law_is_number ["_law_item", "_law_limit"] []
  f__law_is_settled : Addr
  d__law_is_settled : FuncData
  F__law_is_settled : Fun K "_law_is_settled" "_law_is_settled" s__law_is_settled f__law_is_settled d__law_is_settled
  g__law_is_settled : mg "_law_is_settled" = some (.ref f__law_is_settled)
  b__law_is_settled : Binds K d__law_is_settled ["_law_term_here", "_law_size", "_law_least"] []
  f__law_longer : Addr
  d__law_longer : FuncData
  F__law_longer : Fun K "_law_longer" "_law_longer" s__law_longer f__law_longer d__law_longer
  g__law_longer : mg "_law_longer" = some (.ref f__law_longer)
  b__law_longer : Binds K d__law_longer ["_law_heads_here", "_law_options"] []
  f__law_heads : Addr
  d__law_heads : FuncData
  F__law_heads : Fun K "_law_heads" "_law_heads" s__law_heads f__law_heads d__law_heads
  g__law_heads : mg "_law_heads" = some (.ref f__law_heads)
  b__law_heads : Binds K d__law_heads ["_law_widths_here", "_law_places_here"] []
  f__law_told : Addr
  d__law_told : FuncData
  F__law_told : Fun K "_law_told" "_law_told" s__law_told f__law_told d__law_told
  g__law_told : mg "_law_told" = some (.ref f__law_told)
  b__law_told : Binds K d__law_told ["_law_term_here", "_law_places_here", "_law_head"] []
  f__law_row : Addr
  d__law_row : FuncData
  F__law_row : Fun K "_law_row" "_law_row" s__law_row f__law_row d__law_row
  g__law_row : mg "_law_row" = some (.ref f__law_row)
  b__law_row : Binds K d__law_row ["_law_state", "_law_widths_here"] []
  f__law_entry : Addr
  d__law_entry : FuncData
  F__law_entry : Fun K "_law_entry" "_law_entry" s__law_entry f__law_entry d__law_entry
  g__law_entry : mg "_law_entry" = some (.ref f__law_entry)
  b__law_entry : Binds K d__law_entry ["_law_row_here", "_law_place"] []
  f__law_answer : Addr
  d__law_answer : FuncData
  F__law_answer : Fun K "_law_answer" "_law_answer" s__law_answer f__law_answer d__law_answer
  g__law_answer : mg "_law_answer" = some (.ref f__law_answer)
  b__law_answer : Binds K d__law_answer ["_law_query", "_law_row_here"] []
  f_law : Addr
  d_law : FuncData
  F_law : Fun K "law" "law" s_law f_law d_law
  g_law : mg "law" = some (.ref f_law)
  b_law : Binds K d_law ["_law_script"] []
  z_isinstance : mg "isinstance" = none
  z_int : mg "int" = none
  z_bool : mg "bool" = none
  z_all : mg "all" = none
  z_str : mg "str" = none
  z_len : mg "len" = none
  z_enumerate : mg "enumerate" = none
  z_tuple : mg "tuple" = none
  z_sorted : mg "sorted" = none
  z_set : mg "set" = none
  z_min : mg "min" = none
  z_range : mg "range" = none
  z_list : mg "list" = none
  g_LETTERS : ∃ t, mg "LETTERS" = some (.str "abcdefghijklmnopqrstuvwxyz" t)
  g_DIGITS : ∃ t, mg "DIGITS" = some (.str "0123456789" t)
  g_LONGEST_WORD : ∃ t, mg "LONGEST_WORD" = some (.int 12 t)
  g_LONGEST_NUMBER : ∃ t, mg "LONGEST_NUMBER" = some (.int 9 t)
  g_NUMBERS_END : ∃ t, mg "NUMBERS_END" = some (.int 1000000000 t)
  g_DEEPEST_TUPLE : ∃ t, mg "DEEPEST_TUPLE" = some (.int 30 t)
  g_MOST_OUTCOMES : ∃ t, mg "MOST_OUTCOMES" = some (.int 4 t)
  g_MOST_WIDTHS : ∃ t, mg "MOST_WIDTHS" = some (.int 6 t)
  g_WIDEST : ∃ t, mg "WIDEST" = some (.int 4 t)
  g_PLACES : ∃ t, mg "PLACES" = some (.int 100 t)
  g_ITEMS_BEFORE : ∃ t, mg "ITEMS_BEFORE" = some (.int 2 t)
  g_TWO_OUTCOMES : ∃ t, mg "TWO_OUTCOMES" = some (.int 2 t)
  c_OutOfRange : Addr
  g_OutOfRange : mg "OutOfRange" = some (.ref c_OutOfRange)
  c_TooLarge : Addr
  g_TooLarge : mg "TooLarge" = some (.ref c_TooLarge)
  c_InvalidQuery : Addr
  g_InvalidQuery : mg "InvalidQuery" = some (.ref c_InvalidQuery)
  fi_InvalidQuery : Addr
  di_InvalidQuery : FuncData
  ox_InvalidQuery : OexC K c_InvalidQuery
  ic_InvalidQuery : PySem.W.findIn K (.ref c_InvalidQuery) "__init__" = some (some (.ref fi_InvalidQuery))
  ti_InvalidQuery : PySem.W.typeIn K (.ref fi_InvalidQuery) = some (.type "function")
  no_InvalidQuery : PySem.W.findIn K (.ref c_InvalidQuery) "path" = some none
  xf_InvalidQuery : XfC K c_InvalidQuery
  ec_InvalidQuery : L2.ExcC K c_InvalidQuery
  in_InvalidQuery : ∀ {w : World} {base : Heap} {cx : CXT}, FnOk P w K mg base cx 1 fi_InvalidQuery di_InvalidQuery ["self", "path"] (spInit K c_InvalidQuery "path" (okPath K))
  bi_InvalidQuery : Binds K di_InvalidQuery ["self", "path"] []
  x_OutOfRange : PySem.W.excIn K c_OutOfRange [.type "ValueError", .type "Exception", .type "BaseException", .type "object"] "ValueError.__new__" = true
  k_OutOfRange : PySem.W.keepIn K (.ref c_OutOfRange) = true
  e_OutOfRange : PySem.W.subIn K (.ref c_OutOfRange) (.type "BaseException") = some true
  t_OutOfRange : PySem.W.typeIn K (.ref c_OutOfRange) = some (.type "type")
  ec_OutOfRange : L2.ExcC K c_OutOfRange
  x_TooLarge : PySem.W.excIn K c_TooLarge [.type "ValueError", .type "Exception", .type "BaseException", .type "object"] "ValueError.__new__" = true
  k_TooLarge : PySem.W.keepIn K (.ref c_TooLarge) = true
  e_TooLarge : PySem.W.subIn K (.ref c_TooLarge) (.type "BaseException") = some true
  t_TooLarge : PySem.W.typeIn K (.ref c_TooLarge) = some (.type "type")
  ec_TooLarge : L2.ExcC K c_TooLarge
  c_Query : Addr
  g_Query : mg "Query" = some (.ref c_Query)
  mk_Query : Mk K c_Query f_Query___init__
  cls_Query : Cls K c_Query
  fn_Query___call__ : PySem.W.fnIn K f_Query___call__ = true
  na_Query_term : NoAttr K c_Query "term"
  na_Query_widths : NoAttr K c_Query "widths"
  na_Query_outcomes : NoAttr K c_Query "outcomes"
  mc_Query : Value
  rd_Query : ClX.CRead K c_Query mc_Query
  cv_Query_MOST_LEVELS : ∃ t, ClX.CVal K c_Query mc_Query "MOST_LEVELS" (.int 20) (.int 20 t)
  cv_Query_MOST_LOOKS : ∃ t, ClX.CVal K c_Query mc_Query "MOST_LOOKS" (.int 300) (.int 300 t)
  cv_Query_MOST_CHOICES : ∃ t, ClX.CVal K c_Query mc_Query "MOST_CHOICES" (.int 256) (.int 256 t)
  me_Query___call__ : Meth K c_Query "__call__" f_Query___call__
  c_Row : Addr
  g_Row : mg "Row" = some (.ref c_Row)
  mk_Row : Mk K c_Row f_Row___init__
  cls_Row : Cls K c_Row
  fn_Row___getitem__ : PySem.W.fnIn K f_Row___getitem__ = true
  na_Row_head : NoAttr K c_Row "head"
  na_Row_cycle : NoAttr K c_Row "cycle"
  me_Row___getitem__ : Meth K c_Row "__getitem__" f_Row___getitem__
section
variable {P : Program} {w : World} {K : Fg} {mg : Str → Option Value} {base : Heap}
def c_is_number : Con := fun ds μ Φ _ => ∃ i, ds = [.int i] ∧ Φ (.bl true) μ
theorem len_is_number {ds μ Φ Ψ} (h : c_is_number ds μ Φ Ψ) : ds.length = 1 := by obtain ⟨i, rfl, _⟩ := h; rfl
theorem w_is_number {i μ Φ Ψ} : c_is_number [.int i] μ Φ Ψ = Φ (.bl true) μ := propext ⟨fun ⟨j, e, q⟩ => q, fun q => ⟨i, rfl, q⟩⟩
theorem ok_is_number {cx : CXT} (T : Txt P w K mg) : FnOk P w K mg base cx 1 T.f_is_number T.d_is_number ["value"] (spOf K c_is_number) := by
  refine def_okC T.F_is_number sc_is_number _ (fun ds μ Φ Ψ h => len_is_number h) (fun cdv A outer s H E B hW hr =>
    ⟨_, (pss_one (ps_ret (pe_and (pe_callB call_isi (by rfl) T.z_isinstance (by decide +kernel) (pa_cons (pv 0) (pa_cons (pe_bltn (v := .ty "int") rfl T.z_int (by decide +kernel) rfl) pa_nil))) (pe_one (pe_not (pe_callB call_isi (by rfl) T.z_isinstance (by decide +kernel) (pa_cons (pv 0) (pa_cons (pe_bltn (v := .ty "bool") rfl T.z_bool (by decide +kernel) rfl) pa_nil)))))))),
      (sRet (sAndV (sCB (rcIsi (T := "int")) (sCons sVar (sCons sHd sNil))) (sNotV (sCB (rcIsi (T := "bool")) (sCons sVar (sCons sHd sNil))))))⟩) (fun ds μ Φ Ψ h => ?hv)
  case hv =>
    obtain ⟨i, rfl, h⟩ := h
    walk_at "wps"
    exact ret_same h
def c_is_below : Con := fun ds μ Φ _ => ∃ i m, ds = [.int i, .int m] ∧ Φ (.bl (decide (0 ≤ i ∧ i < m))) μ
theorem len_is_below {ds μ Φ Ψ} (h : c_is_below ds μ Φ Ψ) : ds.length = 2 := by obtain ⟨i, m, rfl, _⟩ := h; rfl
theorem w_is_below {i m μ Φ Ψ} : c_is_below [.int i, .int m] μ Φ Ψ = Φ (.bl (decide (0 ≤ i ∧ i < m))) μ := propext ⟨fun ⟨a, b, e, q⟩ => by cases e; exact q, fun q => ⟨i, m, rfl, q⟩⟩
theorem ok_is_below (T : Txt P w K mg) : FnOk P w K mg base (L2N.CX P w) 2 T.f_is_below T.d_is_below ["value", "limit"] (spOf K c_is_below) := by
  refine def_okC T.F_is_below sc_is_below _ (fun ds μ Φ Ψ h => len_is_below h) (fun cdv A outer s H E B hW hr =>
    have tk : L2N.Takes (cxOf (L2N.CX P w) P w K mg base N_is_below "is_below" (defScope s_is_below) T.f_is_below cdv A outer s H E) (fun cls d _ H => E cls d H) := L2N.takes_of rfl rfl rfl rfl
    ⟨_, (pss_one (ps_ret (pe_and (pe_call (ok_is_number T) hr rfl T.g_is_number T.F_is_number.kp T.b_is_number .nil passN (pa_cons (pv 0) pa_nil)) (pe_one (pe_chain op_le op_lt pe_int (pv 0) (pv 1)))))),
      (sRet (sAndV (sCall (sCons sVar sNil)) (sChain roBl0 roBl0 sInt sVar sVar)))⟩) (fun ds μ Φ Ψ h => ?hv)
  case hv =>
    obtain ⟨i, m, rfl, h⟩ := h
    walk_at "wps"
    simp only [w_is_number]
    walk_at "wps"
    refine ⟨fun h1 => ret_same ?_, fun h1 => ret_same ?_⟩
    · simpa [h1] using h
    · simpa [h1] using h
def c_count_choices : Con := fun ds μ Φ _ => ∃ ws : List Int, ds = [.lst (ws.map .int)] ∧ (∀ i z, ws[i]? = some z → CMulX (prodI (ws.take i)) z) ∧ Φ (.int (prodI ws)) μ
theorem len_count_choices {ds μ Φ Ψ} (h : c_count_choices ds μ Φ Ψ) : ds.length = 1 := by obtain ⟨i, rfl, _⟩ := h; rfl
theorem ok_count_choices {cx : CXT} (T : Txt P w K mg) : FnOk P w K mg base cx 1 T.f_count_choices T.d_count_choices ["widths"] (spOf K c_count_choices) := by
  refine def_okC T.F_count_choices sc_count_choices _ (fun ds μ Φ Ψ h => len_count_choices h) (fun cdv A outer s H E B hW hr =>
    ⟨_, (pss_cons (ps_set (i := 1) sc_count_choices.nd rfl (Or.inl rfl) pe_int)
      (pss_cons (ps_for (passes_of rfl) rfl (pi_list (pv 0)) (pg_name (i := 2) sc_count_choices.nd rfl (Or.inl rfl)) (pss_one (ps_set (i := 1) sc_count_choices.nd rfl (Or.inl rfl) (pe_op op_mulX (pv 1) (pv 2)))))
      (pss_one (ps_ret (pv 1))))),
      (sSeq (sAsg sInt sName)
      (sSeq (sFor (siL sVar) (fun _ _ _ => sName) (fun _ _ _ => (sAsg (sOp roInt sVar sVar) sName)))
      (sRet sVar)))⟩) (fun ds μ Φ Ψ h => ?hv)
  case hv =>
    obtain ⟨ws, rfl, hc, h⟩ := h
    walk_at "wps"
    refine ⟨fun i δ' μ' => μ' = μ ∧ ∃ x, δ' = [some (.lst (ws.map .int)), some (.int (prodI (ws.take i))), x], ⟨rfl, none, rfl⟩, ?_, ?_⟩
    · rintro i d δ' μ' hi ⟨rfl, x, rfl⟩
      obtain ⟨z, hz, rfl⟩ := mapI_get hi
      walk_at "wps"
      exact ⟨hc i z hz, _, by rw [prod_snoc hz]⟩
    · rintro δ' μ' ⟨rfl, x, rfl⟩
      rw [List.take_length]
      walk_at "wps"
      exact ret_same h
def c_has_outcomes : Con := fun ds μ Φ _ => ∃ i : Int, ds = [.int i] ∧ Φ (.bl (decide (1 ≤ i ∧ i ≤ 4))) μ
theorem len_has_outcomes {ds μ Φ Ψ} (h : c_has_outcomes ds μ Φ Ψ) : ds.length = 1 := by obtain ⟨i, rfl, _⟩ := h; rfl
theorem w_has_outcomes {i μ Φ Ψ} : c_has_outcomes [.int i] μ Φ Ψ = Φ (.bl (decide (1 ≤ i ∧ i ≤ 4))) μ := propext ⟨fun ⟨a, e, q⟩ => by cases e; exact q, fun q => ⟨i, rfl, q⟩⟩
theorem ok_has_outcomes {cx : CXT} (T : Txt P w K mg) : FnOk P w K mg base cx 1 T.f_has_outcomes T.d_has_outcomes ["outcomes"] (spOf K c_has_outcomes) := by
  refine def_okC T.F_has_outcomes sc_has_outcomes _ (fun ds μ Φ Ψ h => len_has_outcomes h) (fun cdv A outer s H E B hW hr =>
    ⟨_, (pss_one (ps_ret (pe_chain op_le op_le pe_int (pv 0) (pe_glob (v := .int 4) rfl T.g_MOST_OUTCOMES.choose_spec ⟨_, rfl⟩)))),
      (sRet (sChain roBl0 roBl0 sInt sVar sInt))⟩) (fun ds μ Φ Ψ h => ?hv)
  case hv =>
    obtain ⟨i, rfl, h⟩ := h
    walk_at "wps"
    refine ⟨fun h1 => ret_same ?_, fun h1 => ret_same ?_⟩
    · simpa [h1] using h
    · simpa [h1] using h
def c_width_at : Con := fun ds μ Φ _ => ∃ (ws : List Int) (p : Nat), ds = [.tup (ws.map .int), .int (p : Int)] ∧ WsOk ws ∧ Φ (.int (wd ws p : Int)) μ
theorem len_width_at {ds μ Φ Ψ} (h : c_width_at ds μ Φ Ψ) : ds.length = 2 := by obtain ⟨i, _, rfl, _⟩ := h; rfl
theorem ok_width_at {cx : CXT} (T : Txt P w K mg) : FnOk P w K mg base cx 1 T.f_width_at T.d_width_at ["widths", "place"] (spOf K c_width_at) := by
  refine def_okC T.F_width_at sc_width_at _ (fun ds μ Φ Ψ h => len_width_at h) (fun cdv A outer s H E B hW hr =>
    ⟨_, (pss_one (ps_ret (pe_ix ix_tup (pv 0) (pe_op op_mod (pv 1) (pe_callB call_len_seq (by rfl) T.z_len PySem.boot_len (pa_cons (pv 0) pa_nil))) (fun _ _ => rfl)))),
      (sRet (sOp roIxT sVar (sOp roInt sVar (sCB rcLen (sCons sVar sNil)))))⟩) (fun ds μ Φ Ψ h => ?hv)
  case hv =>
    obtain ⟨ws, p, rfl, hw, h⟩ := h
    have h0 := hw.l0
    obtain ⟨x, hx, e, x1, x2⟩ := hw.at_ p
    walk_at "wps"
    have em : (p : Int) % (ws.length : Int) = ((p % ws.length : Nat) : Int) := rfl
    rw [em]
    refine ⟨by omega, _, atI_nat (v := .int x) (by rw [List.getElem?_map, hx]; rfl), ret_same ?_⟩
    rw [e]; exact h
def c_terms_behind : Con := fun ds μ Φ _ => ∃ xs : List D, ds = [.tup xs] ∧ Φ (.tup (xs.drop 2)) μ
theorem len_terms_behind {ds μ Φ Ψ} (h : c_terms_behind ds μ Φ Ψ) : ds.length = 1 := by obtain ⟨i, rfl, _⟩ := h; rfl
theorem ok_terms_behind {cx : CXT} (T : Txt P w K mg) : FnOk P w K mg base cx 1 T.f_terms_behind T.d_terms_behind ["term"] (spOf K c_terms_behind) := by
  refine def_okC T.F_terms_behind sc_terms_behind _ (fun ds μ Φ Ψ h => len_terms_behind h) (fun cdv A outer s H E B hW hr =>
    ⟨_, (pss_one (ps_ret (pe_slice sl_tupN (pv 0) (po_some (pe_glob (v := .int 2) rfl T.g_ITEMS_BEFORE.choose_spec ⟨_, rfl⟩)) po_none))),
      (sRet (sSlT sVar (sPart sInt) sNoPart))⟩) (fun ds μ Φ Ψ h => ?hv)
  case hv =>
    obtain ⟨xs, rfl, h⟩ := h
    walk_at "wps"
    rw [show (2 : Int) = ((2 : Nat) : Int) from rfl, cut_from]
    exact ret_same h
def c_are_widths : Con := fun ds μ Φ _ => ∃ ws : List Int, ds = [.tup (ws.map .int)] ∧ WsOk ws ∧ Φ (.bl true) μ
theorem len_are_widths {ds μ Φ Ψ} (h : c_are_widths ds μ Φ Ψ) : ds.length = 1 := by obtain ⟨i, rfl, _⟩ := h; rfl
theorem ok_are_widths (T : Txt P w K mg) : FnOk P w K mg base (L2N.CX P w) 2 T.f_are_widths T.d_are_widths ["widths"] (spOf K c_are_widths) := by
  refine def_okC T.F_are_widths sc_are_widths _ (fun ds μ Φ Ψ h => len_are_widths h) (fun cdv A outer s H E B hW hr =>
    have tk : L2N.Takes (cxOf (L2N.CX P w) P w K mg base N_are_widths "are_widths" (defScope s_are_widths) T.f_are_widths cdv A outer s H E) (fun cls d _ H => E cls d H) := L2N.takes_of rfl rfl rfl rfl
    ⟨_, (pss_cons (ps_if (PW.pt (pw_or (pt_not (pt_val (pe_callB call_isi (by rfl) T.z_isinstance (by decide +kernel) (pa_cons (pv 0) (pa_cons (pe_bltn (v := .ty "tuple") rfl T.z_tuple (by decide +kernel) rfl) pa_nil))))) (pw_or1 (pt_not (pt_chain op_le op_le pe_int (pe_callB call_len_seq (by rfl) T.z_len PySem.boot_len (pa_cons (pv 0) pa_nil)) (pe_glob (v := .int 6) rfl T.g_MOST_WIDTHS.choose_spec ⟨_, rfl⟩)))))) (pss_one (ps_ret pe_bl)) pss_nil)
      (pss_one (ps_ret (pe_callB (cr_all rfl) (by rfl) T.z_all (by decide +kernel) (pa_cons (pe_lc (own := [("width", 1)]) rfl sc_are_widths.nd (pi_tup (pv 0)) (blkOk_by (N := N_are_widths) (sc := defScope s_are_widths) (by decide +kernel)) (fun _ _ _ _ _ => (pg_name (i := 1) sc_are_widths.nd rfl (Or.inl rfl))) (fun _ _ _ _ _ => pts_nil) (fun _ _ _ _ _ => (pe_and (pe_call (ok_is_number T) hr rfl T.g_is_number T.F_is_number.kp T.b_is_number .nil passN (pa_cons (pv 1) pa_nil)) (pe_one (pe_chain op_le op_le pe_int (pv 1) (pe_glob (v := .int 4) rfl T.g_WIDEST.choose_spec ⟨_, rfl⟩)))))) pa_nil))))),
      (sSeq (sIfS (sOr (sNot (sB (sCB (rcIsi (T := "tuple")) (sCons sVar (sCons sHd sNil))))) (sNot (sTest (sChain roBl0 roBl0 sInt (sCB rcLen (sCons sVar sNil)) sInt)))) (sRet sBl) sNext)
      (sRet (sCB rcAll (sCons (sLc (siT sVar) (gwName List.mem_cons_self) (fun _ _ _ => sName) (fun _ _ _ => sYes) (fun _ _ _ => (sAndV (sCall (sCons sVar sNil)) (sChain roBl0 roBl0 sInt sVar sInt)))) sNil))))⟩) (fun ds μ Φ Ψ h => ?hv)
  case hv =>
    obtain ⟨ws, rfl, hw, h⟩ := h
    have h0 := hw.l0
    have h1 := hw.l1
    walk_at "wps"
    refine ⟨fun _ => ⟨fun q => ?_, fun _ => ?_⟩, fun q => absurd q (by omega)⟩
    · rw [decide_eq_true (by omega)] at q; cases q
    · refine lcZ (fun x => .bl (decide (1 ≤ x ∧ x ≤ 4))) (by omega) (fun x μ2 X hx hsub hk => ?_) ?_
      · have := hw.w x hx
        walk_at "wps"
        simp only [w_is_number]
        walk_at "wps"
        refine ⟨fun c1 => ?_, fun c1 => absurd this.1 c1⟩
        simpa [c1] using hk
      · have e : ws.map (fun x => D.bl (decide (1 ≤ x ∧ x ≤ 4))) = (ws.map fun x => decide (1 ≤ x ∧ x ≤ 4)).map D.bl := by rw [List.map_map]; rfl
        rw [e, w_all]
        refine ret_same ?_
        have e2 : (ws.map fun x => decide (1 ≤ x ∧ x ≤ 4)).all id = true := by
          rw [List.all_map, List.all_eq_true]
          exact fun x hx => decide_eq_true (hw.w x hx)
        rw [e2]; exact h
def c_require_form : Con := fun ds μ Φ _ => ∃ (ws : List Int) (oc : Nat), ds = [.tup (ws.map .int), .int (oc : Int)] ∧ WsOk ws ∧ 1 ≤ oc ∧ oc ≤ 4 ∧ Φ .non μ
theorem len_require_form {ds μ Φ Ψ} (h : c_require_form ds μ Φ Ψ) : ds.length = 2 := by obtain ⟨i, _, rfl, _⟩ := h; rfl
theorem ok_require_form (T : Txt P w K mg) : FnOk P w K mg base (L2N.CX P w) 3 T.f_require_form T.d_require_form ["widths", "outcomes"] (spOf K c_require_form) := by
  refine def_okC T.F_require_form sc_require_form _ (fun ds μ Φ Ψ h => len_require_form h) (fun cdv A outer s H E B hW hr =>
    have tk : L2N.Takes (cxOf (L2N.CX P w) P w K mg base N_require_form "require_form" (defScope s_require_form) T.f_require_form cdv A outer s H E) (fun cls d _ H => E cls d H) := L2N.takes_of rfl rfl rfl rfl
    ⟨_, (pss_one (ps_if (PW.pt (pw_or (pt_not (pt_val (pe_call (ok_has_outcomes T) (hr.mono (by decide)) rfl T.g_has_outcomes T.F_has_outcomes.kp T.b_has_outcomes .nil passN (pa_cons (pv 1) pa_nil)))) (pw_or1 (pt_not (pt_val (pe_call (ok_are_widths T) hr rfl T.g_are_widths T.F_are_widths.kp T.b_are_widths .nil passN (pa_cons (pv 0) pa_nil))))))) (pss_one (L2N.ps_raise rfl tk (L2N.pmk_own PySem.F.excBase_ValueError T.x_OutOfRange T.g_OutOfRange T.k_OutOfRange (raises_own T.e_OutOfRange T.t_OutOfRange) rfl))) pss_nil)),
      (sIfS (sOr (sNot (sB (sCall (sCons sVar sNil)))) (sNot (sB (sCall (sCons sVar sNil))))) (sRaise0W (W := fun cls d _ H => E cls d H) (C := T.c_OutOfRange) (by exact hW)) sNext)⟩) (fun ds μ Φ Ψ h => ?hv)
  case hv =>
    obtain ⟨ws, oc, rfl, hw, o1, o2, h⟩ := h
    walk_at "wps"
    simp only [w_has_outcomes]
    walk_at "wps"
    rw [decide_eq_true (show 1 ≤ (oc : Int) ∧ (oc : Int) ≤ 4 by omega)]
    walk_at "wps"
    refine ⟨ws, rfl, hw, ?_⟩
    walk_at "wps"
    exact ret_same h
def c_has_query_form : Con := fun ds μ Φ _ => ∃ (ws : List Int) (oc lv : Nat) (t : QT), ds = [qD t, .tup (ws.map .int), .int (lv : Int)] ∧ WsOk ws ∧ QOk ws oc t ∧ lv + qDep t ≤ 20 ∧ Φ (.bl true) μ
theorem len_has_query_form {ds μ Φ Ψ} (h : c_has_query_form ds μ Φ Ψ) : ds.length = 3 := by obtain ⟨i, _, _, _, rfl, _⟩ := h; rfl
theorem ok_has_query_form (T : Txt P w K mg) : FnOk P w K mg base (L2N.CX P w) 3 T.f_has_query_form T.d_has_query_form ["term", "widths", "level"] (spOf K c_has_query_form) := by
  refine def_okC T.F_has_query_form sc_has_query_form _ (fun ds μ Φ Ψ h => len_has_query_form h) (fun cdv A outer s H E B hW hr =>
    have tk : L2N.Takes (cxOf (L2N.CX P w) P w K mg base N_has_query_form "has_query_form" (defScope s_has_query_form) T.f_has_query_form cdv A outer s H E) (fun cls d _ H => E cls d H) := L2N.takes_of rfl rfl rfl rfl
    ⟨_, (pss_cons (ps_if (PW.pt (pw_or (pt_not (pt_val (pe_callB call_isi (by rfl) T.z_isinstance (by decide +kernel) (pa_cons (pv 0) (pa_cons (pe_bltn (v := .ty "tuple") rfl T.z_tuple (by decide +kernel) rfl) pa_nil))))) (pw_or1 (pt_cmpR op_eq (pe_callB call_len_seq (by rfl) T.z_len PySem.boot_len (pa_cons (pv 0) pa_nil)) pe_int (nomark _))))) (pss_one (ps_ret pe_bl)) pss_nil)
      (pss_cons (ps_if (pt_cmpR op_eq (pe_ix ix_tup (pv 0) pe_int (fun _ _ => rfl)) pe_str (nomark _)) (pss_one (ps_ret (pe_cmpR op_eq (pe_callB call_len_seq (by rfl) T.z_len PySem.boot_len (pa_cons (pv 0) pa_nil)) pe_int (nomark _)))) pss_nil)
      (pss_cons (ps_if (PW.pt (pw_or (pt_cmpR op_ne (pe_ix ix_tup (pv 0) pe_int (fun _ _ => rfl)) pe_str (nomark _)) (pw_or (pt_cmpR op_le (pe_callB call_len_seq (by rfl) T.z_len PySem.boot_len (pa_cons (pv 0) pa_nil)) (pe_glob (v := .int 2) rfl T.g_ITEMS_BEFORE.choose_spec ⟨_, rfl⟩) (nomark _)) (pw_or1 (pt_cmpR op_ge (pv 2) (ClX.pe_cval (pe_glob (v := .ref T.c_Query) rfl T.g_Query rfl)) (nomark _)))))) (pss_one (ps_ret pe_bl)) pss_nil)
      (pss_one (ps_ret (pe_or (pe_not (pe_call (ok_is_below T) hr rfl T.g_is_below T.F_is_below.kp T.b_is_below .nil passN (pa_cons (pe_ix ix_tup (pv 0) pe_int (fun _ _ => rfl)) (pa_cons (pe_glob (v := .int 100) rfl T.g_PLACES.choose_spec ⟨_, rfl⟩) pa_nil)))) (pe_one (pe_cmpR op_eq (pe_callB call_len_seq (by rfl) T.z_len PySem.boot_len (pa_cons (pe_call (ok_terms_behind T) (hr.mono (by decide)) rfl T.g_terms_behind T.F_terms_behind.kp T.b_terms_behind .nil passN (pa_cons (pv 0) pa_nil)) pa_nil)) (pe_call (ok_width_at T) (hr.mono (by decide)) rfl T.g_width_at T.F_width_at.kp T.b_width_at .nil passN (pa_cons (pv 1) (pa_cons (pe_ix ix_tup (pv 0) pe_int (fun _ _ => rfl)) pa_nil))) (nomark _))))))))),
      (sSeq (sIfS (sOr (sNot (sB (sCB (rcIsi (T := "tuple")) (sCons sVar (sCons sHd sNil))))) (sTest (sOp roEq (sCB rcLen (sCons sVar sNil)) sInt))) (sRet sBl) sNext)
      (sSeq (sIfS (sTest (sOp roEq (sOp roIxT sVar sInt) sStr)) (sRet (sOp roEq (sCB rcLen (sCons sVar sNil)) sInt)) sNext)
      (sSeq (sIfS (sOr (sTest (sOp roNe (sOp roIxT sVar sInt) sStr)) (sOr (sTest (sOp roBl0 (sCB rcLen (sCons sVar sNil)) sInt)) (sTest (sOp roBl0 sVar (sCVal (n := 20) T.rd_Query T.cv_Query_MOST_LEVELS sHd))))) (sRet sBl) sNext)
      (sRet (sOrV (sNotV (sCall (sCons (sOp roIxT sVar sInt) (sCons sInt sNil)))) (sOp roEq (sCB rcLen (sCons (sCall (sCons sVar sNil)) sNil)) (sCall (sCons sVar (sCons (sOp roIxT sVar sInt) sNil)))))))))⟩) (fun ds μ Φ Ψ h => ?hv)
  case hv =>
    obtain ⟨ws, oc, lv, t, rfl, hw, ht, hl, h⟩ := h
    cases t with
    | tell o =>
      rw [qD]
      refine seq_cut fun M hM => ?_
      walk_at "wp"
      refine ⟨fun q => absurd q (by omega), fun _ => ?_⟩
      rw [hM]; clear hM M
      refine seq_cut fun M hM => ?_
      walk_at "wp"
      exact ⟨ret_same h, fun z => absurd trivial z⟩
    | look p ts =>
      obtain ⟨hp, hlen, hts⟩ := ht
      have hw1 := hw.wd1 p
      have e1 : (qDs ts).length = ts.length := qDs_len ts
      rw [qDep] at hl
      rw [qD]
      refine seq_cut fun M hM => ?_
      walk_at "wp"
      refine ⟨fun q => absurd q (by omega), fun _ => ?_⟩
      rw [hM]; clear hM M
      refine seq_cut fun M hM => ?_
      walk_at "wp"
      refine ⟨fun q => absurd q (by decide), fun _ => ?_⟩
      rw [hM]; clear hM M
      refine seq_cut fun M hM => ?_
      walk_at "wp"
      refine ⟨fun q => ?_, fun _ => ⟨fun q => absurd q (by omega), fun _ => ⟨fun q => absurd q (by omega), fun _ => ?_⟩⟩⟩
      · exact absurd q (by decide)
      rw [hM]; clear hM M
      walk_at "wps"
      simp only [w_is_below]
      walk_at "wps"
      rw [decide_eq_true (show 0 ≤ (p : Int) ∧ (p : Int) < 100 by omega)]
      walk_at "wps"
      refine ⟨_, rfl, _, .tup _, ws, p, rfl, hw, ?_⟩
      walk_at "wps"
      rw [List.drop_succ_cons, List.drop_succ_cons, List.drop_zero, e1, hlen, decide_eq_true rfl]
      exact ret_same h
end
section
variable {P : Program} {w : World} {K : Fg} {mg : Str → Option Value} {base : Heap}
def c_wrong_query (n : Nat) : Con := fun ds μ Φ _ => ∃ (ws : List Int) (oc lv : Nat) (t : QT), ds = [qD t, .tup (ws.map .int), .int (oc : Int), .int (lv : Int)] ∧ WsOk ws ∧ QOk ws oc t ∧ lv + qDep t ≤ 20 ∧ qDep t < n ∧ Φ .non μ
theorem len_wrong_query {n ds μ Φ Ψ} (h : c_wrong_query n ds μ Φ Ψ) : ds.length = 4 := by obtain ⟨i, _, _, _, rfl, _⟩ := h; rfl
theorem step_wrong_query (T : Txt P w K mg) {k : Nat} (hk : 4 ≤ k) (n : Nat) (ih_wrong_query : FnOk P w K mg base (L2N.CX P w) k T.f_wrong_query T.d_wrong_query ["term", "widths", "outcomes", "level"] (spOf K (c_wrong_query n))) : FnOk P w K mg base (L2N.CX P w) (k + 1) T.f_wrong_query T.d_wrong_query ["term", "widths", "outcomes", "level"] (spOf K (c_wrong_query (n + 1))) := by
  refine def_okC T.F_wrong_query sc_wrong_query _ (fun ds μ Φ Ψ h => len_wrong_query h) (fun cdv A outer s H E B hW hr =>
    have tk : L2N.Takes (cxOf (L2N.CX P w) P w K mg base N_wrong_query "wrong_query" (defScope s_wrong_query) T.f_wrong_query cdv A outer s H E) (fun cls d _ H => E cls d H) := L2N.takes_of rfl rfl rfl rfl
    ⟨_, (pss_cons (ps_if (pt_not (pt_val (pe_call (ok_has_query_form T) (hr.mono (by omega)) rfl T.g_has_query_form T.F_has_query_form.kp T.b_has_query_form .nil passN (pa_cons (pv 0) (pa_cons (pv 1) (pa_cons (pv 3) pa_nil)))))) (pss_one (ps_ret (pe_tupN pa_nil))) pss_nil)
      (pss_cons (ps_if (pt_cmpR op_eq (pe_ix ix_tup (pv 0) pe_int (fun _ _ => rfl)) pe_str (nomark _)) (pss_one (ps_ret (pe_ifExp (pt_val (pe_call (ok_is_below T) (hr.mono (by omega)) rfl T.g_is_below T.F_is_below.kp T.b_is_below .nil passN (pa_cons (pe_ix ix_tup (pv 0) pe_int (fun _ _ => rfl)) (pa_cons (pv 2) pa_nil)))) pe_non (pe_tupN (pa_cons pe_int pa_nil))))) pss_nil)
      (pss_cons (ps_if (pt_not (pt_val (pe_call (ok_is_below T) (hr.mono (by omega)) rfl T.g_is_below T.F_is_below.kp T.b_is_below .nil passN (pa_cons (pe_ix ix_tup (pv 0) pe_int (fun _ _ => rfl)) (pa_cons (pe_glob (v := .int 100) rfl T.g_PLACES.choose_spec ⟨_, rfl⟩) pa_nil))))) (pss_one (ps_ret (pe_tupN (pa_cons pe_int pa_nil)))) pss_nil)
      (pss_cons (ps_for (passes_of rfl) rfl (pi_enumTg (n := 2) (by rfl) T.z_enumerate (pe_glob (v := .int 2) rfl T.g_ITEMS_BEFORE.choose_spec ⟨_, rfl⟩) (pa_cons (pe_call (ok_terms_behind T) (hr.mono (by omega)) rfl T.g_terms_behind T.F_terms_behind.kp T.b_terms_behind .nil passN (pa_cons (pv 0) pa_nil)) pa_nil) (by decide) (by decide)) (pg_tup (n := 2) rfl (pgs_cons (pg_name (i := 4) sc_wrong_query.nd rfl (Or.inl rfl)) (pgs_cons (pg_name (i := 5) sc_wrong_query.nd rfl (Or.inl rfl)) pgs_nil))) (pss_cons (ps_set (i := 6) sc_wrong_query.nd rfl (Or.inl rfl) (pe_call ih_wrong_query hr rfl T.g_wrong_query T.F_wrong_query.kp T.b_wrong_query .nil passN (pa_cons (pv 5) (pa_cons (pv 1) (pa_cons (pv 2) (pa_cons (pe_op op_add (pv 3) pe_int) pa_nil))))))
      (pss_one (ps_if (pt_cmpR op_notN (pv 6) pe_non (nomark _)) (pss_one (ps_ret (pe_op op_catN (pe_tupN (pa_cons (pv 4) pa_nil)) (pv 6)))) pss_nil))))
      (pss_one (ps_ret pe_non)))))),
      (sSeq (sIfS (sNot (sB (sCall (sCons sVar (sCons sVar (sCons sVar sNil)))))) (sRet (sTup sNil)) sNext)
      (sSeq (sIfS (sTest (sOp roEq (sOp roIxT sVar sInt) sStr)) (sRet (sIf (sB (sCall (sCons (sOp roIxT sVar sInt) (sCons sVar sNil)))) sNon (sTup (sCons sInt sNil)))) sNext)
      (sSeq (sIfS (sNot (sB (sCall (sCons (sOp roIxT sVar sInt) (sCons sInt sNil))))) (sRet (sTup (sCons sInt sNil))) sNext)
      (sSeq (sFor (siEnumT (sCall (sCons sVar sNil))) (fun _ _ _ => (sgTup (sgCons sName (sgCons sName sgNil)))) (fun _ _ _ => (sSeq (sAsg (sCall (sCons sVar (sCons sVar (sCons sVar (sCons (sOp roInt0 sVar sInt) sNil))))) sName)
      (sIfS (sTest (sOp roNotN sVar sNon)) (sRet (sOp roCatT (sTup (sCons sVar sNil)) sVar)) sNext))))
      (sRet sNon)))))⟩) (fun ds μ Φ Ψ h => ?hv)
  case hv =>
    obtain ⟨ws, oc, lv, t, rfl, hw, ht, hl, hn, h⟩ := h
    refine seq_cut fun M hM => ?_
    walk_at "wp"
    refine ⟨ws, oc, lv, t, rfl, hw, ht, hl, ?_⟩
    walk_at "wp"
    rw [hM]; clear hM M
    cases t with
    | tell o =>
      rw [qD]
      refine seq_cut fun M hM => ?_
      walk_at "wp"
      have ho : o < oc := ht
      refine ⟨?_, fun z => absurd trivial z⟩
      simp only [w_is_below]
      walk_at "wp"
      refine ⟨fun _ => ret_same h, fun z => absurd (show 0 ≤ (o : Int) ∧ (o : Int) < (oc : Int) by omega) z⟩
    | look p ts =>
      obtain ⟨hp, hlen, hts⟩ := ht
      rw [qoks_iff] at hts
      rw [qDep] at hl hn
      rw [qD]
      refine seq_cut fun M hM => ?_
      walk_at "wp"
      refine ⟨fun q => absurd q (by decide), fun _ => ?_⟩
      rw [hM]; clear hM M
      refine seq_cut fun M hM => ?_
      walk_at "wp"
      simp only [w_is_below]
      walk_at "wp"
      rw [decide_eq_true (show 0 ≤ (p : Int) ∧ (p : Int) < 100 by omega)]
      walk_at "wp"
      rw [hM]; clear hM M
      refine seq_cut fun M hM => ?_
      walk_at "wp"
      refine ⟨_, rfl, _, rfl, ?_⟩
      rw [List.drop_succ_cons, List.drop_succ_cons, List.drop_zero]
      have e1 : (qDs ts).length = ts.length := qDs_len ts
      refine ⟨fun _ δ' μ' => μ' = μ ∧ ∃ x y z, δ' = [some (.tup (.str "look" :: .int (p : Int) :: qDs ts)), some (.tup (ws.map .int)), some (.int (oc : Int)), some (.int (lv : Int)), x, y, z], ⟨rfl, none, none, none, rfl⟩, ?_, ?_⟩
      · rintro i d δ' μ' hi ⟨rfl, x, y, z, rfl⟩
        have hil : i < ts.length := by have := (List.getElem?_eq_some_iff.mp hi).1; rw [List.length_map, List.length_range, e1] at this; exact this
        rw [List.getElem?_map, List.getElem?_range (by rw [e1]; exact hil)] at hi
        cases hi
        have hd := qdeps_le (List.getElem_mem hil)
        refine ⟨_, rfl, rfl, _, _, rfl, _, _, rfl, rfl, ?_⟩
        rw [qDs_at hil]
        walk_at "wps"
        refine ⟨ws, oc, lv + 1, ts[i], rfl, hw, hts _ (List.getElem_mem hil), by omega, by omega, ?_⟩
        walk_at "wps"
        exact ⟨_, _, _, rfl⟩
      · rintro δ' μ' ⟨rfl, x, y, z, rfl⟩
        rw [hM]
        walk_at "wp"
        exact ret_same h
def c_places_of (n : Nat) : Con := fun ds μ Φ _ => ∃ (ws : List Int) (oc : Nat) (t : QT), ds = [qD t] ∧ QOk ws oc t ∧ qDep t < n ∧ (qPl t).length ≤ 1000 ∧ Φ (.lst (nI (qPl t))) μ
theorem len_places_of {n ds μ Φ Ψ} (h : c_places_of n ds μ Φ Ψ) : ds.length = 1 := by obtain ⟨i, _, _, rfl, _⟩ := h; rfl
theorem step_places_of (T : Txt P w K mg) {k : Nat} (hk : 4 ≤ k) (n : Nat) (ih_places_of : FnOk P w K mg base (L2N.CX P w) k T.f_places_of T.d_places_of ["term"] (spOf K (c_places_of n))) : FnOk P w K mg base (L2N.CX P w) (k + 1) T.f_places_of T.d_places_of ["term"] (spOf K (c_places_of (n + 1))) := by
  refine def_okC T.F_places_of sc_places_of _ (fun ds μ Φ Ψ h => len_places_of h) (fun cdv A outer s H E B hW hr =>
    have tk : L2N.Takes (cxOf (L2N.CX P w) P w K mg base N_places_of "places_of" (defScope s_places_of) T.f_places_of cdv A outer s H E) (fun cls d _ H => E cls d H) := L2N.takes_of rfl rfl rfl rfl
    ⟨_, (pss_cons (ps_if (pt_cmpR op_eq (pe_ix ix_tup (pv 0) pe_int (fun _ _ => rfl)) pe_str (nomark _)) (pss_one (ps_ret (pe_lst pa_nil))) pss_nil)
      (pss_one (ps_ret (pe_op op_cat (pe_lst (pa_cons (pe_ix ix_tup (pv 0) pe_int (fun _ _ => rfl)) pa_nil)) (pe_lc2 (own := [("below", 1), ("place", 2)]) (vs1 := [2]) rfl sc_places_of.nd (pi_tup (pe_call (ok_terms_behind T) (hr.mono (by omega)) rfl T.g_terms_behind T.F_terms_behind.kp T.b_terms_behind .nil passN (pa_cons (pv 0) pa_nil))) (blkOk_by (N := N_places_of) (sc := defScope s_places_of) (by decide +kernel)) (by decide) (fun _ _ _ _ _ => (pg_name (i := 1) sc_places_of.nd rfl (Or.inl rfl))) (fun _ _ _ _ _ => pts_nil) (fun _ _ _ _ _ => (pi_list (pe_call ih_places_of hr (by rfl) T.g_places_of T.F_places_of.kp T.b_places_of .nil passN (pa_cons (pv 1) pa_nil)))) (fun _ _ _ _ _ => (pg_name (i := 2) sc_places_of.nd rfl (Or.inl rfl))) (fun _ _ _ _ _ => pts_nil) (fun _ _ _ _ _ => (pv 2))))))),
      (sSeq (sIfS (sTest (sOp roEq (sOp roIxT sVar sInt) sStr)) (sRet (sLst sNil)) sNext)
      (sRet (sOp roCatL (sLst (sCons (sOp roIxT sVar sInt) sNil)) (sLc2 (siT (sCall (sCons sVar sNil))) (gwName List.mem_cons_self) (gwName List.mem_cons_self) (fun _ _ _ => sName) (fun _ _ _ => sYes) (fun _ _ _ => (siL (sCall (sCons sVar sNil)))) (fun _ _ _ => sName) (fun _ _ _ => sYes) (fun _ _ _ => sVar)))))⟩) (fun ds μ Φ Ψ h => ?hv)
  case hv =>
    obtain ⟨ws, oc, t, rfl, ht, hn, hb, h⟩ := h
    cases t with
    | tell o =>
      rw [qD]
      walk_at "wps"
      exact ⟨⟨by omega, ret_same h⟩, fun z => absurd trivial z⟩
    | look p ts =>
      obtain ⟨hp, hlen, hts⟩ := ht
      rw [qoks_iff] at hts
      rw [qDep] at hn
      rw [qPl, List.length_cons] at hb
      rw [qD]
      walk_at "wps"
      refine ⟨fun q => absurd q (by decide), fun _ => ⟨by omega, _, rfl, _, rfl, ?_⟩⟩
      rw [List.drop_succ_cons, List.drop_succ_cons, List.drop_zero]
      have hcol : ∀ i, i < ts.length → (qPl (ts.getD i (.tell 0))).length ≤ (qPl.qPls ts).length := fun i hi => by
        rw [List.getD_eq_getElem?_getD, List.getElem?_eq_getElem hi]
        exact qpls_len (List.getElem_mem hi)
      have e1 : (qDs ts).length = ts.length := qDs_len ts
      refine lcG2_pure (fun i => nI (qPl (ts.getD i (.tell 0)))) (fun i j => .int (((qPl (ts.getD i (.tell 0))).getD j 0 : Nat) : Int)) (fun i hi => ?_) (fun i => ?_) (fun i d μ2 X hi hsub hx => ?_) (fun i d j d1 μ2 X hi hj hsub hx => ?_) ?_
      · rw [e1] at hi
        rw [nI_flat ts i hi, nI_len]
        have := qpls_take ts i
        omega
      · rw [nI_len]
        by_cases hi : i < ts.length
        · have := hcol i hi
          omega
        · rw [List.getD_eq_getElem?_getD, List.getElem?_eq_none (by omega)]
          show ([] : List Nat).length ≤ 50000
          decide
      · obtain ⟨hil, rfl⟩ := qDs_get hi
        have hd := qdeps_le (List.getElem_mem hil)
        have hl := qpls_len (List.getElem_mem hil)
        walk_at "wps"
        refine ⟨ws, oc, ts[i], rfl, hts _ (List.getElem_mem hil), by omega, by omega, ?_⟩
        rw [List.getD_eq_getElem?_getD, List.getElem?_eq_getElem hil] at hx
        exact ⟨_, rfl, hx⟩
      · obtain ⟨hjl, rfl⟩ := nI_get hj
        walk_at "wps"
        rw [List.getD_eq_getElem?_getD, List.getElem?_eq_getElem hjl] at hx
        exact hx
      · rw [e1, nI_flat ts _ (Nat.le_refl _), List.take_length]
        walk_at "wps"
        rw [nI_len]
        exact ⟨by omega, ret_same (by rw [qPl] at h; exact h)⟩
end
section
variable {P : Program} {w : World} {K : Fg} {mg : Str → Option Value} {base : Heap}
def c_Row___init__ (C O : Addr) : Con := fun ds μ Φ Ψ => ∃ (x : Addr) (h c : List Int), ds = [.hd (.ref x), .tup (h.map .int), .tup (c.map .int)] ∧ h.length ≤ 1000 ∧ c.length ≤ 1000 ∧ μ x = some (.ins C [] []) ∧ (¬ (c ≠ [] ∧ ∀ y ∈ h ++ c, 0 ≤ y) → Ψ (.mk O none) μ) ∧ (RwOk ⟨h, c⟩ → Φ .non (sset μ x (.ins C NSA [.tup (h.map .int), .tup (c.map .int)])))
theorem len_Row___init__ {C O ds μ Φ Ψ} (h : c_Row___init__ C O ds μ Φ Ψ) : ds.length = 3 := by obtain ⟨_, _, _, rfl, _⟩ := h; rfl
theorem ok_Row___init__ (T : Txt P w K mg) : FnOk P w K mg base (L2N.CX P w) 2 T.f_Row___init__ T.d_Row___init__ ["self", "head", "cycle"] (spOf K (c_Row___init__ T.c_Row T.c_OutOfRange)) := by
  refine def_okD T.F_Row___init__ sc_Row___init__ _ (fun ds μ Φ Ψ h => len_Row___init__ h) (fun cdv A outer s H E B hW hr =>
    have tk : L2N.Takes (cxOf (L2N.CX P w) P w K mg base N_Row___init__ "Row.__init__" (defScope s_Row___init__) T.f_Row___init__ cdv A outer s H E) (fun cls d _ H => E cls d H) := L2N.takes_of rfl rfl rfl rfl
    ⟨_, (pss_cons (ps_if (PW.pt (pw_or (pt_cmpR op_eq (pe_callB call_len_seq (by rfl) T.z_len PySem.boot_len (pa_cons (pv 2) pa_nil)) pe_int (nomark _)) (pw_or1 (pt_not (pt_val (pe_callB (cr_all rfl) (by rfl) T.z_all (by decide +kernel) (pa_cons (pe_lc (own := [("entry", 3)]) rfl sc_Row___init__.nd (pi_tup (pe_op op_catN (pv 1) (pv 2))) (blkOk_by (N := N_Row___init__) (sc := defScope s_Row___init__) (by decide +kernel)) (fun _ _ _ _ _ => (pg_name (i := 3) sc_Row___init__.nd rfl (Or.inl rfl))) (fun _ _ _ _ _ => pts_nil) (fun _ _ _ _ _ => (pe_cmpR op_ge (pv 3) pe_int (nomark _)))) pa_nil))))))) (pss_one (L2N.ps_raise rfl tk (L2N.pmk_own PySem.F.excBase_ValueError T.x_OutOfRange T.g_OutOfRange T.k_OutOfRange (raises_own T.e_OutOfRange T.t_OutOfRange) rfl))) pss_nil)
      (pss_cons (ps_fld (pv 0) (pv 1) rfl)
      (pss_one (ps_fld (pv 0) (pv 2) rfl)))),
      (sSeq (sIfS (sOr (sTest (sOp roEq (sCB rcLen (sCons sVar sNil)) sInt)) (sNot (sB (sCB rcAll (sCons (sLc (siT (sOp roCatT sVar sVar)) (gwName List.mem_cons_self) (fun _ _ _ => sName) (fun _ _ _ => sYes) (fun _ _ _ => (sOp roBl0 sVar sInt))) sNil))))) (sRaise0W (W := fun cls d _ H => E cls d H) (C := T.c_OutOfRange) (by exact hW)) sNext)
      (sSeq (sSetF T.cls_Row T.na_Row_head sVar sVar)
      (sSetF T.cls_Row T.na_Row_cycle sVar sVar)))⟩) (fun ds μ Φ Ψ h => ?hv)
  case hv =>
    obtain ⟨x, hh, c, rfl, hl, cl, hx, h1, h2⟩ := h
    refine seq_cut fun M hM => ?_
    walk_at "wp"
    have eall : ((hh ++ c).map fun y => D.bl (decide (0 ≤ y))) = ((hh ++ c).map fun y => decide (0 ≤ y)).map .bl := by rw [List.map_map]; rfl
    refine ⟨fun q => ⟨_, Sub.refl, h1 fun z => z.1 (List.eq_nil_of_length_eq_zero (by omega))⟩, fun q => ⟨by omega, ?_⟩⟩
    rw [← List.map_append]
    refine lcZ (fun y => .bl (decide (0 ≤ y))) (by rw [List.length_append]; omega) (fun z μ2 X hz hsub hx => ?_) ?_
    · walk_at "wp"
      exact hx
    rw [eall]
    refine w_allB rfl ⟨_, rfl, fun q2 => ⟨_, Sub.refl, h1 fun z => ?_⟩, fun q2 => ?_⟩
    · have : (((hh ++ c).map fun y => decide (0 ≤ y)).all id) = true := by
        rw [List.all_map, List.all_eq_true]
        exact fun y hy => decide_eq_true (z.2 y hy)
      rw [this] at q2; cases q2
    · have hall : ∀ y ∈ hh ++ c, 0 ≤ y := by
        have : (((hh ++ c).map fun y => decide (0 ≤ y)).all id) = true := by
          cases e : (((hh ++ c).map fun y => decide (0 ≤ y)).all id) with
          | true => rfl
          | false => rw [e] at q2; cases q2
        rw [List.all_map, List.all_eq_true] at this
        exact fun y hy => of_decide_eq_true (this y hy)
      rw [hM]; clear hM M
      walk_at "wps"
      refine ⟨_, _, _, rfl, hx, by decide, by decide, _, _, _, rfl, sset_same, by decide, by decide, ?_⟩
      walk_at "wps"
      exact ret_same (h2 ⟨fun z => q (by have z : c = [] := z; rw [z]; rfl), hl, cl, fun y hy => hall y (List.mem_append_left _ hy), fun y hy => hall y (List.mem_append_right _ hy)⟩)
def c_Row___getitem__ (C O : Addr) : Con := fun ds μ Φ Ψ => ∃ (r : Rw) (i : Int), ds = [rwO C r, .int i] ∧ RwOk r ∧ (i < 0 → Ψ (.mk O none) μ) ∧ (∀ n : Nat, i = (n : Int) → Φ (.int (ent r n)) μ)
theorem len_Row___getitem__ {C O ds μ Φ Ψ} (h : c_Row___getitem__ C O ds μ Φ Ψ) : ds.length = 2 := by obtain ⟨_, _, rfl, _⟩ := h; rfl
theorem ok_Row___getitem__ (T : Txt P w K mg) : FnOk P w K mg base (L2N.CX P w) 2 T.f_Row___getitem__ T.d_Row___getitem__ ["self", "at"] (spOf K (c_Row___getitem__ T.c_Row T.c_OutOfRange)) := by
  refine def_okC T.F_Row___getitem__ sc_Row___getitem__ _ (fun ds μ Φ Ψ h => len_Row___getitem__ h) (fun cdv A outer s H E B hW hr =>
    have tk : L2N.Takes (cxOf (L2N.CX P w) P w K mg base N_Row___getitem__ "Row.__getitem__" (defScope s_Row___getitem__) T.f_Row___getitem__ cdv A outer s H E) (fun cls d _ H => E cls d H) := L2N.takes_of rfl rfl rfl rfl
    ⟨_, (pss_cons (ps_if (pt_cmpR op_lt (pv 1) pe_int (nomark _)) (pss_one (L2N.ps_raise rfl tk (L2N.pmk_own PySem.F.excBase_ValueError T.x_OutOfRange T.g_OutOfRange T.k_OutOfRange (raises_own T.e_OutOfRange T.t_OutOfRange) rfl))) pss_nil)
      (pss_cons (ps_if (pt_cmpR op_lt (pv 1) (pe_callB call_len_seq (by rfl) T.z_len PySem.boot_len (pa_cons (pe_fld (pv 0) rfl) pa_nil)) (nomark _)) (pss_one (ps_ret (pe_ix ix_tup (pe_fld (pv 0) rfl) (pv 1) (fun _ _ => rfl)))) pss_nil)
      (pss_one (ps_ret (pe_ix ix_tup (pe_fld (pv 0) rfl) (pe_op op_mod (pe_op op_sub (pv 1) (pe_callB call_len_seq (by rfl) T.z_len PySem.boot_len (pa_cons (pe_fld (pv 0) rfl) pa_nil))) (pe_callB call_len_seq (by rfl) T.z_len PySem.boot_len (pa_cons (pe_fld (pv 0) rfl) pa_nil))) (fun _ _ => rfl)))))),
      (sSeq (sIfS (sTest (sOp roBl0 sVar sInt)) (sRaise0W (W := fun cls d _ H => E cls d H) (C := T.c_OutOfRange) (by exact hW)) sNext)
      (sSeq (sIfS (sTest (sOp roBl0 sVar (sCB rcLen (sCons (sFldO (NS := NS_Row) (i := 0) T.cls_Row T.na_Row_head rfl (by decide) sVar) sNil)))) (sRet (sOp roIxT (sFldO (NS := NS_Row) (i := 0) T.cls_Row T.na_Row_head rfl (by decide) sVar) sVar)) sNext)
      (sRet (sOp roIxT (sFldO (NS := NS_Row) (i := 1) T.cls_Row T.na_Row_cycle rfl (by decide) sVar) (sOp roInt (sOp roInt0 sVar (sCB rcLen (sCons (sFldO (NS := NS_Row) (i := 0) T.cls_Row T.na_Row_head rfl (by decide) sVar) sNil))) (sCB rcLen (sCons (sFldO (NS := NS_Row) (i := 1) T.cls_Row T.na_Row_cycle rfl (by decide) sVar) sNil)))))))⟩) (fun ds μ Φ Ψ h => ?hv)
  case hv =>
    obtain ⟨r, i, rfl, hr, h1, h2⟩ := h
    have e1 : rwO T.c_Row r = D.obj T.c_Row NSA [.tup (r.h.map .int), .tup (r.c.map .int)] := rfl
    refine seq_cut fun M hM => ?_
    rw [e1]
    walk_at "wp"
    refine ⟨fun q => ⟨_, Sub.refl, h1 q⟩, fun q => ?_⟩
    obtain ⟨n, rfl⟩ : ∃ n : Nat, i = (n : Int) := ⟨i.toNat, by omega⟩
    have h2 := h2 n rfl
    show M [some (.obj T.c_Row NSA [.tup (r.h.map .int), .tup (r.c.map .int)]), some (.int n)] μ
    rw [hM]; clear hM M
    refine seq_cut fun M hM => ?_
    walk_at "wp"
    have hcn : 0 < r.c.length := List.length_pos_iff.mpr hr.c0
    refine ⟨fun q => ⟨_, atI_nat (v := .int (ent r n)) ?_, ret_same h2⟩, fun q => ?_⟩
    · have hn : n < r.h.length := by omega
      rw [List.getElem?_map, List.getElem?_eq_getElem hn]
      unfold ent
      rw [if_pos hn, List.getD_eq_getElem?_getD, List.getElem?_eq_getElem hn]; rfl
    · have hn : ¬ n < r.h.length := by omega
      have hm := Nat.mod_lt (n - r.h.length) hcn
      rw [hM]; clear hM M
      walk_at "wps"
      have em : ((n : Int) - (r.h.length : Int)) % (r.c.length : Int) = (((n - r.h.length) % r.c.length : Nat) : Int) := by
        rw [show (n : Int) - (r.h.length : Int) = ((n - r.h.length : Nat) : Int) by omega]; rfl
      rw [em]
      refine ⟨by omega, _, atI_nat (v := .int (ent r n)) ?_, ret_same h2⟩
      rw [List.getElem?_map, self_at hm]
      unfold ent
      rw [if_neg hn, cyc_mod]; rfl
theorem fn_never {P : Program} {w : World} {K : Fg} {mg : Str → Option Value} {base : Heap} {CX : CXT} {k : Nat} {f : Addr} {fd : FuncData} {ps : List Str} {c : Con} (h : ∀ ds μ Φ Ψ, ¬ c ds μ Φ Ψ) : FnOk P w K mg base CX k f fd ps (spOf K c) :=
  ⟨fun vs H Q E q => by obtain ⟨μ, ds, Φ, Ψ, _, _, hc, _⟩ := q; exact absurd hc (h _ _ _ _), fun A outer s H args us vs Q E _ _ _ _ q => by obtain ⟨μ, ds, Φ, Ψ, _, _, hc, _⟩ := q; exact absurd hc (h _ _ _ _)⟩
section
variable {P : Program} {w : World} {K : Fg} {mg : Str → Option Value} {base : Heap}
theorem okN_wrong_query (T : Txt P w K mg) : ∀ n, FnOk P w K mg base (L2N.CX P w) (4 + n) T.f_wrong_query T.d_wrong_query ["term", "widths", "outcomes", "level"] (spOf K (c_wrong_query n))
  | 0 => fn_never fun ds μ Φ Ψ h => by obtain ⟨_, _, _, _, _, _, _, _, h, _⟩ := h; omega
  | n + 1 => step_wrong_query T (k := 4 + n) (by omega) n (okN_wrong_query T n)
theorem ok_wrong_query (T : Txt P w K mg) : FnOk P w K mg base (L2N.CX P w) 30 T.f_wrong_query T.d_wrong_query ["term", "widths", "outcomes", "level"] (spOf K (c_wrong_query 21)) := (okN_wrong_query T 21).mono (by decide)
theorem okN_places_of (T : Txt P w K mg) : ∀ n, FnOk P w K mg base (L2N.CX P w) (4 + n) T.f_places_of T.d_places_of ["term"] (spOf K (c_places_of n))
  | 0 => fn_never fun ds μ Φ Ψ h => by obtain ⟨_, _, _, _, _, h, _⟩ := h; omega
  | n + 1 => step_places_of T (k := 4 + n) (by omega) n (okN_places_of T n)
theorem ok_places_of (T : Txt P w K mg) : FnOk P w K mg base (L2N.CX P w) 30 T.f_places_of T.d_places_of ["term"] (spOf K (c_places_of 21)) := (okN_places_of T 21).mono (by decide)
end
def c_require_few : Con := fun ds μ Φ _ => ∃ (ws : List Int) (l ps : List Nat), ds = [.lst (nI l), .tup (ws.map .int)] ∧ WsOk ws ∧ l.length ≤ 300 ∧ ps.Pairwise (· < ·) ∧ ps.length ≤ 8 ∧ wpr ws ps ≤ 256 ∧ (∀ q ∈ l, q ∈ ps) ∧ Φ .non μ
theorem len_require_few {ds μ Φ Ψ} (h : c_require_few ds μ Φ Ψ) : ds.length = 2 := by obtain ⟨i, _, _, rfl, _⟩ := h; rfl
theorem ok_require_few (T : Txt P w K mg) : FnOk P w K mg base (L2N.CX P w) 3 T.f_require_few T.d_require_few ["places", "widths"] (spOf K c_require_few) := by
  refine def_okC T.F_require_few sc_require_few _ (fun ds μ Φ Ψ h => len_require_few h) (fun cdv A outer s H E B hW hr =>
    have tk : L2N.Takes (cxOf (L2N.CX P w) P w K mg base N_require_few "require_few" (defScope s_require_few) T.f_require_few cdv A outer s H E) (fun cls d _ H => E cls d H) := L2N.takes_of rfl rfl rfl rfl
    ⟨_, (pss_cons (ps_if (pt_cmpR op_gt (pe_callB call_len_seq (by rfl) T.z_len PySem.boot_len (pa_cons (pv 0) pa_nil)) (ClX.pe_cval (pe_glob (v := .ref T.c_Query) rfl T.g_Query rfl)) (nomark _)) (pss_one (L2N.ps_raise rfl tk (L2N.pmk_own PySem.F.excBase_ValueError T.x_TooLarge T.g_TooLarge T.k_TooLarge (raises_own T.e_TooLarge T.t_TooLarge) rfl))) pss_nil)
      (pss_one (ps_if (pt_cmpR op_gt (pe_call (ok_count_choices T) (hr.mono (by decide)) rfl T.g_count_choices T.F_count_choices.kp T.b_count_choices .nil passN (pa_cons (pe_lc (own := [("place", 2)]) rfl sc_require_few.nd (pi_list (pe_sortSet rfl T.z_sorted rfl T.z_set (pv 0))) (blkOk_by (N := N_require_few) (sc := defScope s_require_few) (by decide +kernel)) (fun _ _ _ _ _ => (pg_name (i := 2) sc_require_few.nd rfl (Or.inl rfl))) (fun _ _ _ _ _ => pts_nil) (fun _ _ _ _ _ => (pe_call (ok_width_at T) (hr.mono (by decide)) rfl T.g_width_at T.F_width_at.kp T.b_width_at .nil passN (pa_cons (pv 1) (pa_cons (pv 2) pa_nil))))) pa_nil)) (ClX.pe_cval (pe_glob (v := .ref T.c_Query) rfl T.g_Query rfl)) (nomark _)) (pss_one (L2N.ps_raise rfl tk (L2N.pmk_own PySem.F.excBase_ValueError T.x_TooLarge T.g_TooLarge T.k_TooLarge (raises_own T.e_TooLarge T.t_TooLarge) rfl))) pss_nil))),
      (sSeq (sIfS (sTest (sOp roBl0 (sCB rcLen (sCons sVar sNil)) (sCVal (n := 300) T.rd_Query T.cv_Query_MOST_LOOKS sHd))) (sRaise0W (W := fun cls d _ H => E cls d H) (C := T.c_TooLarge) (by exact hW)) sNext)
      (sIfS (sTest (sOp roBl0 (sCall (sCons (sLc (siL (sSortSet sVar)) (gwName List.mem_cons_self) (fun _ _ _ => sName) (fun _ _ _ => sYes) (fun _ _ _ => (sCall (sCons sVar (sCons sVar sNil))))) sNil)) (sCVal (n := 256) T.rd_Query T.cv_Query_MOST_CHOICES sHd))) (sRaise0W (W := fun cls d _ H => E cls d H) (C := T.c_TooLarge) (by exact hW)) sNext))⟩) (fun ds μ Φ Ψ h => ?hv)
  case hv =>
    obtain ⟨ws, l, ps, rfl, hw, hl, hp, hp8, hp2, hm, h⟩ := h
    refine seq_cut fun M hM => ?_
    walk_at "wp"
    rw [nI_len]
    refine ⟨fun z => absurd z (by omega), fun _ => ?_⟩
    rw [hM]; clear hM M
    walk_at "wp"
    refine ⟨l.map fun (n : Nat) => (n : Int), by rw [nI_ints]; exact .lst _, ⟨by rw [List.length_map]; omega, ps.map fun (n : Nat) => (n : Int), by rw [List.length_map]; omega, fun z hz => ?_⟩, fun ns hs hn => ?_⟩
    · obtain ⟨q, hq, rfl⟩ := List.mem_map.mp hz
      exact List.mem_map.mpr ⟨q, hm q hq, rfl⟩
    obtain ⟨ms, rfl⟩ : ∃ ms : List Nat, ns = ms.map fun (n : Nat) => (n : Int) := ⟨ns.map Int.toNat, by
      rw [List.map_map]
      refine (List.map_id _).symm.trans (List.map_congr_left fun k hk => ?_)
      obtain ⟨q, _, rfl⟩ := List.mem_map.mp ((hn k).mp hk)
      rfl⟩
    have hms : ms.Pairwise (· < ·) := (List.pairwise_map.mp hs).imp fun {a b} q => by omega
    have hsub : ∀ q ∈ ms, q ∈ ps := fun q hq => by
      obtain ⟨q2, hq2, e⟩ := List.mem_map.mp ((hn (q : Int)).mp (List.mem_map.mpr ⟨q, hq, rfl⟩))
      obtain rfl : q2 = q := Int.ofNat.inj e
      exact hm _ hq2
    obtain ⟨w1, w2⟩ := wpr_mono hw hms hp hsub
    refine lcZ (fun x => .int (wd ws x.toNat : Int)) (by rw [List.length_map]; omega) (fun x μ2 X hx hsub hk => ?_) ?_
    · obtain ⟨q, hq, rfl⟩ := List.mem_map.mp hx
      walk_at "wps"
      exact ⟨ws, q, rfl, hw, hk⟩
    · rw [show (ms.map fun (n : Nat) => (n : Int)).map (fun x => D.int (wd ws x.toNat : Int)) = (ms.map fun (p : Nat) => (wd ws p : Int)).map D.int from by rw [List.map_map, List.map_map]; rfl]
      refine ⟨_, rfl, fun i z hz => ?_, ?_⟩
      · rw [List.getElem?_map] at hz
        obtain ⟨q, _, rfl⟩ := Option.map_eq_some_iff.mp hz
        rw [← List.map_take, prod_wpr]
        have h1 := (wpr_mono hw (hms.sublist (List.take_sublist i ms)) hp fun q hq => hsub q (List.mem_of_mem_take hq)).1
        have h2 := hw.wd1 q
        exact mulx 10 3 (by omega) (by omega) (by decide)
      · rw [prod_wpr]
        walk_at "wp"
        refine ⟨fun z => absurd z (by omega), fun _ => ⟨_, Sub.refl, h⟩⟩
theorem ent_nn {r : Rw} (h : RwOk r) (i : Nat) : 0 ≤ ent r i := by
  unfold ent
  split
  · rename_i q
    rw [List.getD_eq_getElem?_getD, List.getElem?_eq_getElem q]
    exact h.hp _ (List.getElem_mem q)
  · have hc : 0 < r.c.length := List.length_pos_iff.mpr h.c0
    unfold cyc
    have q := Nat.mod_lt (i - r.h.length) hc
    rw [List.getD_eq_getElem?_getD, List.getElem?_eq_getElem q]
    exact h.cp _ (List.getElem_mem q)
def c_followed (C R : Addr) : Con := fun ds μ Φ _ => ∃ (ws : List Int) (oc : Nat) (ps : List Nat) (t : QT) (r : Rw), ds = [qO C t ws oc, rwO R r] ∧ QFit ws oc ps t ∧ RwOk r ∧ RFit ws r ∧ ∀ pl, Φ (.tup [.tup pl, .int (qA (rF r) t : Int)]) μ
theorem len_followed {C R ds μ Φ Ψ} (h : c_followed C R ds μ Φ Ψ) : ds.length = 2 := by obtain ⟨i, _, _, _, _, rfl, _⟩ := h; rfl
theorem ok_followed (T : Txt P w K mg) : FnOk P w K mg base (L2N.CX P w) 4 T.f_followed T.d_followed ["query", "row"] (spOf K (c_followed T.c_Query T.c_Row)) := by
  refine def_okC T.F_followed sc_followed _ (fun ds μ Φ Ψ h => len_followed h) (fun cdv A outer s H E B hW hr =>
    have tk : L2N.Takes (cxOf (L2N.CX P w) P w K mg base N_followed "followed" (defScope s_followed) T.f_followed cdv A outer s H E) (fun cls d _ H => E cls d H) := L2N.takes_of rfl rfl rfl rfl
    ⟨_, (pss_cons (ps_set (i := 2) sc_followed.nd rfl (Or.inl rfl) (pe_tupN pa_nil))
      (pss_cons (ps_set (i := 3) sc_followed.nd rfl (Or.inl rfl) (pe_fld (pv 0) rfl))
      (pss_cons (ps_while (passes_of rfl) (pt_cmpR op_eq (pe_ix ix_tup (pv 3) pe_int (fun _ _ => rfl)) pe_str (nomark _)) (pss_cons (ps_set (i := 4) sc_followed.nd rfl (Or.inl rfl) (pe_getX T.me_Row___getitem__ T.fn_Row___getitem__ (ok_Row___getitem__ T) (hr.mono (by decide)) T.b_Row___getitem__ (fun σ => L2N.passAt tk σ) (pv 1) (pe_ix ix_tup (pv 3) pe_int (fun _ _ => rfl)) (fun _ _ => rfl)))
      (pss_cons (ps_if (pt_not (pt_val (pe_call (ok_is_below T) (hr.mono (by decide)) rfl T.g_is_below T.F_is_below.kp T.b_is_below .nil passN (pa_cons (pv 4) (pa_cons (pe_call (ok_width_at T) (hr.mono (by decide)) rfl T.g_width_at T.F_width_at.kp T.b_width_at .nil passN (pa_cons (pe_fld (pv 0) rfl) (pa_cons (pe_ix ix_tup (pv 3) pe_int (fun _ _ => rfl)) pa_nil))) pa_nil))))) (pss_one (L2N.ps_raise rfl tk (L2N.pmk_own PySem.F.excBase_ValueError T.x_OutOfRange T.g_OutOfRange T.k_OutOfRange (raises_own T.e_OutOfRange T.t_OutOfRange) rfl))) pss_nil)
      (pss_cons (ps_set (i := 2) sc_followed.nd rfl (Or.inl rfl) (pe_op op_catN (pv 2) (pe_tupN (pa_cons (pe_ix ix_tup (pv 3) pe_int (fun _ _ => rfl)) pa_nil))))
      (pss_one (ps_set (i := 3) sc_followed.nd rfl (Or.inl rfl) (pe_ix ix_tup (pv 3) (pe_op op_add (pe_glob (v := .int 2) rfl T.g_ITEMS_BEFORE.choose_spec ⟨_, rfl⟩) (pv 4)) (fun _ _ => rfl))))))))
      (pss_one (ps_ret (pe_tupN (pa_cons (pv 2) (pa_cons (pe_ix ix_tup (pv 3) pe_int (fun _ _ => rfl)) pa_nil)))))))),
      (sSeq (sAsg (sTup sNil) sName)
      (sSeq (sAsg (sFldO (NS := NS_Query) (i := 0) T.cls_Query T.na_Query_term rfl (by decide) sVar) sName)
      (sSeq (sWhile (sTest (sOp roEq (sOp roIxT sVar sInt) sStr)) (sSeq (sAsg (sGetX (NS := NS_Row) (W := fun cls d _ H => E cls d H) (by exact hW) sVar (sOp roIxT sVar sInt)) sName)
      (sSeq (sIfS (sNot (sB (sCall (sCons sVar (sCons (sCall (sCons (sFldO (NS := NS_Query) (i := 1) T.cls_Query T.na_Query_widths rfl (by decide) sVar) (sCons (sOp roIxT sVar sInt) sNil))) sNil))))) (sRaise0W (W := fun cls d _ H => E cls d H) (C := T.c_OutOfRange) (by exact hW)) sNext)
      (sSeq (sAsg (sOp roCatT sVar (sTup (sCons (sOp roIxT sVar sInt) sNil))) sName)
      (sAsg (sOp roIxT sVar (sOp roInt0 sInt sVar)) sName)))))
      (sRet (sTup (sCons sVar (sCons (sOp roIxT sVar sInt) sNil)))))))⟩) (fun ds μ Φ Ψ h => ?hv)
  case hv =>
    obtain ⟨ws, oc, ps, t, r, rfl, hq, hr, hf, h⟩ := h
    have hw := hq.w
    have e1 : qO T.c_Query t ws oc = D.obj T.c_Query NS_Query [qD t, .tup (ws.map .int), .int (oc : Int)] := rfl
    refine seq_cut fun M hM => ?_
    walk_at "wp"
    refine ⟨by omega, ?_⟩
    rw [hM]; clear hM M
    refine seq_cut fun M hM => ?_
    rw [e1]
    walk_at "wp"
    rw [hM]; clear hM M
    refine seq_cut fun M hM => ?_
    walk_at "wp"
    refine ⟨fun m δ μ' => μ' = μ ∧ ∃ (s : QT) (pl : List D) (x : Option D), δ = [some (.obj T.c_Query NS_Query [qD t, .tup (ws.map .int), .int (oc : Int)]), some (rwO T.c_Row r), some (.tup pl), some (qD s), x] ∧ QOk ws oc s ∧ qA (rF r) s = qA (rF r) t ∧ qDep s ≤ m ∧ pl.length + qDep s ≤ 20, ⟨qDep t, rfl, t, [], none, rfl, hq.ok, rfl, Nat.le_refl _, by have := hq.dep; simpa using this⟩, ?_⟩
    rintro m δ μ' ⟨rfl, s, pl, x, rfl, hs, ha, hm, hb⟩
    cases s with
    | tell o =>
      rw [qD]
      walk_at "wp"
      rw [hM]
      walk_at "wp"
      exact ⟨fun z => absurd z (by decide), fun _ => ⟨by omega, ret_same (by have := h pl; rw [← ha, qA] at this; exact this)⟩⟩
    | look p ts =>
      obtain ⟨hp, hlen, hts⟩ := hs
      rw [qoks_iff] at hts
      rw [qDep] at hm hb
      have hw1 := hw.wd1 p
      have hlt : rF r p < ts.length := by have := hf p; have := ent_nn hr p; unfold rF; omega
      have hent : ent r p = (rF r p : Int) := by have := ent_nn hr p; unfold rF; omega
      rw [qD]
      walk_at "wp"
      refine ⟨?_, fun z => absurd trivial z⟩
      refine seq_cut fun N hN => ?_
      walk_at "wp"
      refine ⟨_, rfl, r, (p : Int), rfl, hr, fun z => absurd z (by omega), fun q hq => ?_⟩
      obtain rfl : p = q := Int.ofNat.inj hq
      rw [hent, hN]; clear hN N
      refine seq_cut fun N hN => ?_
      walk_at "wp"
      refine ⟨ws, p, rfl, hw, ?_⟩
      simp only [w_is_below]
      walk_at "wp"
      rw [decide_eq_true (show 0 ≤ (rF r p : Int) ∧ (rF r p : Int) < (wd ws p : Int) by omega)]
      walk_at "wp"
      rw [hN]; clear hN N
      walk_at "wps"
      have ei : (2 : Int) + (rF r p : Int) = ((rF r p + 1 + 1 : Nat) : Int) := by omega
      have hd := qdeps_le (List.getElem_mem hlt)
      refine ⟨by omega, by omega, qD ts[rF r p], ?_, qDep.qDeps ts, by omega, ts[rF r p], pl ++ [.int (p : Int)], _, rfl, hts _ (List.getElem_mem hlt), ?_, hd, by rw [List.length_append, List.length_singleton]; omega⟩
      · rw [ei]
        exact atI_nat (by rw [List.getElem?_cons_succ, List.getElem?_cons_succ, qDs_map, List.getElem?_map, List.getElem?_eq_getElem hlt]; rfl)
      · rw [← ha, qA_look (List.getElem?_eq_getElem hlt)]
end
section
variable {P : Program} {w : World} {K : Fg} {mg : Str → Option Value} {base : Heap}
def c_fixed_term (n : Nat) : Con := fun ds μ Φ _ => ∃ (ws : List Int) (oc m o : Nat) (t : QT), ds = [qD t, .int (m : Int), .int (o : Int)] ∧ QOk ws oc t ∧ WsOk ws ∧ o < wd ws m ∧ qDep t < n ∧ Φ (qD (qFx m o t)) μ
theorem len_fixed_term {n ds μ Φ Ψ} (h : c_fixed_term n ds μ Φ Ψ) : ds.length = 3 := by obtain ⟨i, _, _, _, _, rfl, _⟩ := h; rfl
theorem step_fixed_term (T : Txt P w K mg) {k : Nat} (hk : 4 ≤ k) (n : Nat) (ih_fixed_term : FnOk P w K mg base (L2N.CX P w) k T.f_fixed_term T.d_fixed_term ["term", "place", "option"] (spOf K (c_fixed_term n))) : FnOk P w K mg base (L2N.CX P w) (k + 1) T.f_fixed_term T.d_fixed_term ["term", "place", "option"] (spOf K (c_fixed_term (n + 1))) := by
  refine def_okC T.F_fixed_term sc_fixed_term _ (fun ds μ Φ Ψ h => len_fixed_term h) (fun cdv A outer s H E B hW hr =>
    have tk : L2N.Takes (cxOf (L2N.CX P w) P w K mg base N_fixed_term "fixed_term" (defScope s_fixed_term) T.f_fixed_term cdv A outer s H E) (fun cls d _ H => E cls d H) := L2N.takes_of rfl rfl rfl rfl
    ⟨_, (pss_cons (ps_if (pt_cmpR op_eq (pe_ix ix_tup (pv 0) pe_int (fun _ _ => rfl)) pe_str (nomark _)) (pss_one (ps_ret (pv 0))) pss_nil)
      (pss_cons (ps_if (pt_cmpR op_eq (pe_ix ix_tup (pv 0) pe_int (fun _ _ => rfl)) (pv 1) (nomark _)) (pss_one (ps_ret (pe_call ih_fixed_term hr rfl T.g_fixed_term T.F_fixed_term.kp T.b_fixed_term .nil passN (pa_cons (pe_ix ix_tup (pv 0) (pe_op op_add (pe_glob (v := .int 2) rfl T.g_ITEMS_BEFORE.choose_spec ⟨_, rfl⟩) (pv 2)) (fun _ _ => rfl)) (pa_cons (pv 1) (pa_cons (pv 2) pa_nil)))))) pss_nil)
      (pss_one (ps_ret (pe_op op_catN (pe_slice sl_tupN (pv 0) po_none (po_some (pe_glob (v := .int 2) rfl T.g_ITEMS_BEFORE.choose_spec ⟨_, rfl⟩))) (pe_callTy call_tupleN (by rfl) T.z_tuple (by decide +kernel) (pa_cons (pe_lc (own := [("below", 3)]) rfl sc_fixed_term.nd (pi_tup (pe_call (ok_terms_behind T) (hr.mono (by omega)) rfl T.g_terms_behind T.F_terms_behind.kp T.b_terms_behind .nil passN (pa_cons (pv 0) pa_nil))) (blkOk_by (N := N_fixed_term) (sc := defScope s_fixed_term) (by decide +kernel)) (fun _ _ _ _ _ => (pg_name (i := 3) sc_fixed_term.nd rfl (Or.inl rfl))) (fun _ _ _ _ _ => pts_nil) (fun _ _ _ _ _ => (pe_call ih_fixed_term hr rfl T.g_fixed_term T.F_fixed_term.kp T.b_fixed_term .nil passN (pa_cons (pv 3) (pa_cons (pv 1) (pa_cons (pv 2) pa_nil)))))) pa_nil))))))),
      (sSeq (sIfS (sTest (sOp roEq (sOp roIxT sVar sInt) sStr)) (sRet sVar) sNext)
      (sSeq (sIfS (sTest (sOp roEq (sOp roIxT sVar sInt) sVar)) (sRet (sCall (sCons (sOp roIxT sVar (sOp roInt0 sInt sVar)) (sCons sVar (sCons sVar sNil))))) sNext)
      (sRet (sOp roCatT (sSlT sVar sNoPart (sPart sInt)) (sCB rcTuple (sCons (sLc (siT (sCall (sCons sVar sNil))) (gwName List.mem_cons_self) (fun _ _ _ => sName) (fun _ _ _ => sYes) (fun _ _ _ => (sCall (sCons sVar (sCons sVar (sCons sVar sNil)))))) sNil))))))⟩) (fun ds μ Φ Ψ h => ?hv)
  case hv =>
    obtain ⟨ws, oc, m, o, t, rfl, ht, hw, ho, hn, h⟩ := h
    cases t with
    | tell x =>
      rw [qD]
      refine seq_cut fun M hM => ?_
      walk_at "wp"
      exact ⟨ret_same h, fun z => absurd trivial z⟩
    | look p ts =>
      obtain ⟨hp, hlen, hts⟩ := ht
      rw [qoks_iff] at hts
      rw [qDep] at hn
      have hw1 := hw.wd1 p
      have e1 : (qDs ts).length = ts.length := qDs_len ts
      rw [qD]
      refine seq_cut fun M hM => ?_
      walk_at "wp"
      refine ⟨fun q => absurd q (by decide), fun _ => ?_⟩
      rw [hM]; clear hM M
      refine seq_cut fun M hM => ?_
      walk_at "wp"
      refine ⟨fun q => ?_, fun q => ?_⟩
      · obtain rfl : p = m := Int.ofNat.inj q
        have hlt : o < ts.length := by omega
        have ei : (2 : Int) + (o : Int) = ((o + 1 + 1 : Nat) : Int) := by omega
        have hd := qdeps_le (List.getElem_mem hlt)
        rw [qFx_at (List.getElem?_eq_getElem hlt)] at h
        refine ⟨qD ts[o], ?_, ws, oc, p, o, ts[o], rfl, hts _ (List.getElem_mem hlt), hw, ho, by omega, ret_same h⟩
        rw [ei]
        exact atI_nat (by rw [List.getElem?_cons_succ, List.getElem?_cons_succ, qDs_map, List.getElem?_map, List.getElem?_eq_getElem hlt]; rfl)
      · have hne : p ≠ m := fun z => q (by rw [z])
        rw [qFx_ne hne] at h
        rw [hM]; clear hM M
        walk_at "wps"
        refine ⟨_, rfl, _, rfl, ?_⟩
        rw [List.drop_succ_cons, List.drop_succ_cons, List.drop_zero]
        refine lcG_mapN (fun i => qD (qFx m o (ts.getD i (.tell 0)))) (by rw [e1]; omega) (fun i d μ2 X hi hsub hx => ?_) ?_
        · obtain ⟨hil, rfl⟩ := qDs_get hi
          have hd := qdeps_le (List.getElem_mem hil)
          rw [List.getD_eq_getElem?_getD, List.getElem?_eq_getElem hil] at hx
          walk_at "wps"
          exact ⟨ws, oc, m, o, ts[i], rfl, hts _ (List.getElem_mem hil), hw, ho, by omega, hx⟩
        · have ec : DW.cutD (D.str "look" :: D.int (p : Int) :: qDs ts) none (some 2) = [D.str "look", D.int (p : Int)] := by rw [show (2 : Int) = ((2 : Nat) : Int) from rfl, cut_to]; rfl
          rw [e1, ec, rangeQ (fun t => qD (qFx m o t)) ts]
          refine ⟨_, .lst _, by rw [List.length_map]; show 2 + _ ≤ _; omega, ret_same ?_⟩
          rw [qD, qDs_map, List.map_map] at h
          exact h
def c_Query___init__ (C : Addr) : Con := fun ds μ Φ _ => ∃ (x : Addr) (ws : List Int) (oc : Nat) (ps : List Nat) (t : QT), ds = [.hd (.ref x), qD t, .tup (ws.map .int), .int (oc : Int)] ∧ μ x = some (.ins C [] []) ∧ QFit ws oc ps t ∧ Φ .non (sset μ x (.ins C NS_Query [qD t, .tup (ws.map .int), .int (oc : Int)]))
theorem len_Query___init__ {C ds μ Φ Ψ} (h : c_Query___init__ C ds μ Φ Ψ) : ds.length = 4 := by obtain ⟨_, _, _, _, _, rfl, _⟩ := h; rfl
theorem ok_Query___init__ (T : Txt P w K mg) : FnOk P w K mg base (L2N.CX P w) 32 T.f_Query___init__ T.d_Query___init__ ["self", "term", "widths", "outcomes"] (spOf K (c_Query___init__ T.c_Query)) := by
  refine def_okC T.F_Query___init__ sc_Query___init__ _ (fun ds μ Φ Ψ h => len_Query___init__ h) (fun cdv A outer s H E B hW hr =>
    have tk : L2N.Takes (cxOf (L2N.CX P w) P w K mg base N_Query___init__ "Query.__init__" (defScope s_Query___init__) T.f_Query___init__ cdv A outer s H E) (fun cls d _ H => E cls d H) := L2N.takes_of rfl rfl rfl rfl
    ⟨_, (pss_cons (ps_expr (pe_callS (ok_require_form T) (hr.mono (by decide)) rfl T.g_require_form T.F_require_form.kp T.b_require_form (fun σ => L2N.passAt tk σ) (pa_cons (pv 2) (pa_cons (pv 3) pa_nil))))
      (pss_cons (ps_set (i := 4) sc_Query___init__.nd rfl (Or.inl rfl) (pe_call (ok_wrong_query T) (hr.mono (by decide)) rfl T.g_wrong_query T.F_wrong_query.kp T.b_wrong_query .nil passN (pa_cons (pv 1) (pa_cons (pv 2) (pa_cons (pv 3) (pa_cons pe_int pa_nil))))))
      (pss_cons (ps_if (pt_cmpR op_notN (pv 4) pe_non (nomark _)) (pss_one (L2N.ps_raise rfl tk (pmk_sup T.ox_InvalidQuery T.ic_InvalidQuery T.ti_InvalidQuery T.no_InvalidQuery T.in_InvalidQuery (hr.mono (by decide)) T.bi_InvalidQuery passN rfl T.g_InvalidQuery (pa_cons (pv 4) pa_nil)))) pss_nil)
      (pss_cons (ps_expr (pe_callS (ok_require_few T) (hr.mono (by decide)) rfl T.g_require_few T.F_require_few.kp T.b_require_few (fun σ => L2N.passAt tk σ) (pa_cons (pe_call (ok_places_of T) (hr.mono (by decide)) rfl T.g_places_of T.F_places_of.kp T.b_places_of .nil passN (pa_cons (pv 1) pa_nil)) (pa_cons (pv 2) pa_nil))))
      (pss_cons (ps_fld (pv 0) (pv 1) rfl)
      (pss_cons (ps_fld (pv 0) (pv 2) rfl)
      (pss_one (ps_fld (pv 0) (pv 3) rfl)))))))),
      (sSeq (sDrop (sCallSW (W := fun cls d _ H => E cls d H) (by exact hW) (sCons sVar (sCons sVar sNil))))
      (sSeq (sAsg (sCall (sCons sVar (sCons sVar (sCons sVar (sCons sInt sNil))))) sName)
      (sSeq (sIfS (sTest (sOp roNotN sVar sNon)) (sRaise1 (W := fun cls d _ H => E cls d H) (C := T.c_InvalidQuery) (fld := "path") (by exact hW) okdPath_ok sVar) sNext)
      (sSeq (sDrop (sCallSW (W := fun cls d _ H => E cls d H) (by exact hW) (sCons (sCall (sCons sVar sNil)) (sCons sVar sNil))))
      (sSeq (sSetF T.cls_Query T.na_Query_term sVar sVar)
      (sSeq (sSetF T.cls_Query T.na_Query_widths sVar sVar)
      (sSetF T.cls_Query T.na_Query_outcomes sVar sVar)))))))⟩) (fun ds μ Φ Ψ h => ?hv)
  case hv =>
    obtain ⟨x, ws, oc, ps, t, rfl, hx, hq, h⟩ := h
    refine seq_cut fun M hM => ?_
    walk_at "wp"
    refine ⟨ws, oc, rfl, hq.w, hq.o1, hq.o4, ?_⟩
    rw [hM]; clear hM M
    refine seq_cut fun M hM => ?_
    walk_at "wp"
    refine ⟨ws, oc, 0, t, rfl, hq.w, hq.ok, by have := hq.dep; omega, by have := hq.dep; omega, ?_⟩
    walk_at "wp"
    rw [hM]; clear hM M
    refine seq_cut fun M hM => ?_
    walk_at "wp"
    rw [hM]; clear hM M
    refine seq_cut fun M hM => ?_
    walk_at "wp"
    refine ⟨ws, oc, t, rfl, hq.ok, by have := hq.dep; omega, by have := hq.looks; omega, ws, qPl t, ps, rfl, hq.w, hq.looks, hq.sorted, hq.most, hq.few, hq.pl, ?_⟩
    rw [hM]; clear hM M
    walk_at "wps"
    refine ⟨_, _, _, rfl, hx, by decide, by decide, _, _, _, rfl, sset_same, by decide, by decide, _, _, _, rfl, sset_same, by decide, by decide, ?_⟩
    walk_at "wps"
    exact ret_same h
def c_Query___call__ (C R : Addr) : Con := fun ds μ Φ _ => ∃ (ws : List Int) (oc : Nat) (ps : List Nat) (t : QT) (r : Rw), ds = [qO C t ws oc, rwO R r] ∧ QFit ws oc ps t ∧ RwOk r ∧ RFit ws r ∧ Φ (.int (qA (rF r) t : Int)) μ
theorem len_Query___call__ {C R ds μ Φ Ψ} (h : c_Query___call__ C R ds μ Φ Ψ) : ds.length = 2 := by obtain ⟨i, _, _, _, _, rfl, _⟩ := h; rfl
theorem ok_Query___call__ (T : Txt P w K mg) : FnOk P w K mg base (L2N.CX P w) 5 T.f_Query___call__ T.d_Query___call__ ["self", "row"] (spOf K (c_Query___call__ T.c_Query T.c_Row)) := by
  refine def_okC T.F_Query___call__ sc_Query___call__ _ (fun ds μ Φ Ψ h => len_Query___call__ h) (fun cdv A outer s H E B hW hr =>
    have tk : L2N.Takes (cxOf (L2N.CX P w) P w K mg base N_Query___call__ "Query.__call__" (defScope s_Query___call__) T.f_Query___call__ cdv A outer s H E) (fun cls d _ H => E cls d H) := L2N.takes_of rfl rfl rfl rfl
    ⟨_, (pss_one (ps_ret (pe_ix ix_tup (pe_callS (ok_followed T) hr rfl T.g_followed T.F_followed.kp T.b_followed (fun σ => L2N.passAt tk σ) (pa_cons (pv 0) (pa_cons (pv 1) pa_nil))) pe_int (fun _ _ => rfl)))),
      (sRet (sOp roIxT (sCallSW (W := fun cls d _ H => E cls d H) (by exact hW) (sCons sVar (sCons sVar sNil))) sInt))⟩) (fun ds μ Φ Ψ h => ?hv)
  case hv =>
    obtain ⟨ws, oc, ps, t, r, rfl, hq, hr, hf, h⟩ := h
    walk_at "wps"
    refine ⟨ws, oc, ps, t, r, rfl, hq, hr, hf, fun pl => ?_⟩
    walk_at "wps"
    exact ret_same h
end
section
variable {P : Program} {w : World} {K : Fg} {mg : Str → Option Value} {base : Heap}
section
variable {P : Program} {w : World} {K : Fg} {mg : Str → Option Value} {base : Heap}
theorem okN_fixed_term (T : Txt P w K mg) : ∀ n, FnOk P w K mg base (L2N.CX P w) (4 + n) T.f_fixed_term T.d_fixed_term ["term", "place", "option"] (spOf K (c_fixed_term n))
  | 0 => fn_never fun ds μ Φ Ψ h => by obtain ⟨_, _, _, _, _, _, _, _, _, h, _⟩ := h; omega
  | n + 1 => step_fixed_term T (k := 4 + n) (by omega) n (okN_fixed_term T n)
theorem ok_fixed_term (T : Txt P w K mg) : FnOk P w K mg base (L2N.CX P w) 30 T.f_fixed_term T.d_fixed_term ["term", "place", "option"] (spOf K (c_fixed_term 21)) := (okN_fixed_term T 21).mono (by decide)
end
def c_settled_part (n : Nat) : Con := fun ds μ Φ _ => ∃ (ws : List Int) (oc : Nat) (ps : List Nat) (t : QT), ds = [qD t, .tup (ws.map .int)] ∧ WsOk ws ∧ QOk ws oc t ∧ qDep t ≤ 20 ∧ (qPl t).length ≤ 300 ∧ (∀ q ∈ qPl t, q ∈ ps) ∧ ps.Pairwise (· < ·) ∧ ps.length < n ∧ ps.length ≤ 8 ∧ Φ (qD (qSt ws 300 t)) μ
theorem len_settled_part {n ds μ Φ Ψ} (h : c_settled_part n ds μ Φ Ψ) : ds.length = 2 := by obtain ⟨i, _, _, _, rfl, _⟩ := h; rfl
theorem step_settled_part (T : Txt P w K mg) {k : Nat} (hk : 31 ≤ k) (n : Nat) (ih_settled_part : FnOk P w K mg base (L2N.CX P w) k T.f_settled_part T.d_settled_part ["term", "widths"] (spOf K (c_settled_part n))) : FnOk P w K mg base (L2N.CX P w) (k + 1) T.f_settled_part T.d_settled_part ["term", "widths"] (spOf K (c_settled_part (n + 1))) := by
  refine def_okC T.F_settled_part sc_settled_part _ (fun ds μ Φ Ψ h => len_settled_part h) (fun cdv A outer s H E B hW hr =>
    have tk : L2N.Takes (cxOf (L2N.CX P w) P w K mg base N_settled_part "settled_part" (defScope s_settled_part) T.f_settled_part cdv A outer s H E) (fun cls d _ H => E cls d H) := L2N.takes_of rfl rfl rfl rfl
    ⟨_, (pss_cons (ps_if (pt_cmpR op_eq (pe_ix ix_tup (pv 0) pe_int (fun _ _ => rfl)) pe_str (nomark _)) (pss_one (ps_ret (pv 0))) pss_nil)
      (pss_cons (ps_set (i := 2) sc_settled_part.nd rfl (Or.inr rfl) (pe_callB (cr_min rfl) (by rfl) T.z_min (by decide +kernel) (pa_cons (pe_call (ok_places_of T) (hr.mono (by omega)) rfl T.g_places_of T.F_places_of.kp T.b_places_of .nil passN (pa_cons (pv 0) pa_nil)) pa_nil)))
      (pss_cons (ps_set (i := 3) sc_settled_part.nd rfl (Or.inl rfl) (pe_callTy cr_range1 (by rfl) T.z_range (by decide +kernel) (pa_cons (pe_call (ok_width_at T) (hr.mono (by omega)) rfl T.g_width_at T.F_width_at.kp T.b_width_at .nil passN (pa_cons (pv 1) (pa_cons (pv 2) pa_nil))) pa_nil)))
      (pss_cons (ps_set (i := 4) sc_settled_part.nd rfl (Or.inl rfl) (pe_callTy call_tupleN (by rfl) T.z_tuple (by decide +kernel) (pa_cons (pe_lc (own := [("option", 5)]) rfl sc_settled_part.nd (pi_rngV (pv 3)) (blkOk_by (N := N_settled_part) (sc := defScope s_settled_part) (by decide +kernel)) (fun _ _ _ _ _ => (pg_name (i := 5) sc_settled_part.nd rfl (Or.inl rfl))) (fun _ _ _ _ _ => pts_nil) (fun _ _ _ _ _ => (pe_call ih_settled_part hr rfl T.g_settled_part T.F_settled_part.kp T.b_settled_part .nil passN (pa_cons (pe_call (ok_fixed_term T) (hr.mono (by omega)) rfl T.g_fixed_term T.F_fixed_term.kp T.b_fixed_term .nil passN (pa_cons (pv 0) (pa_cons (pv 2) (pa_cons (pv 5) pa_nil)))) (pa_cons (pv 1) pa_nil))))) pa_nil)))
      (pss_one (ps_ret (pe_ifExp (pt_cmpR (op_eqD hr.units) (pv 4) (pe_op op_repA (pe_slice sl_tupN (pv 4) po_none (po_some pe_int)) (pe_callB call_len_seq (by rfl) T.z_len PySem.boot_len (pa_cons (pv 4) pa_nil))) (nomark _)) (pe_ix ix_tup (pv 4) pe_int (fun _ _ => rfl)) (pe_op op_catN (pe_tupN (pa_cons pe_str (pa_cons (pv 2) pa_nil))) (pv 4))))))))),
      (sSeq (sIfS (sTest (sOp roEq (sOp roIxT sVar sInt) sStr)) (sRet sVar) sNext)
      (sSeq (sAsg (sCB rcMinL (sCons (sCall (sCons sVar sNil)) sNil)) sName)
      (sSeq (sAsg (sCB rcRng1 (sCons (sCall (sCons sVar (sCons sVar sNil))) sNil)) sName)
      (sSeq (sAsg (sCB rcTuple (sCons (sLc (siRngV sVar) (gwName List.mem_cons_self) (fun _ _ _ => sName) (fun _ _ _ => sYes) (fun _ _ _ => (sCall (sCons (sCall (sCons sVar (sCons sVar (sCons sVar sNil)))) (sCons sVar sNil))))) sNil)) sName)
      (sRet (sIf (sTest (sOp roEqD sVar (sOp roRepT (sSlT sVar sNoPart (sPart sInt)) (sCB rcLen (sCons sVar sNil))))) (sOp roIxT sVar sInt) (sOp roCatT (sTup (sCons sStr (sCons sVar sNil))) sVar)))))))⟩) (fun ds μ Φ Ψ h => ?hv)
  case hv =>
    obtain ⟨ws, oc, ps, t, rfl, hw, ht, hd, hl, hp, hps, hn, h8, h⟩ := h
    cases t with
    | tell o =>
      rw [qD]
      refine seq_cut fun M hM => ?_
      walk_at "wp"
      exact ⟨ret_same h, fun z => absurd trivial z⟩
    | look p ts =>
      have hne : qPl (.look p ts) ≠ [] := by rw [qPl]; simp
      have hmem := qMin_mem hne
      have hql : qDep (.look p ts) < 21 := by omega
      refine seq_cut fun M hM => ?_
      rw [qD]
      walk_at "wp"
      refine ⟨fun z => absurd z (by decide), fun _ => ?_⟩
      rw [show D.tup (.str "look" :: .int (p : Int) :: qDs ts) = qD (.look p ts) from rfl]
      rw [hM]; clear hM M
      refine seq_cut fun M hM => ?_
      walk_at "wp"
      refine ⟨ws, oc, .look p ts, rfl, ht, by omega, by omega, (qPl (.look p ts)).map fun (n : Nat) => (n : Int), by rw [nI_ints]; exact .lst _, rfl, by simpa using hne, fun m hm hmin => ?_⟩
      obtain rfl : m = ((qMin (qPl (.look p ts)) : Nat) : Int) := by
        obtain ⟨q, hq, rfl⟩ := List.mem_map.mp hm
        rw [qMin_eq hq fun z hz => by have := hmin (z : Int) (List.mem_map.mpr ⟨z, hz, rfl⟩); omega]
      generalize hmm : qMin (qPl (.look p ts)) = m at *
      rw [hM]; clear hM M
      refine seq_cut fun M hM => ?_
      walk_at "wp"
      refine ⟨ws, m, rfl, hw, _, rfl, fun r hr => ?_⟩
      rw [hM]; clear hM M
      refine seq_cut fun M hM => ?_
      walk_at "wp"
      have hw1 := hw.wd1 m
      refine ⟨r, 0, _, rfl, sset_same, by omega, ?_⟩
      rw [show ((wd ws m : Int) - 0).toNat = wd ws m by omega]
      refine lcG_mapN (fun i => qD (qSt ws 300 (qFx m i (.look p ts)))) (by rw [rngD_len]; omega) (fun i d μ2 X hi hsub hx => ?_) ?_
      · obtain ⟨hj, rfl⟩ := rngD_get hi
        have hlt := qFx_lt hj _ ht hmem
        walk_at "wps"
        refine ⟨ws, oc, m, i, .look p ts, rfl, ht, hw, hj, by omega, ?_⟩
        refine ⟨ws, oc, ps.filter (· ≠ m), qFx m i (.look p ts), rfl, hw, qFx_ok hj _ ht, by have := qFx_dep _ ht hj; omega, by omega, fun q hq => ?_, hps.filter _, ?_, by have := List.length_filter_le (fun x => decide (x ≠ m)) ps; omega, hx⟩
        · obtain ⟨h1, h2⟩ := qFx_pl hj _ ht q hq
          exact List.mem_filter.mpr ⟨hp q h1, by simpa using h2⟩
        · have : (ps.filter (· ≠ m)).length < ps.length := by
            refine Nat.lt_of_le_of_ne (List.length_filter_le _ _) fun z => ?_
            have := List.length_filter_eq_length_iff.mp z m (hp m hmem)
            simp at this
          omega
      rw [rngD_len]
      generalize hparts : ((List.range (wd ws m)).map fun i => qSt ws 300 (qFx m i (.look p ts))) = parts
      have ep : ((List.range (wd ws m)).map fun i => qD (qSt ws 300 (qFx m i (.look p ts)))) = qDs parts := by rw [qDs_map, ← hparts, List.map_map]; rfl
      have hpl : parts.length = wd ws m := by rw [← hparts, List.length_map, List.length_range]
      have hj : qSt ws 300 (.look p ts) = joinP m parts := by
        rw [show (300 : Nat) = 299 + 1 from rfl, qSt, hmm, ← hparts]
        congr 1
        refine List.map_congr_left fun i hi => ?_
        have hi := List.mem_range.mp hi
        have hlt := qFx_lt hi _ ht hmem
        exact qSt_fuel hw 299 300 _ (qFx_ok hi _ ht) (by omega) (by omega)
      have hdp : ∀ s ∈ parts, qDep s ≤ 8 := fun s hs => by
        rw [← hparts] at hs
        obtain ⟨i, hi, rfl⟩ := List.mem_map.mp hs
        have hi := List.mem_range.mp hi
        have hlt := qFx_lt hi _ ht hmem
        obtain ⟨a, b, _⟩ := qSt_ok hw 300 _ 0 (qFx_ok hi _ ht) (by omega) fun _ _ => Nat.zero_le _
        have := (a.small hw _ hps fun q hq => hp q (qFx_pl hi _ ht q (b q hq)).1).2
        omega
      rw [ep]
      refine ⟨_, .lst _, ?_⟩
      have e2 : (qDs parts).length = wd ws m := by rw [qDs_len, hpl]
      rw [hM]; clear hM M
      walk_at "wp"
      obtain ⟨b, l, rfl⟩ : ∃ b l, parts = b :: l := by
        cases parts with
        | nil => simp at hpl; omega
        | cons b l => exact ⟨b, l, rfl⟩
      have ec : DW.cutD (qDs (b :: l)) none (some 1) = [qD b] := by rw [show (1 : Int) = ((1 : Nat) : Int) from rfl, cut_to]; rfl
      have er : (List.replicate (qDs (b :: l)).length [qD b]).flatten = qDs (List.replicate (b :: l).length b) := by
        rw [qDs_len, qDs_map, List.map_replicate]
        induction (b :: l).length with
        | zero => rfl
        | succ n ih => rw [List.replicate_succ, List.flatten_cons, ih, List.replicate_succ]; rfl
      rw [ec, er]
      have side : ∀ ss : List QT, (∀ s ∈ ss, qDep s ≤ 8) → EqSide (.tup (qDs ss)) := fun ss hs => ⟨by rw [eqOk]; exact eqOk_qs ss, by rw [dpt]; have := dpts_q ss; have := qdeps_bound ss hs; omega⟩
      refine ⟨by omega, by omega, by rw [List.length_singleton]; omega, side _ hdp, side _ fun s hs => hdp s (by rw [List.eq_of_mem_replicate hs]; exact List.mem_cons_self), ?_⟩
      rw [eqD_qs]
      refine ⟨_, rfl, fun q => ?_, fun q => ?_⟩
      · have q := @of_decide_eq_true _ (_) q
        have hall : ∀ s ∈ b :: l, s = b := fun s hs => by rw [q] at hs; exact List.eq_of_mem_replicate hs
        refine ⟨qD b, by rw [qDs]; exact atI_nat (j := 0) rfl, μ, Sub.set Sub.refl hr, ?_⟩
        rw [hj] at h
        unfold joinP at h
        rw [if_pos (by exact hall)] at h
        exact h
      · have q := @of_decide_eq_false _ (_) q
        refine ⟨by omega, by omega, μ, Sub.set Sub.refl hr, ?_⟩
        rw [hj] at h
        unfold joinP at h
        rw [if_neg (show ¬ ∀ q ∈ b :: l, q = (b :: l).headD (.tell 0) from fun z => q (List.eq_replicate_iff.mpr ⟨rfl, z⟩))] at h
        exact h
end
section
variable {P : Program} {w : World} {K : Fg} {mg : Str → Option Value} {base : Heap}
section
variable {P : Program} {w : World} {K : Fg} {mg : Str → Option Value} {base : Heap}
theorem okN_settled_part (T : Txt P w K mg) : ∀ n, FnOk P w K mg base (L2N.CX P w) (31 + n) T.f_settled_part T.d_settled_part ["term", "widths"] (spOf K (c_settled_part n))
  | 0 => fn_never fun ds μ Φ Ψ h => by obtain ⟨_, _, _, _, _, _, _, _, _, _, _, h, _⟩ := h; omega
  | n + 1 => step_settled_part T (k := 31 + n) (by omega) n (okN_settled_part T n)
theorem ok_settled_part (T : Txt P w K mg) : FnOk P w K mg base (L2N.CX P w) 60 T.f_settled_part T.d_settled_part ["term", "widths"] (spOf K (c_settled_part 9)) := (okN_settled_part T 9).mono (by decide)
end
def c_settled_term (C : Addr) : Con := fun ds μ Φ _ => ∃ (ws : List Int) (oc : Nat) (ps : List Nat) (t : QT), ds = [qO C t ws oc] ∧ QFit ws oc ps t ∧ Φ (qD (qSt ws 300 t)) μ
theorem len_settled_term {C ds μ Φ Ψ} (h : c_settled_term C ds μ Φ Ψ) : ds.length = 1 := by obtain ⟨_, _, _, _, rfl, _⟩ := h; rfl
theorem ok_settled_term (T : Txt P w K mg) : FnOk P w K mg base (L2N.CX P w) 61 T.f_settled_term T.d_settled_term ["query"] (spOf K (c_settled_term T.c_Query)) := by
  refine def_okC T.F_settled_term sc_settled_term _ (fun ds μ Φ Ψ h => len_settled_term h) (fun cdv A outer s H E B hW hr =>
    have tk : L2N.Takes (cxOf (L2N.CX P w) P w K mg base N_settled_term "settled_term" (defScope s_settled_term) T.f_settled_term cdv A outer s H E) (fun cls d _ H => E cls d H) := L2N.takes_of rfl rfl rfl rfl
    ⟨_, (pss_one (ps_ret (pe_call (ok_settled_part T) hr rfl T.g_settled_part T.F_settled_part.kp T.b_settled_part .nil passN (pa_cons (pe_fld (pv 0) rfl) (pa_cons (pe_fld (pv 0) rfl) pa_nil))))),
      (sRet (sCall (sCons (sFldO (NS := NS_Query) (i := 0) T.cls_Query T.na_Query_term rfl (by decide) sVar) (sCons (sFldO (NS := NS_Query) (i := 1) T.cls_Query T.na_Query_widths rfl (by decide) sVar) sNil))))⟩) (fun ds μ Φ Ψ h => ?hv)
  case hv =>
    obtain ⟨ws, oc, ps, t, rfl, hq, h⟩ := h
    have e1 : qO T.c_Query t ws oc = D.obj T.c_Query NS_Query [qD t, .tup (ws.map .int), .int (oc : Int)] := rfl
    rw [e1]
    walk_at "wps"
    exact ⟨ws, oc, ps, t, rfl, hq.w, hq.ok, hq.dep, hq.looks, hq.pl, hq.sorted, by have := hq.most; omega, hq.most, ret_same h⟩
theorem QFit.settled {ws : List Int} {oc : Nat} {ps : List Nat} {t : QT} (h : QFit ws oc ps t) : IsS ws oc 0 (qSt ws 300 t) ∧ QFit ws oc ps (qSt ws 300 t) ∧ ∀ f : Nat → Nat, (∀ p, f p < wd ws p) → qA f (qSt ws 300 t) = qA f t := by
  obtain ⟨a, b, c⟩ := qSt_ok h.w 300 t 0 h.ok h.looks fun _ _ => Nat.zero_le _
  obtain ⟨d1, d2⟩ := a.small h.w _ h.sorted fun q hq => h.pl q (b q hq)
  have := h.few
  have := h.most
  exact ⟨a, ⟨h.w, h.o1, h.o4, IsS.ok _ a, h.sorted, h.most, h.few, fun q hq => h.pl q (b q hq), by omega, by omega⟩, c⟩
def c_settle_query (C : Addr) : Con := fun ds μ Φ _ => ∃ (ws : List Int) (oc : Nat) (ps : List Nat) (t : QT), ds = [qO C t ws oc] ∧ QFit ws oc ps t ∧ Φ (qO C (qSt ws 300 t) ws oc) μ
theorem len_settle_query {C ds μ Φ Ψ} (h : c_settle_query C ds μ Φ Ψ) : ds.length = 1 := by obtain ⟨_, _, _, _, rfl, _⟩ := h; rfl
theorem ok_settle_query (T : Txt P w K mg) : FnOk P w K mg base (L2N.CX P w) 62 T.f_settle_query T.d_settle_query ["query"] (spOf K (c_settle_query T.c_Query)) := by
  refine def_okC T.F_settle_query sc_settle_query _ (fun ds μ Φ Ψ h => len_settle_query h) (fun cdv A outer s H E B hW hr =>
    have tk : L2N.Takes (cxOf (L2N.CX P w) P w K mg base N_settle_query "settle_query" (defScope s_settle_query) T.f_settle_query cdv A outer s H E) (fun cls d _ H => E cls d H) := L2N.takes_of rfl rfl rfl rfl
    ⟨_, (pss_one (ps_ret (pe_makeS T.mk_Query (ok_Query___init__ T) (hr.mono (by decide)) rfl T.g_Query T.b_Query___init__ (fun σ => L2N.passAt tk σ) (pa_cons (pe_call (ok_settled_term T) hr rfl T.g_settled_term T.F_settled_term.kp T.b_settled_term .nil passN (pa_cons (pv 0) pa_nil)) (pa_cons (pe_fld (pv 0) rfl) (pa_cons (pe_fld (pv 0) rfl) pa_nil)))))),
      (sRet (sMakeSW (W := fun cls d _ H => E cls d H) (by exact hW) (sCons (sCall (sCons sVar sNil)) (sCons (sFldO (NS := NS_Query) (i := 1) T.cls_Query T.na_Query_widths rfl (by decide) sVar) (sCons (sFldO (NS := NS_Query) (i := 2) T.cls_Query T.na_Query_outcomes rfl (by decide) sVar) sNil)))))⟩) (fun ds μ Φ Ψ h => ?hv)
  case hv =>
    obtain ⟨ws, oc, ps, t, rfl, hq, h⟩ := h
    have e1 : qO T.c_Query t ws oc = D.obj T.c_Query NS_Query [qD t, .tup (ws.map .int), .int (oc : Int)] := rfl
    rw [e1]
    obtain ⟨hs, hfit, _⟩ := hq.settled
    walk_at "wps"
    refine ⟨ws, oc, ps, t, rfl, hq, fun x hx => ?_⟩
    refine ⟨x, ws, oc, ps, _, rfl, sset_same, hfit, rfl, NS_Query, _, sset_same, ?_⟩
    rw [sset_sset, sdel_sset hx]
    exact ret_same h
structure StC (ns : List Int) (c : List D) : Prop where
  ex : ∃ seed idx rest : Int, c = [.int seed, .lst (ns.map .int), .int idx, .int rest] ∧ 0 ≤ seed ∧ seed < 2147483647 ∧ 0 ≤ idx ∧ 0 ≤ rest
def c__law_pick : Con := fun ds μ Φ _ => ∃ st ns c n, ds = [.hd (.ref st), .int n] ∧ μ st = some (.lst c) ∧ StC ns c ∧ 0 < n ∧ n.natAbs.log2 < 9000 ∧ ∀ r c', 0 ≤ r → r < n → StC ns c' → Φ (.int r) (sset μ st (.lst c'))
theorem len__law_pick {ds μ Φ Ψ} (h : c__law_pick ds μ Φ Ψ) : ds.length = 2 := by obtain ⟨i, _, _, _, rfl, _⟩ := h; rfl
theorem pick_cell {ns : List Int} {idx : Int} {P : D → Prop} (h0 : 0 ≤ idx) (h1 : idx < ns.length) (k : ∀ z, P (.int z)) : ∃ d, atI (ns.map D.int) idx = some d ∧ P d := by
  obtain ⟨j, rfl⟩ : ∃ j : Nat, idx = (j : Int) := ⟨idx.toNat, by omega⟩
  have hj : j < ns.length := by omega
  exact ⟨.int ns[j], atI_nat (by rw [List.getElem?_map, List.getElem?_eq_getElem hj]; rfl), k _⟩
theorem ok__law_pick {cx : CXT} (T : Txt P w K mg) : FnOk P w K mg base cx 1 T.f__law_pick T.d__law_pick ["_law_state", "_law_limit"] (spOf K c__law_pick) := by
  refine def_okC T.F__law_pick sc__law_pick _ (fun ds μ Φ Ψ h => len__law_pick h) (fun cdv A outer s H E B hW hr =>
    ⟨_, (pss_cons (ps_if (pt_cmpR op_ge (pe_ix ix_list (pv 0) pe_int (fun _ _ => rfl)) (pv 1) (nomark _)) (pss_cons (ps_set (i := 4) sc__law_pick.nd rfl (Or.inl rfl) (pe_callTy call_int1 (by rfl) T.z_int (by decide +kernel) (pa_cons (pe_ix ix_list (pv 0) pe_int (fun _ _ => rfl)) pa_nil)))
      (pss_cons (ps_asg (pe_op op_fdivW (pv 4) (pv 1)) (pg_sub (pv 0) pe_int set_list))
      (pss_one (ps_ret (pe_op op_mod (pv 4) (pv 1)))))) pss_nil)
      (pss_cons (ps_set (i := 2) sc__law_pick.nd rfl (Or.inl rfl) pe_int)
      (pss_cons (ps_if (pt_cmpR op_lt (pe_ix ix_list (pv 0) pe_int (fun _ _ => rfl)) (pe_callB call_len_seq (by rfl) T.z_len PySem.boot_len (pa_cons (pe_ix ix_list (pv 0) pe_int (fun _ _ => rfl)) pa_nil)) (nomark _)) (pss_cons (ps_set (i := 2) sc__law_pick.nd rfl (Or.inl rfl) (pe_callTy call_int1 (by rfl) T.z_int (by decide +kernel) (pa_cons (pe_ix ix_list (pe_ix ix_list (pv 0) pe_int (fun _ _ => rfl)) (pe_ix ix_list (pv 0) pe_int (fun _ _ => rfl)) (fun _ _ => rfl)) pa_nil)))
      (pss_cons (ps_asg (pe_op op_add (pe_ix ix_list (pv 0) pe_int (fun _ _ => rfl)) pe_int) (pg_sub (pv 0) pe_int set_list))
      (pss_cons (ps_if (pt_cmpR op_lt (pv 2) pe_int (nomark _)) (pss_one (ps_set (i := 2) sc__law_pick.nd rfl (Or.inl rfl) (pe_op op_sub pe_int (pv 2)))) pss_nil)
      (pss_one (ps_if (pt_cmpR op_ge (pv 2) (pe_op op_pow pe_int pe_int) (nomark _)) (pss_cons (ps_asg (pe_op op_fdivW (pv 2) (pv 1)) (pg_sub (pv 0) pe_int set_list))
      (pss_one (ps_ret (pe_op op_mod (pv 2) (pv 1))))) pss_nil))))) pss_nil)
      (pss_cons (ps_set (i := 3) sc__law_pick.nd rfl (Or.inl rfl) (pe_op op_mod (pe_op op_mulX (pe_op op_add (pe_op op_add (pe_callTy call_int1 (by rfl) T.z_int (by decide +kernel) (pa_cons (pe_ix ix_list (pv 0) pe_int (fun _ _ => rfl)) pa_nil)) (pe_op op_mod (pv 2) pe_int)) pe_int) pe_int) pe_int))
      (pss_cons (ps_asg (pe_op op_mod (pe_op op_add (pe_op op_mulX (pv 3) pe_int) pe_int) pe_int) (pg_sub (pv 0) pe_int set_list))
      (pss_one (ps_ret (pe_op op_mod (pe_op op_fdivW (pe_callTy call_int1 (by rfl) T.z_int (by decide +kernel) (pa_cons (pe_ix ix_list (pv 0) pe_int (fun _ _ => rfl)) pa_nil)) pe_int) (pv 1))))))))),
      (sSeq (sIfS (sTest (sOp roBl0 (sOp roIxL sVar sInt) sVar)) (sSeq (sAsg (sCB rcInt (sCons (sOp roIxL sVar sInt) sNil)) sName)
      (sSeq (sAsgS (sOp roInt sVar sVar) sVar sInt)
      (sRet (sOp roInt sVar sVar)))) sNext)
      (sSeq (sAsg sInt sName)
      (sSeq (sIfS (sTest (sOp roBl0 (sOp roIxL sVar sInt) (sCB rcLen (sCons (sOp roIxL sVar sInt) sNil)))) (sSeq (sAsg (sCB rcInt (sCons (sOp roIxL (sOp roIxL sVar sInt) (sOp roIxL sVar sInt)) sNil)) sName)
      (sSeq (sAsgS (sOp roInt0 (sOp roIxL sVar sInt) sInt) sVar sInt)
      (sSeq (sIfS (sTest (sOp roBl0 sVar sInt)) (sAsg (sOp roInt0 sInt sVar) sName) sNext)
      (sIfS (sTest (sOp roBl0 sVar (sOp roInt sInt sInt))) (sSeq (sAsgS (sOp roInt sVar sVar) sVar sInt)
      (sRet (sOp roInt sVar sVar))) sNext)))) sNext)
      (sSeq (sAsg (sOp roInt (sOp roInt (sOp roInt0 (sOp roInt0 (sCB rcInt (sCons (sOp roIxL sVar sInt) sNil)) (sOp roInt sVar sInt)) sInt) sInt) sInt) sName)
      (sSeq (sAsgS (sOp roInt (sOp roInt0 (sOp roInt sVar sInt) sInt) sInt) sVar sInt)
      (sRet (sOp roInt (sOp roInt (sCB rcInt (sCons (sOp roIxL sVar sInt) sNil)) sInt) sVar)))))))⟩) (fun ds μ Φ Ψ h => ?hv)
  case hv =>
    obtain ⟨st, ns, c, n, rfl, hc, ⟨seed, idx, rest, rfl, h1, h2, h3, h4⟩, hn, hl, h⟩ := h
    have hmod : ∀ a : Int, 0 ≤ a % n ∧ a % n < n := fun a => ⟨Int.emod_nonneg _ (by omega), Int.emod_lt_of_pos _ hn⟩
    have hM : ∀ a : Int, 0 ≤ a % 2147483647 ∧ a % 2147483647 < 2147483647 := fun a => ⟨Int.emod_nonneg _ (by omega), Int.emod_lt_of_pos _ (by omega)⟩
    -- what stands at the end, whatever the cell is
    have tail : ∀ (μ' : Sto) (cell idx' : Int) (x4 : Option D), (∀ c', sset μ' st (.lst c') = sset μ st (.lst c')) → μ' st = some (.lst [.int seed, .lst (ns.map .int), .int idx', .int rest]) → 0 ≤ idx' → (dSeq
      (dAsg
        (dOp (oI (fun x j => 0 < j) fun i j => D.int (i % j))
          (dOp (oI CMulX fun i j => D.int (i * j))
            (dOp (oI0 fun i j => D.int (i + j))
              (dOp (oI0 fun i j => D.int (i + j)) (dCB cInt (dCons (dOp oIxL (dVar 0) (dC (D.int 0))) dNil))
                (dOp (oI (fun x j => 0 < j) fun i j => D.int (i % j)) (dVar 2) (dC (D.int 2147483647))))
              (dC (D.int 1)))
            (dC (D.int 48271)))
          (dC (D.int 2147483647)))
        (eName 3))
      (dSeq
        (dAsgS
          (dOp (oI (fun x j => 0 < j) fun i j => D.int (i % j))
            (dOp (oI0 fun i j => D.int (i + j)) (dOp (oI CMulX fun i j => D.int (i * j)) (dVar 3) (dC (D.int 69621)))
              (dC (D.int 12345)))
            (dC (D.int 2147483647)))
          (dVar 0) (dC (D.int 0)))
        (dRet
          (dOp (oI (fun x j => 0 < j) fun i j => D.int (i % j))
            (dOp (oI CDivW fun i j => D.int (i / j)) (dCB cInt (dCons (dOp oIxL (dVar 0) (dC (D.int 0))) dNil))
              (dC (D.int 7)))
            (dVar 1))))) (goalX Ψ) (goalE Φ) [some (.hd (.ref st)), some (.int n), some (.int cell), none, x4] μ' := by
      intro μ' cell idx' x4 hs hc' hi'
      have b1 := hM cell
      have b2 := hM ((seed + cell % 2147483647 + 1) * 48271)
      have b3 := hM ((seed + cell % 2147483647 + 1) * 48271 % 2147483647 * 69621 + 12345)
      clear hM hc
      walk_at "wps"
      simp only [hc']
      walk_at "wp"
      simp only [hc']
      walk_at "wp"
      refine ⟨by decide, mulx 33 17 (by omega) (by decide) (by decide), by decide, mulx 31 18 (by omega) (by decide) (by decide), by decide, wide_div (b := 3) (by decide) (by decide) (by decide) (by decide), hn, ?_⟩
      rw [hs]
      exact ret_same (h _ _ (hmod _).1 (hmod _).2 ⟨_, _, _, rfl, b3.1, b3.2, hi', h4⟩)
    refine q_seq fun nx hnx => ?_
    walk_at "wp"
    simp only [hc]
    walk_at "wp"
    refine ⟨fun c1 => ?_, fun c1 => ?_⟩
    · walk_at "wps"
      simp only [hc]
      walk_at "wp"
      simp only [hc]
      walk_at "wp"
      exact ⟨⟨hn, hl⟩, hn, ret_same (h _ _ (hmod _).1 (hmod _).2 ⟨_, _, _, rfl, h1, h2, h3, Int.ediv_nonneg h4 (by omega)⟩)⟩
    · subst hnx
      refine q_seq fun nx hnx => ?_
      walk_at "wp"
      subst hnx
      refine q_seq fun nx hnx => ?_
      walk_at "wp"
      simp only [hc]
      walk_at "wp"
      refine ⟨fun c2 => ?_, fun c2 => ?_⟩
      · refine q_seq fun nx2 hnx2 => ?_
        walk_at "wp"
        simp only [hc]
        walk_at "wp"
        refine pick_cell h3 c2 fun z => ?_
        walk_at "wp"
        subst hnx2
        refine q_seq fun nx2 hnx2 => ?_
        walk_at "wp"
        simp only [hc]
        walk_at "wp"
        simp only [hc]
        walk_at "wp"
        subst hnx2
        have hc2 : sset μ st (.lst [.int seed, .lst (ns.map .int), .int (idx + 1), .int rest]) st = some (.lst [.int seed, .lst (ns.map .int), .int (idx + 1), .int rest]) := sset_same
        have fin : ∀ z : Int, 0 ≤ z → dIfS (dTest (dOp (oI0 fun i j => D.bl (decide (j ≤ i))) (dVar 2) (dOp (oI CPow fun i j => D.int (i ^ j.toNat)) (dC (D.int 10)) (dC (D.int 18))))) (dSeq (dAsgS (dOp (oI CDivW fun i j => D.int (i / j)) (dVar 2) (dVar 1)) (dVar 0) (dC (D.int 3))) (dRet (dOp (oI (fun x j => 0 < j) fun i j => D.int (i % j)) (dVar 2) (dVar 1)))) dNext
            (goalX Ψ) ⟨nx, (goalE Φ).rt, (goalE Φ).bk, (goalE Φ).ct⟩ [some (.hd (.ref st)), some (.int n), some (.int z), none, none] (sset μ st (.lst [.int seed, .lst (ns.map .int), .int (idx + 1), .int rest])) := by
          intro z hz
          walk_at "wp"
          refine ⟨⟨by decide, by decide, by decide⟩, fun c3 => ?_, fun c3 => ?_⟩
          · walk_at "wps"
            exact ⟨⟨hn, hl⟩, hn, ret_same (h _ _ (hmod _).1 (hmod _).2 ⟨_, _, _, rfl, h1, h2, by omega, Int.ediv_nonneg hz (by omega)⟩)⟩
          · subst hnx
            exact tail _ z (idx + 1) none (fun c' => sset_sset) sset_same (by omega)
        refine q_seq fun nx2 hnx2 => ?_
        walk_at "wp"
        subst hnx2
        refine ⟨fun c3 => ?_, fun c3 => ?_⟩
        · exact fin _ (by omega)
        · exact fin _ (by omega)
      · subst hnx
        exact tail μ 11 idx none (fun _ => rfl) hc h3
def c__law_start : Con := fun ds μ Φ _ => ∃ ns, ds = [.scr ns] ∧ ns.length ≤ 63 ∧ ∀ p c, μ p = none → StC ns c → Φ (.hd (.ref p)) (sset μ p (.lst c))
theorem len__law_start {ds μ Φ Ψ} (h : c__law_start ds μ Φ Ψ) : ds.length = 1 := by obtain ⟨i, rfl, _⟩ := h; rfl
theorem ok__law_start {cx : CXT} (T : Txt P w K mg) : FnOk P w K mg base cx 1 T.f__law_start T.d__law_start ["_law_script"] (spOf K c__law_start) := by
  refine def_okC T.F__law_start sc__law_start _ (fun ds μ Φ Ψ h => len__law_start h) (fun cdv A outer s H E B hW hr =>
    ⟨_, (pss_cons (ps_set (i := 1) sc__law_start.nd rfl (Or.inl rfl) pe_int)
      (pss_cons (ps_for (passes_of rfl) rfl (pi_range1 rfl T.z_range (pa_cons (pe_callB call_len_seq (by rfl) T.z_len PySem.boot_len (pa_cons (pv 0) pa_nil)) pa_nil)) (pg_name (i := 2) sc__law_start.nd rfl (Or.inl rfl)) (pss_one (ps_set (i := 1) sc__law_start.nd rfl (Or.inl rfl) (pe_op op_mod (pe_op op_add (pe_op op_add (pe_op op_add (pe_op op_mulX (pv 1) pe_int) (pe_op op_mod (pe_callTy call_int1 (by rfl) T.z_int (by decide +kernel) (pa_cons (pe_ix ix_list (pv 0) (pv 2) (fun _ _ => rfl)) pa_nil)) pe_int)) (pv 2)) pe_int) pe_int))))
      (pss_one (ps_ret (pe_lst (pa_cons (pv 1) (pa_cons (pe_callTy call_list_of (by rfl) T.z_list (by decide +kernel) (pa_cons (pv 0) pa_nil)) (pa_cons pe_int (pa_cons pe_int pa_nil))))))))),
      (sSeq (sAsg sInt sName)
      (sSeq (sFor (siR1 (sCB rcLen (sCons sVar sNil))) (fun _ _ _ => sName) (fun _ _ _ => (sAsg (sOp roInt (sOp roInt0 (sOp roInt0 (sOp roInt0 (sOp roInt sVar sInt) (sOp roInt (sCB rcInt (sCons (sOp roIxL sVar sVar) sNil)) sInt)) sVar) sInt) sInt) sName)))
      (sRet (sOwn (sCons sVar (sCons (sCB rcList (sCons sVar sNil)) (sCons sInt (sCons sInt sNil))))))))⟩) (fun ds μ Φ Ψ h => ?hv)
  case hv =>
    obtain ⟨ns, rfl, hl, h⟩ := h
    have hM : ∀ a : Int, 0 ≤ a % 2147483647 ∧ a % 2147483647 < 2147483647 := fun a => ⟨Int.emod_nonneg _ (by omega), Int.emod_lt_of_pos _ (by omega)⟩
    walk_at "wps"
    refine ⟨by omega, by omega, fun i δ' μ' => μ' = μ ∧ ∃ seed x, 0 ≤ seed ∧ seed < 2147483647 ∧ δ' = [some (.scr ns), some (.int seed), x], ⟨rfl, 7, none, by omega, by omega, rfl⟩, ?_, ?_⟩
    · rintro i d δ' μ' hi ⟨rfl, seed, x, h1, h2, rfl⟩
      obtain ⟨hj, rfl⟩ := rngD_get hi
      walk_at "wps"
      refine ⟨mulx 31 17 (by omega) (by decide) (by decide), .int ns[i], ?_, ?_⟩
      · exact atI_nat (by rw [List.getElem?_map, List.getElem?_eq_getElem hj]; rfl)
      · walk_at "wps"
        exact ⟨by decide, by decide, _, _, (hM _).1, (hM _).2, rfl⟩ -- (hM _).1, (hM _).2, rfl⟩
    · rintro δ' μ' ⟨rfl, seed, x, h1, h2, rfl⟩
      walk_at "wps"
      exact ⟨by decide, fun p hp => ret_same (h p _ hp ⟨seed, 0, 0, rfl, h1, h2, by omega, by omega⟩)⟩
theorem log_small {n : Nat} (h : n ≤ 8000) : (n : Int).natAbs.log2 < 9000 := by rw [Int.natAbs_natCast]; have := Nat.log2_le_self n; omega
theorem lcP {Ψ : XP} {Φ : DK} {n : Nat} {φ : DE} {δw : DEnv} {μ1 : Sto} {m : Nat} {st : Addr} {ns : List Int} {c : List D} (Pd : Nat → Int → Prop) (hm : m ≤ 1000) (hst : μ1 st = some (.lst c)) (h0 : StC ns c)
    (hs : ∀ (i : Nat) (μ2 : Sto) (X : DK) (c : List D), i < m → μ2 st = some (.lst c) → StC ns c → (∀ (y : Int) c', StC ns c' → Pd i y → X (.int y) (sset μ2 st (.lst c'))) → φ Ψ (δw.set n (some (.int (i : Int)))) μ2 X)
    (hd : ∀ (l : List Int) c, l.length = m → (∀ (i : Nat) (h : i < l.length), Pd i l[i]) → StC ns c → Φ (.lst (l.map .int)) (sset μ1 st (.lst c))) : LcG (eName n) dYes φ δw Ψ (rngD 0 m) μ1 Φ := by
  refine lcG_drawN (StC ns) (fun i acc => ∃ l : List Int, acc = l.map .int ∧ l.length = i ∧ ∀ (j : Nat) (h : j < l.length), Pd j l[j]) (by rw [rngD_len]; omega) hst h0 ⟨[], rfl, rfl, fun j h => by simp at h⟩ (fun i d μ2 X acc c2 hi hs2 sc ⟨l, e, hl, hP⟩ hla hx => ?_) (fun acc c2 ⟨l, e, hl, hP⟩ hla sc => ?_)
  · obtain ⟨hj, rfl⟩ := rngD_get hi
    rw [Int.zero_add]
    refine hs i μ2 X c2 hj hs2 sc fun y c' sc' hy => hx _ c' sc' ⟨l ++ [y], by rw [e, List.map_append]; rfl, by rw [List.length_append, hl]; rfl, fun j h => ?_⟩
    by_cases z : j < l.length
    · rw [List.getElem_append_left z]; exact hP j z
    · rw [List.length_append, List.length_singleton] at h
      have : j = l.length := by omega
      subst this
      rw [List.getElem_append_right (Nat.le_refl _)]
      simp only [Nat.sub_self, List.getElem_cons_zero]
      rw [hl]; exact hy
  · rw [rngD_len] at hl
    rw [e]
    exact hd l c2 hl hP sc
theorem all_of_get {l : List Int} {P : Int → Prop} (h : ∀ (i : Nat) (h : i < l.length), P l[i]) : ∀ x ∈ l, P x := fun x hx => by
  obtain ⟨i, hi, rfl⟩ := List.mem_iff_getElem.mp hx
  exact h i hi
def c__law_width : Con := fun ds μ Φ _ => ∃ (ws : List Int) (p : Nat), ds = [.tup (ws.map .int), .int (p : Int)] ∧ WsOk ws ∧ Φ (.int (wd ws p : Int)) μ
theorem len__law_width {ds μ Φ Ψ} (h : c__law_width ds μ Φ Ψ) : ds.length = 2 := by obtain ⟨i, _, rfl, _⟩ := h; rfl
theorem ok__law_width {cx : CXT} (T : Txt P w K mg) : FnOk P w K mg base cx 1 T.f__law_width T.d__law_width ["_law_widths_here", "_law_place"] (spOf K c__law_width) := by
  refine def_okC T.F__law_width sc__law_width _ (fun ds μ Φ Ψ h => len__law_width h) (fun cdv A outer s H E B hW hr =>
    ⟨_, (pss_one (ps_ret (pe_ix ix_tup (pv 0) (pe_op op_mod (pe_callTy call_int1 (by rfl) T.z_int (by decide +kernel) (pa_cons (pv 1) pa_nil)) (pe_callB call_len_seq (by rfl) T.z_len PySem.boot_len (pa_cons (pv 0) pa_nil))) (fun _ _ => rfl)))),
      (sRet (sOp roIxT sVar (sOp roInt (sCB rcInt (sCons sVar sNil)) (sCB rcLen (sCons sVar sNil)))))⟩) (fun ds μ Φ Ψ h => ?hv)
  case hv =>
    obtain ⟨ws, p, rfl, hw, h⟩ := h
    have h0 := hw.l0
    obtain ⟨x, hx, e, x1, x2⟩ := hw.at_ p
    walk_at "wps"
    have em : (p : Int) % (ws.length : Int) = ((p % ws.length : Nat) : Int) := rfl
    rw [em]
    refine ⟨by omega, _, atI_nat (v := .int x) (by rw [List.getElem?_map, hx]; rfl), ret_same ?_⟩
    rw [e]; exact h
def c__law_widths : Con := fun ds μ Φ _ => ∃ st ns c, ds = [.hd (.ref st)] ∧ μ st = some (.lst c) ∧ StC ns c ∧ ∀ ws c', WsOk ws → StC ns c' → Φ (.tup (ws.map .int)) (sset μ st (.lst c'))
theorem len__law_widths {ds μ Φ Ψ} (h : c__law_widths ds μ Φ Ψ) : ds.length = 1 := by obtain ⟨_, _, _, rfl, _⟩ := h; rfl
theorem ok__law_widths {cx : CXT} (T : Txt P w K mg) : FnOk P w K mg base cx 2 T.f__law_widths T.d__law_widths ["_law_state"] (spOf K c__law_widths) := by
  refine def_okC T.F__law_widths sc__law_widths _ (fun ds μ Φ Ψ h => len__law_widths h) (fun cdv A outer s H E B hW hr =>
    ⟨_, (pss_cons (ps_set (i := 1) sc__law_widths.nd rfl (Or.inr rfl) (pe_op op_add pe_int (pe_call (ok__law_pick T) hr rfl T.g__law_pick T.F__law_pick.kp T.b__law_pick .nil passN (pa_cons (pv 0) (pa_cons pe_int pa_nil)))))
      (pss_cons (ps_set (i := 2) sc__law_widths.nd rfl (Or.inl rfl) (pe_op op_add pe_int (pe_call (ok__law_pick T) hr rfl T.g__law_pick T.F__law_pick.kp T.b__law_pick .nil passN (pa_cons (pv 0) (pa_cons (pe_ix ix_list (pe_lst (pa_cons pe_int (pa_cons pe_int (pa_cons pe_int pa_nil)))) (pe_call (ok__law_pick T) hr rfl T.g__law_pick T.F__law_pick.kp T.b__law_pick .nil passN (pa_cons (pv 0) (pa_cons pe_int pa_nil))) (fun _ _ => rfl)) pa_nil)))))
      (pss_one (ps_ret (pe_callTy call_tupleN (by rfl) T.z_tuple (by decide +kernel) (pa_cons (pe_lc (own := [("_law_k", 3)]) rfl sc__law_widths.nd (pi_range1 rfl T.z_range (pa_cons (pv 2) pa_nil)) (blkOk_by (N := N__law_widths) (sc := defScope s__law_widths) (by decide +kernel)) (fun _ _ _ _ _ => (pg_name (i := 3) sc__law_widths.nd rfl (Or.inl rfl))) (fun _ _ _ _ _ => pts_nil) (fun _ _ _ _ _ => (pe_op op_add pe_int (pe_call (ok__law_pick T) hr rfl T.g__law_pick T.F__law_pick.kp T.b__law_pick .nil passN (pa_cons (pv 0) (pa_cons (pv 1) pa_nil)))))) pa_nil)))))),
      (sSeq (sAsg (sOp roInt0 sInt (sCall (sCons sVar (sCons sInt sNil)))) sName)
      (sSeq (sAsg (sOp roInt0 sInt (sCall (sCons sVar (sCons (sOp roIxL (sLst (sCons sInt (sCons sInt (sCons sInt sNil)))) (sCall (sCons sVar (sCons sInt sNil)))) sNil)))) sName)
      (sRet (sCB rcTuple (sCons (sLc (siR1 sVar) (gwName List.mem_cons_self) (fun _ _ _ => sName) (fun _ _ _ => sYes) (fun _ _ _ => (sOp roInt0 sInt (sCall (sCons sVar (sCons sVar sNil)))))) sNil)))))⟩) (fun ds μ Φ Ψ h => ?hv)
  case hv =>
    obtain ⟨st, ns, c, rfl, hc, sc, h⟩ := h
    refine seq_cut fun M hM => ?_
    walk_at "wp"
    refine ⟨st, ns, c, 3, rfl, hc, sc, by decide, by decide, fun y c1 y0 y1 sc => ?_⟩
    walk_at "wp"
    obtain ⟨top, ht, t1, t2⟩ : ∃ top : Nat, (2 : Int) + y = (top : Int) ∧ 2 ≤ top ∧ top ≤ 4 := ⟨(2 + y).toNat, by omega, by omega, by omega⟩
    rw [ht, hM]; clear hM M
    refine seq_cut fun M hM => ?_
    walk_at "wp"
    refine ⟨by decide, st, ns, c1, 3, rfl, sset_same, sc, by decide, by decide, fun y c2 y0 y1 sc => ?_⟩
    rw [sset_sset]
    obtain ⟨n, hn, n1, n6⟩ : ∃ m : Nat, atI [D.int 2, D.int 3, D.int 6] y = some (.int m) ∧ 1 ≤ m ∧ m ≤ 6 := by
      obtain ⟨q, rfl⟩ : ∃ q : Nat, y = (q : Int) := ⟨y.toNat, by omega⟩
      rcases (show q = 0 ∨ q = 1 ∨ q = 2 by omega) with rfl | rfl | rfl
      · exact ⟨2, atI_nat (j := 0) rfl, by decide, by decide⟩
      · exact ⟨3, atI_nat (j := 1) rfl, by decide, by decide⟩
      · exact ⟨6, atI_nat (j := 2) rfl, by decide, by decide⟩
    walk_at "wp"
    refine ⟨_, hn, st, ns, c2, n, rfl, sset_same, sc, by omega, log_small (by omega), fun y c3 y0 y1 sc => ?_⟩
    rw [sset_sset]
    obtain ⟨m, hm, m1, m6⟩ : ∃ s : Nat, (1 : Int) + y = (s : Int) ∧ 1 ≤ s ∧ s ≤ 6 := ⟨(1 + y).toNat, by omega, by omega, by omega⟩
    walk_at "wp"
    rw [hm, hM]; clear hM M
    walk_at "wps"
    refine ⟨by omega, by omega, lcP (fun _ y => 1 ≤ y ∧ y ≤ 4) (by omega) sset_same sc (fun i μ2 X c7 hi hs7 sc7 hx7 => ?_) (fun l c7 hl hP sc => ?_)⟩
    · walk_at "wps"
      exact ⟨st, ns, c7, top, rfl, hs7, sc7, by omega, log_small (by omega), fun y c8 y0 y1 sc8 => by walk_at "wps"; exact hx7 (1 + y) c8 sc8 ⟨by omega, by omega⟩⟩
    · rw [sset_sset]
      exact ⟨_, .lst _, ret_same (h l c7 ⟨by omega, by omega, all_of_get hP⟩ sc)⟩
def c__law_is_number : Con := fun ds μ Φ _ => ∃ i m : Int, ds = [.int i, .int m] ∧ Φ (.bl (decide (0 ≤ i ∧ i < m))) μ
theorem len__law_is_number {ds μ Φ Ψ} (h : c__law_is_number ds μ Φ Ψ) : ds.length = 2 := by obtain ⟨i, m, rfl, _⟩ := h; rfl
theorem w__law_is_number {i m μ Φ Ψ} : c__law_is_number [.int i, .int m] μ Φ Ψ = Φ (.bl (decide (0 ≤ i ∧ i < m))) μ := propext ⟨fun ⟨a, b, e, q⟩ => by cases e; exact q, fun q => ⟨i, m, rfl, q⟩⟩
theorem ok__law_is_number {cx : CXT} (T : Txt P w K mg) : FnOk P w K mg base cx 1 T.f__law_is_number T.d__law_is_number ["_law_item", "_law_limit"] (spOf K c__law_is_number) := by
  refine def_okC T.F__law_is_number sc__law_is_number _ (fun ds μ Φ Ψ h => len__law_is_number h) (fun cdv A outer s H E B hW hr =>
    ⟨_, (pss_one (ps_ret (pe_and (pe_callB call_isi (by rfl) T.z_isinstance (by decide +kernel) (pa_cons (pv 0) (pa_cons (pe_bltn (v := .ty "int") rfl T.z_int (by decide +kernel) rfl) pa_nil))) (pe_and (pe_not (pe_callB call_isi (by rfl) T.z_isinstance (by decide +kernel) (pa_cons (pv 0) (pa_cons (pe_bltn (v := .ty "bool") rfl T.z_bool (by decide +kernel) rfl) pa_nil)))) (pe_one (pe_chain op_le op_lt pe_int (pv 0) (pv 1))))))),
      (sRet (sAndV (sCB (rcIsi (T := "int")) (sCons sVar (sCons sHd sNil))) (sAndV (sNotV (sCB (rcIsi (T := "bool")) (sCons sVar (sCons sHd sNil)))) (sChain roBl0 roBl0 sInt sVar sVar))))⟩) (fun ds μ Φ Ψ h => ?hv)
  case hv =>
    obtain ⟨i, m, rfl, h⟩ := h
    walk_at "wps"
    refine ⟨fun h1 => ret_same ?_, fun h1 => ret_same ?_⟩
    · simpa [h1] using h
    · simpa [h1] using h
def c__law_answer (C R : Addr) : Con := fun ds μ Φ _ => ∃ (ws : List Int) (oc : Nat) (ps : List Nat) (t : QT) (r : Rw), ds = [qO C t ws oc, .lst [.tup (r.h.map .int), .tup (r.c.map .int)]] ∧ QFit ws oc ps t ∧ RwOk r ∧ RFit ws r ∧ qA (rF r) t < 4 ∧ Φ (.int (qA (rF r) t : Int)) μ
theorem len__law_answer {C R ds μ Φ Ψ} (h : c__law_answer C R ds μ Φ Ψ) : ds.length = 2 := by obtain ⟨i, _, _, _, _, rfl, _⟩ := h; rfl
theorem ok__law_answer (T : Txt P w K mg) : FnOk P w K mg base (L2N.CX P w) 8 T.f__law_answer T.d__law_answer ["_law_query", "_law_row_here"] (spOf K (c__law_answer T.c_Query T.c_Row)) := by
  refine def_okC T.F__law_answer sc__law_answer _ (fun ds μ Φ Ψ h => len__law_answer h) (fun cdv A outer s H E B hW hr =>
    have tk : L2N.Takes (cxOf (L2N.CX P w) P w K mg base N__law_answer "_law_answer" (defScope s__law_answer) T.f__law_answer cdv A outer s H E) (fun cls d _ H => E cls d H) := L2N.takes_of rfl rfl rfl rfl
    ⟨_, (pss_cons (ps_set (i := 2) sc__law_answer.nd rfl (Or.inl rfl) (pe_callX (i := 0) T.me_Query___call__ T.fn_Query___call__ (ok_Query___call__ T) (hr.mono (by decide)) T.b_Query___call__ (fun σ => L2N.passAt tk σ) rfl (Or.inl rfl) (by exact (pa_cons (pe_makeS T.mk_Row (ok_Row___init__ T) (hr.mono (by decide)) rfl T.g_Row T.b_Row___init__ (fun σ => L2N.passAt tk σ) (pa_cons (pe_ix ix_list (pv 1) pe_int (fun _ _ => rfl)) (pa_cons (pe_ix ix_list (pv 1) pe_int (fun _ _ => rfl)) pa_nil))) pa_nil))))
      (pss_cons (ps_if (pt_not (pt_val (pe_call (ok__law_is_number T) (hr.mono (by decide)) rfl T.g__law_is_number T.F__law_is_number.kp T.b__law_is_number .nil passN (pa_cons (pv 2) (pa_cons pe_int pa_nil))))) (pss_one (ps_ret pe_non)) pss_nil)
      (pss_one (ps_ret (pv 2))))),
      (sSeq (sAsg (sCallX (NS := NS_Query) (W := fun cls d _ H => E cls d H) (by exact hW) (sCons (sMakeSW (W := fun cls d _ H => E cls d H) (by exact hW) (sCons (sOp roIxL sVar sInt) (sCons (sOp roIxL sVar sInt) sNil))) sNil)) sName)
      (sSeq (sIfS (sNot (sB (sCall (sCons sVar (sCons sInt sNil))))) (sRet sNon) sNext)
      (sRet sVar)))⟩) (fun ds μ Φ Ψ h => ?hv)
  case hv =>
    obtain ⟨ws, oc, ps, t, r, rfl, hq, hr, hf, ho, h⟩ := h
    refine seq_cut fun M hM => ?_
    walk_at "wp"
    refine ⟨_, rfl, fun x hx => ⟨x, r.h, r.c, rfl, hr.hl, hr.cl, sset_same, fun z => absurd ⟨hr.c0, fun y hy => (List.mem_append.mp hy).elim (hr.hp y) (hr.cp y)⟩ z, fun _ => ⟨rfl, NSA, _, sset_same, ?_⟩⟩⟩
    rw [sset_sset, sdel_sset hx]
    refine ⟨ws, oc, ps, t, r, rfl, hq, hr, hf, ?_⟩
    rw [hM]; clear hM M
    walk_at "wps"
    simp only [w__law_is_number]
    walk_at "wps"
    rw [decide_eq_true (show 0 ≤ (qA (rF r) t : Int) ∧ (qA (rF r) t : Int) < 4 by omega)]
    walk_at "wps"
    exact ret_same h
end
section
variable {P : Program} {w : World} {K : Fg} {mg : Str → Option Value} {base : Heap}
/-- what the law says of a row: its head and its cycle -/
def sdR (r : Rw) : D := .lst [.tup (r.h.map .int), .tup (r.c.map .int)]
def c__law_row : Con := fun ds μ Φ _ => ∃ (st : Addr) (ns : List Int) (c : List D) (ws : List Int), ds = [.hd (.ref st), .tup (ws.map .int)] ∧ μ st = some (.lst c) ∧ StC ns c ∧ WsOk ws ∧ ∀ r c', RwOk r → RFit ws r → StC ns c' → Φ (sdR r) (sset μ st (.lst c'))
theorem len__law_row {ds μ Φ Ψ} (h : c__law_row ds μ Φ Ψ) : ds.length = 2 := by obtain ⟨_, _, _, _, rfl, _⟩ := h; rfl
theorem wd_turn {ws : List Int} {m j : Nat} : wd ws (m + j % (2 * ws.length)) = wd ws (m + j) := by
  unfold wd
  have : (m + j % (2 * ws.length)) % ws.length = (m + j) % ws.length := by
    rw [Nat.add_mod, Nat.add_mod m j]
    congr 2
    exact Nat.mod_mod_of_dvd _ ⟨2, Nat.mul_comm _ _⟩
  rw [this]
theorem row_fit {ws h c : List Int} (hw : WsOk ws) (hc : c.length = 2 * ws.length) (hh : ∀ (i : Nat) (q : i < h.length), 0 ≤ h[i] ∧ h[i] < (wd ws i : Int)) (hcc : ∀ (j : Nat) (q : j < c.length), 0 ≤ c[j] ∧ c[j] < (wd ws (h.length + j) : Int)) (h1 : h.length ≤ 1000) : RwOk ⟨h, c⟩ ∧ RFit ws ⟨h, c⟩ := by
  have h0 := hw.l0
  have h6 := hw.l1
  refine ⟨⟨fun z => by have z : c = [] := z; rw [z] at hc; simp at hc; omega, h1, by show c.length ≤ 1000; omega, fun x hx => ?_, fun x hx => ?_⟩, fun p => ?_⟩
  · obtain ⟨i, hi, rfl⟩ := List.mem_iff_getElem.mp hx; exact (hh i hi).1
  · obtain ⟨i, hi, rfl⟩ := List.mem_iff_getElem.mp hx; exact (hcc i hi).1
  · unfold ent
    by_cases z : p < h.length
    · show (if p < h.length then h.getD p 0 else _) < _
      rw [if_pos z, List.getD_eq_getElem?_getD, List.getElem?_eq_getElem z]
      exact (hh p z).2
    · show (if p < h.length then _ else cyc c (p - h.length)) < _
      rw [if_neg z]
      unfold cyc
      have q : (p - h.length) % c.length < c.length := Nat.mod_lt _ (by omega)
      rw [List.getD_eq_getElem?_getD, List.getElem?_eq_getElem q]
      have e : wd ws (h.length + (p - h.length) % c.length) = wd ws p := by rw [hc, wd_turn, show h.length + (p - h.length) = p by omega]
      rw [← e]
      exact (hcc _ q).2
theorem ok__law_row {cx : CXT} (T : Txt P w K mg) : FnOk P w K mg base cx 2 T.f__law_row T.d__law_row ["_law_state", "_law_widths_here"] (spOf K c__law_row) := by
  refine def_okC T.F__law_row sc__law_row _ (fun ds μ Φ Ψ h => len__law_row h) (fun cdv A outer s H E B hW hr =>
    ⟨_, (pss_cons (ps_set (i := 2) sc__law_row.nd rfl (Or.inr rfl) (pe_call (ok__law_pick T) hr rfl T.g__law_pick T.F__law_pick.kp T.b__law_pick .nil passN (pa_cons (pv 0) (pa_cons pe_int pa_nil))))
      (pss_cons (ps_setLc (i := 3) (own := [("_law_p", 4)]) rfl sc__law_row.nd rfl rfl (sw_true rfl rfl rfl (by decide +kernel)) (pi_range1 rfl T.z_range (pa_cons (pv 2) pa_nil)) (blkOk_by (N := N__law_row) (sc := defScope s__law_row) (by decide +kernel)) (fun _ _ _ _ _ => (pg_name (i := 4) sc__law_row.nd rfl (Or.inl rfl))) (fun _ _ _ _ _ => pts_nil) (fun _ _ _ _ _ => (pe_call (ok__law_pick T) hr rfl T.g__law_pick T.F__law_pick.kp T.b__law_pick .nil passN (pa_cons (pv 0) (pa_cons (pe_call (ok__law_width T) hr rfl T.g__law_width T.F__law_width.kp T.b__law_width .nil passN (pa_cons (pv 1) (pa_cons (pv 4) pa_nil))) pa_nil)))))
      (pss_one (ps_ret (pe_lst (pa_cons (pe_callTy call_tupleN (by rfl) T.z_tuple (by decide +kernel) (pa_cons (pv 3) pa_nil)) (pa_cons (pe_callTy call_tupleN (by rfl) T.z_tuple (by decide +kernel) (pa_cons (pe_lc (own := [("_law_j", 5)]) rfl sc__law_row.nd (pi_range1 rfl T.z_range (pa_cons (pe_op op_mulX pe_int (pe_callB call_len_seq (by rfl) T.z_len PySem.boot_len (pa_cons (pv 1) pa_nil))) pa_nil)) (blkOk_by (N := N__law_row) (sc := defScope s__law_row) (by decide +kernel)) (fun _ _ _ _ _ => (pg_name (i := 5) sc__law_row.nd rfl (Or.inl rfl))) (fun _ _ _ _ _ => pts_nil) (fun _ _ _ _ _ => (pe_call (ok__law_pick T) hr rfl T.g__law_pick T.F__law_pick.kp T.b__law_pick .nil passN (pa_cons (pv 0) (pa_cons (pe_call (ok__law_width T) hr rfl T.g__law_width T.F__law_width.kp T.b__law_width .nil passN (pa_cons (pv 1) (pa_cons (pe_op op_add (pv 2) (pv 5)) pa_nil))) pa_nil))))) pa_nil)) pa_nil))))))),
      (sSeq (sAsg (sCall (sCons sVar (sCons sInt sNil))) sName)
      (sSeq (sAsg (sLc (siR1 sVar) (gwName List.mem_cons_self) (fun _ _ _ => sName) (fun _ _ _ => sYes) (fun _ _ _ => (sCall (sCons sVar (sCons (sCall (sCons sVar (sCons sVar sNil))) sNil))))) sName)
      (sRet (sLst (sCons (sCB rcTuple (sCons sVar sNil)) (sCons (sCB rcTuple (sCons (sLc (siR1 (sOp roInt sInt (sCB rcLen (sCons sVar sNil)))) (gwName List.mem_cons_self) (fun _ _ _ => sName) (fun _ _ _ => sYes) (fun _ _ _ => (sCall (sCons sVar (sCons (sCall (sCons sVar (sCons (sOp roInt0 sVar sVar) sNil))) sNil))))) sNil)) sNil))))))⟩) (fun ds μ Φ Ψ h => ?hv)
  case hv =>
    obtain ⟨st, ns, c, ws, rfl, hc, sc, hw, h⟩ := h
    have h0 := hw.l0
    have h6 := hw.l1
    refine seq_cut fun M hM => ?_
    walk_at "wp"
    refine ⟨st, ns, c, 6, rfl, hc, sc, by decide, by decide, fun y c1 y0 y1 sc => ?_⟩
    obtain ⟨m, rfl⟩ : ∃ m : Nat, y = (m : Int) := ⟨y.toNat, by omega⟩
    rw [hM]; clear hM M
    refine seq_cut fun M hM => ?_
    walk_at "wp"
    refine ⟨by omega, by omega, lcP (fun i y => 0 ≤ y ∧ y < (wd ws i : Int)) (by omega) sset_same sc (fun i μ2 X c7 hi hs7 sc7 hx7 => ?_) (fun l c7 hl hP sc => ?_)⟩
    · have hw1 := hw.wd1 i
      walk_at "wps"
      exact ⟨ws, i, rfl, hw, st, ns, c7, wd ws i, rfl, hs7, sc7, by omega, log_small (by omega), fun y c8 y0 y1 sc8 => hx7 _ c8 sc8 ⟨y0, y1⟩⟩
    rw [sset_sset]
    rw [hM]; clear hM M
    walk_at "wps"
    refine ⟨mulx 3 4 (by omega) (by omega) (by decide), by omega, by omega, ?_⟩
    rw [show (2 * (ws.length : Int)).toNat = 2 * ws.length by omega]
    refine lcP (fun j y => 0 ≤ y ∧ y < (wd ws (m + j) : Int)) (by omega) sset_same sc (fun i μ2 X c8 hi hs8 sc8 hx8 => ?_) (fun l2 c8 hl2 hP2 sc => ?_)
    · have hw1 := hw.wd1 (m + i)
      walk_at "wps"
      exact ⟨ws, m + i, rfl, hw, st, ns, c8, wd ws (m + i), rfl, hs8, sc8, by omega, log_small (by omega), fun y c9 y0 y1 sc9 => hx8 _ c9 sc9 ⟨y0, y1⟩⟩
    · rw [sset_sset]
      obtain ⟨a, b⟩ := row_fit hw hl2 hP (by rw [hl]; exact hP2) (by omega)
      exact ⟨_, .lst _, by omega, ret_same (h ⟨l, l2⟩ c8 a b sc)⟩
def c__law_entry : Con := fun ds μ Φ _ => ∃ (r : Rw) (p : Nat), ds = [sdR r, .int (p : Int)] ∧ RwOk r ∧ Φ (.int (ent r p)) μ
theorem len__law_entry {ds μ Φ Ψ} (h : c__law_entry ds μ Φ Ψ) : ds.length = 2 := by obtain ⟨_, _, rfl, _⟩ := h; rfl
theorem ok__law_entry {cx : CXT} (T : Txt P w K mg) : FnOk P w K mg base cx 1 T.f__law_entry T.d__law_entry ["_law_row_here", "_law_place"] (spOf K c__law_entry) := by
  refine def_okC T.F__law_entry sc__law_entry _ (fun ds μ Φ Ψ h => len__law_entry h) (fun cdv A outer s H E B hW hr =>
    ⟨_, (pss_cons (ps_if (pt_cmpR op_lt (pv 1) (pe_callB call_len_seq (by rfl) T.z_len PySem.boot_len (pa_cons (pe_ix ix_list (pv 0) pe_int (fun _ _ => rfl)) pa_nil)) (nomark _)) (pss_one (ps_ret (pe_ix ix_tup (pe_ix ix_list (pv 0) pe_int (fun _ _ => rfl)) (pv 1) (fun _ _ => rfl)))) pss_nil)
      (pss_one (ps_ret (pe_ix ix_tup (pe_ix ix_list (pv 0) pe_int (fun _ _ => rfl)) (pe_op op_mod (pe_callTy call_int1 (by rfl) T.z_int (by decide +kernel) (pa_cons (pe_op op_sub (pv 1) (pe_callB call_len_seq (by rfl) T.z_len PySem.boot_len (pa_cons (pe_ix ix_list (pv 0) pe_int (fun _ _ => rfl)) pa_nil))) pa_nil)) (pe_callB call_len_seq (by rfl) T.z_len PySem.boot_len (pa_cons (pe_ix ix_list (pv 0) pe_int (fun _ _ => rfl)) pa_nil))) (fun _ _ => rfl))))),
      (sSeq (sIfS (sTest (sOp roBl0 sVar (sCB rcLen (sCons (sOp roIxL sVar sInt) sNil)))) (sRet (sOp roIxT (sOp roIxL sVar sInt) sVar)) sNext)
      (sRet (sOp roIxT (sOp roIxL sVar sInt) (sOp roInt (sCB rcInt (sCons (sOp roInt0 sVar (sCB rcLen (sCons (sOp roIxL sVar sInt) sNil))) sNil)) (sCB rcLen (sCons (sOp roIxL sVar sInt) sNil))))))⟩) (fun ds μ Φ Ψ h => ?hv)
  case hv =>
    obtain ⟨r, n, rfl, hr, h2⟩ := h
    have hcn : 0 < r.c.length := List.length_pos_iff.mpr hr.c0
    unfold sdR
    refine seq_cut fun M hM => ?_
    walk_at "wp"
    refine ⟨fun q => ⟨_, atI_nat (v := .int (ent r n)) ?_, ret_same h2⟩, fun q => ?_⟩
    · have hn : n < r.h.length := by omega
      rw [List.getElem?_map, List.getElem?_eq_getElem hn]
      unfold ent
      rw [if_pos hn, List.getD_eq_getElem?_getD, List.getElem?_eq_getElem hn]; rfl
    · have hn : ¬ n < r.h.length := by omega
      have hm := Nat.mod_lt (n - r.h.length) hcn
      rw [hM]; clear hM M
      walk_at "wps"
      have em : ((n : Int) - (r.h.length : Int)) % (r.c.length : Int) = (((n - r.h.length) % r.c.length : Nat) : Int) := by
        rw [show (n : Int) - (r.h.length : Int) = ((n - r.h.length : Nat) : Int) by omega]; rfl
      rw [em]
      refine ⟨by omega, _, atI_nat (v := .int (ent r n)) ?_, ret_same h2⟩
      rw [List.getElem?_map, self_at hm]
      unfold ent
      rw [if_neg hn, cyc_mod]; rfl
def headsD (hs : List (List Nat)) : List D := hs.map fun l => .lst (nI l)
def longer (hs : List (List Nat)) (n : Nat) : List (List Nat) := hs.flatMap fun l => (List.range n).map fun x => l ++ [x]
theorem longer_len (n : Nat) : ∀ hs : List (List Nat), (longer hs n).length = hs.length * n
  | [] => by simp [longer]
  | l :: hs => by
    have := longer_len n hs
    unfold longer at this ⊢
    rw [List.flatMap_cons, List.length_append, this, List.length_map, List.length_range, List.length_cons, Nat.add_mul, Nat.one_mul, Nat.add_comm]
theorem longer_snoc (hs : List (List Nat)) (l : List Nat) (n : Nat) : longer (hs ++ [l]) n = longer hs n ++ (List.range n).map fun x => l ++ [x] := by
  unfold longer
  rw [List.flatMap_append, List.flatMap_cons, List.flatMap_nil, List.append_nil]
theorem heads_snoc (hs : List (List Nat)) (l : List Nat) (x : Nat) : headsD (hs ++ [l ++ [x]]) = headsD hs ++ [.lst (nI l ++ [.int (x : Int)])] := by
  unfold headsD nI
  rw [List.map_append, List.map_singleton, List.map_append, List.map_singleton]
def c__law_longer : Con := fun ds μ Φ _ => ∃ (hs : List (List Nat)) (n : Nat), ds = [.lst (headsD hs), .int (n : Int)] ∧ n ≤ 4 ∧ hs.length ≤ 256 ∧ (∀ l ∈ hs, l.length ≤ 1000) ∧ Φ (.lst (headsD (longer hs n))) μ
theorem len__law_longer {ds μ Φ Ψ} (h : c__law_longer ds μ Φ Ψ) : ds.length = 2 := by obtain ⟨_, _, rfl, _⟩ := h; rfl
theorem ok__law_longer {cx : CXT} (T : Txt P w K mg) : FnOk P w K mg base cx 1 T.f__law_longer T.d__law_longer ["_law_heads_here", "_law_options"] (spOf K c__law_longer) := by
  refine def_okC T.F__law_longer sc__law_longer _ (fun ds μ Φ Ψ h => len__law_longer h) (fun cdv A outer s H E B hW hr =>
    ⟨_, (pss_cons (ps_set (i := 2) sc__law_longer.nd rfl (Or.inl rfl) (pe_lst pa_nil))
      (pss_cons (ps_for (passes_of rfl) rfl (pi_list (pv 0)) (pg_name (i := 3) sc__law_longer.nd rfl (Or.inl rfl)) (pss_one (ps_for (passes_of rfl) rfl (pi_range1 rfl T.z_range (pa_cons (pv 1) pa_nil)) (pg_name (i := 4) sc__law_longer.nd rfl (Or.inl rfl)) (pss_one (ps_expr (pe_bm PySem.F.plainAttrs_list PySem.F.slot_list_append PySem.F.type_list_append mt_append (pv 2) (pa_cons (pe_op op_cat (pv 3) (pe_lst (pa_cons (pv 4) pa_nil))) pa_nil)))))))
      (pss_one (ps_ret (pv 2))))),
      (sSeq (sAsg (sOwn sNil) sName)
      (sSeq (sFor (siL sVar) (fun _ _ _ => sName) (fun _ _ _ => (sFor (siR1 sVar) (fun _ _ _ => sName) (fun _ _ _ => (sDrop (sApp sVar (sOp roCatL sVar (sLst (sCons sVar sNil)))))))))
      (sRet sRest)))⟩) (fun ds μ Φ Ψ h => ?hv)
  case hv =>
    obtain ⟨hs, n, rfl, hn, hl, hb, h⟩ := h
    refine seq_cut fun M hM => ?_
    walk_at "wp"
    refine ⟨by omega, fun p hp => ?_⟩
    rw [hM]; clear hM M
    walk_at "wps"
    refine ⟨fun i δ' μ' => ∃ x y, δ' = [some (.lst (headsD hs)), some (.int (n : Int)), some (.hd (.ref p)), x, y] ∧ μ' = sset μ p (.lst (headsD (longer (hs.take i) n))), ⟨none, none, rfl, rfl⟩, ?_, ?_⟩
    · rintro i d δ' μ' hi ⟨x, y, rfl, rfl⟩
      obtain ⟨hil, rfl⟩ : ∃ hil : i < hs.length, d = .lst (nI hs[i]) := by
        unfold headsD at hi
        rw [List.getElem?_map] at hi
        have hil : i < hs.length := by
          refine Classical.byContradiction fun z => ?_
          rw [List.getElem?_eq_none (by omega)] at hi
          cases hi
        rw [List.getElem?_eq_getElem hil] at hi
        cases hi
        exact ⟨hil, rfl⟩
      walk_at "wps"
      refine ⟨by omega, by omega, fun j δ' μ' => ∃ y, δ' = [some (.lst (headsD hs)), some (.int (n : Int)), some (.hd (.ref p)), some (.lst (nI hs[i])), y] ∧ μ' = sset μ p (.lst (headsD (longer (hs.take i) n ++ (List.range j).map fun x => hs[i] ++ [x]))), ⟨y, rfl, by rw [List.range_zero, List.map_nil, List.append_nil]⟩, ?_, ?_⟩
      · rintro j d δ' μ' hj ⟨y, rfl, rfl⟩
        obtain ⟨hj, rfl⟩ := rngD_get hj
        walk_at "wps"
        have hb2 := hb _ (List.getElem_mem hil)
        have hmul : min i hs.length * n ≤ 256 * 4 := Nat.mul_le_mul (by omega) hn
        refine ⟨by omega, by rw [nI_len]; omega, by unfold headsD; rw [List.length_map, List.length_append, longer_len, List.length_take, List.length_map, List.length_range]; omega, _, rfl, ?_⟩
        rw [List.range_succ, List.map_append, List.map_singleton, ← List.append_assoc, heads_snoc]
      · rintro δ' μ' ⟨y, rfl, rfl⟩
        refine ⟨_, _, rfl, ?_⟩
        rw [List.take_succ, List.getElem?_eq_getElem hil, Option.toList_some, longer_snoc]
    · rintro δ' μ' ⟨x, y, rfl, rfl⟩
      walk_at "wps"
      rw [show (headsD hs).length = hs.length by unfold headsD; rw [List.length_map], List.take_length]
      exact ⟨μ, Sub.set Sub.refl hp, h⟩
/-- all ways to choose options of places -/
def heads (ws : List Int) (ps : List Nat) : List (List Nat) := ps.foldl (fun hs p => longer hs (wd ws p)) [[]]
theorem heads_snoc2 (ws : List Int) (ps : List Nat) (p : Nat) : heads ws (ps ++ [p]) = longer (heads ws ps) (wd ws p) := by
  unfold heads
  rw [List.foldl_append, List.foldl_cons, List.foldl_nil]
/-- the product of widths, in the order of a list -/
def wpl (ws : List Int) (ps : List Nat) : Nat := ps.foldl (fun a p => a * wd ws p) 1
theorem wpl_snoc (ws : List Int) (ps : List Nat) (p : Nat) : wpl ws (ps ++ [p]) = wpl ws ps * wd ws p := by
  unfold wpl
  rw [List.foldl_append, List.foldl_cons, List.foldl_nil]
theorem heads_len0 (ws : List Int) : ∀ (ps : List Nat) (hs : List (List Nat)) (a : Nat), hs.length = a → (ps.foldl (fun hs p => longer hs (wd ws p)) hs).length = ps.foldl (fun a p => a * wd ws p) a
  | [], hs, a, h => h
  | p :: ps, hs, a, h => by
    rw [List.foldl_cons, List.foldl_cons]
    exact heads_len0 ws ps _ _ (by rw [longer_len, h])
theorem heads_len (ws : List Int) (ps : List Nat) : (heads ws ps).length = wpl ws ps := heads_len0 ws ps _ _ rfl
/-- a way to choose options of places -/
def HG (ws : List Int) (qs l : List Nat) : Prop := l.length = qs.length ∧ ∀ i, i < qs.length → l.getD i 0 < wd ws (qs.getD i 0)
theorem HG.snoc {ws : List Int} {qs l : List Nat} {p x : Nat} (h : HG ws qs l) (hx : x < wd ws p) : HG ws (qs ++ [p]) (l ++ [x]) := by
  refine ⟨by rw [List.length_append, List.length_append, h.1]; rfl, fun i hi => ?_⟩
  rw [List.length_append, List.length_singleton] at hi
  rw [List.getD_eq_getElem?_getD, List.getD_eq_getElem?_getD]
  by_cases z : i < qs.length
  · rw [List.getElem?_append_left (by rw [h.1]; exact z), List.getElem?_append_left z]
    have := h.2 i z
    rwa [List.getD_eq_getElem?_getD, List.getD_eq_getElem?_getD] at this
  · have e : i = qs.length := by omega
    subst e
    rw [List.getElem?_append_right (by rw [h.1]; exact Nat.le_refl _), List.getElem?_append_right (Nat.le_refl _), h.1, Nat.sub_self]
    exact hx
theorem heads_each0 (ws : List Int) : ∀ (ps qs : List Nat) (hs : List (List Nat)), (∀ l ∈ hs, HG ws qs l) → ∀ l ∈ ps.foldl (fun hs p => longer hs (wd ws p)) hs, HG ws (qs ++ ps) l
  | [], qs, hs, h => by rw [List.append_nil]; exact h
  | p :: ps, qs, hs, h => by
    rw [List.foldl_cons, show qs ++ p :: ps = (qs ++ [p]) ++ ps by simp]
    refine heads_each0 ws ps _ _ fun l hl => ?_
    obtain ⟨l0, h0, hl⟩ := List.mem_flatMap.mp hl
    obtain ⟨x, hx, rfl⟩ := List.mem_map.mp hl
    exact (h l0 h0).snoc (List.mem_range.mp hx)
theorem heads_each (ws : List Int) (ps : List Nat) : ∀ l ∈ heads ws ps, HG ws ps l := heads_each0 ws ps [] [[]] fun l hl => by
  rw [List.mem_singleton.mp hl]
  exact ⟨rfl, fun i hi => by simp at hi⟩
def c__law_heads : Con := fun ds μ Φ _ => ∃ (ws : List Int) (ps : List Nat), ds = [.tup (ws.map .int), .lst (nI ps)] ∧ WsOk ws ∧ ps.length ≤ 8 ∧ (∀ i, i ≤ ps.length → wpl ws (ps.take i) ≤ 256) ∧ Φ (.lst (headsD (heads ws ps))) μ
theorem len__law_heads {ds μ Φ Ψ} (h : c__law_heads ds μ Φ Ψ) : ds.length = 2 := by obtain ⟨_, _, rfl, _⟩ := h; rfl
theorem ok__law_heads {cx : CXT} (T : Txt P w K mg) : FnOk P w K mg base cx 2 T.f__law_heads T.d__law_heads ["_law_widths_here", "_law_places_here"] (spOf K c__law_heads) := by
  refine def_okC T.F__law_heads sc__law_heads _ (fun ds μ Φ Ψ h => len__law_heads h) (fun cdv A outer s H E B hW hr =>
    ⟨_, (pss_cons (ps_set (i := 2) sc__law_heads.nd rfl (Or.inl rfl) (pe_lst (pa_cons (pe_lst pa_nil) pa_nil)))
      (pss_cons (ps_for (passes_of rfl) rfl (pi_list (pv 1)) (pg_name (i := 3) sc__law_heads.nd rfl (Or.inl rfl)) (pss_one (ps_set (i := 2) sc__law_heads.nd rfl (Or.inl rfl) (pe_call (ok__law_longer T) hr rfl T.g__law_longer T.F__law_longer.kp T.b__law_longer .nil passN (pa_cons (pv 2) (pa_cons (pe_call (ok__law_width T) hr rfl T.g__law_width T.F__law_width.kp T.b__law_width .nil passN (pa_cons (pv 0) (pa_cons (pv 3) pa_nil))) pa_nil))))))
      (pss_one (ps_ret (pv 2))))),
      (sSeq (sAsg (sLst (sCons (sLst sNil) sNil)) sName)
      (sSeq (sFor (siL sVar) (fun _ _ _ => sName) (fun _ _ _ => (sAsg (sCall (sCons sVar (sCons (sCall (sCons sVar (sCons sVar sNil))) sNil))) sName)))
      (sRet sVar)))⟩) (fun ds μ Φ Ψ h => ?hv)
  case hv =>
    obtain ⟨ws, ps, rfl, hw, hl, hb, h⟩ := h
    refine seq_cut fun M hM => ?_
    walk_at "wp"
    refine ⟨by omega, by omega, ?_⟩
    rw [hM]; clear hM M
    walk_at "wps"
    refine ⟨fun i δ' μ' => μ' = μ ∧ ∃ x, δ' = [some (.tup (ws.map .int)), some (.lst (nI ps)), some (.lst (headsD (heads ws (ps.take i)))), x], ⟨rfl, none, rfl⟩, ?_, ?_⟩
    · rintro i d δ' μ' hi ⟨rfl, x, rfl⟩
      obtain ⟨hil, rfl⟩ := nI_get hi
      have hw1 := hw.wd1 ps[i]
      walk_at "wps"
      refine ⟨ws, ps[i], rfl, hw, heads ws (ps.take i), wd ws ps[i], rfl, by omega, by rw [heads_len]; exact hb i (by omega), fun l hl2 => ?_, ?_⟩
      · have := (heads_each ws _ l hl2).1
        rw [List.length_take] at this
        omega
      · rw [List.take_succ, List.getElem?_eq_getElem hil, Option.toList_some, heads_snoc2]
        exact ⟨rfl, _, rfl⟩
    · rintro δ' μ' ⟨rfl, x, rfl⟩
      rw [nI_len, List.take_length]
      walk_at "wps"
      exact ret_same h
theorem perm_erase : ∀ (l : List Nat) (q : Nat) (h : q < l.length), (l[q] :: l.eraseIdx q).Perm l
  | x :: l, 0, _ => List.Perm.refl _
  | x :: l, q + 1, h => by
    rw [List.eraseIdx_cons_succ, List.getElem_cons_succ]
    exact (List.Perm.swap _ _ _).trans ((perm_erase l q (by simpa using h)).cons x)
theorem nI_erase (l : List Nat) (q : Nat) : (nI l).eraseIdx q = nI (l.eraseIdx q) := by
  unfold nI
  rw [List.eraseIdx_eq_take_drop_succ, List.eraseIdx_eq_take_drop_succ, List.map_append, List.map_take, List.map_drop]
def c__law_shuffled : Con := fun ds μ Φ _ => ∃ (st : Addr) (ns : List Int) (c : List D) (ps : List Nat), ds = [.hd (.ref st), .lst (nI ps)] ∧ μ st = some (.lst c) ∧ StC ns c ∧ ps.length ≤ 8 ∧ ∀ qs c', qs.Perm ps → StC ns c' → Φ (.lst (nI qs)) (sset μ st (.lst c'))
theorem len__law_shuffled {ds μ Φ Ψ} (h : c__law_shuffled ds μ Φ Ψ) : ds.length = 2 := by obtain ⟨_, _, _, _, rfl, _⟩ := h; rfl
theorem ok__law_shuffled {cx : CXT} (T : Txt P w K mg) : FnOk P w K mg base cx 2 T.f__law_shuffled T.d__law_shuffled ["_law_state", "_law_places_here"] (spOf K c__law_shuffled) := by
  refine def_okC T.F__law_shuffled sc__law_shuffled _ (fun ds μ Φ Ψ h => len__law_shuffled h) (fun cdv A outer s H E B hW hr =>
    ⟨_, (pss_cons (ps_set (i := 2) sc__law_shuffled.nd rfl (Or.inr rfl) (pe_callTy call_list_of (by rfl) T.z_list (by decide +kernel) (pa_cons (pv 1) pa_nil)))
      (pss_one (ps_ret (pe_lc (own := [("_law_k", 3)]) rfl sc__law_shuffled.nd (pi_range1 rfl T.z_range (pa_cons (pe_callB call_len_seq (by rfl) T.z_len PySem.boot_len (pa_cons (pv 1) pa_nil)) pa_nil)) (blkOk_by (N := N__law_shuffled) (sc := defScope s__law_shuffled) (by decide +kernel)) (fun _ _ _ _ _ => (pg_name (i := 3) sc__law_shuffled.nd rfl (Or.inl rfl))) (fun _ _ _ _ _ => pts_nil) (fun _ _ _ _ _ => (pe_bm PySem.F.plainAttrs_list PySem.F.slot_list_pop PySem.F.type_list_pop mt_popAt (pv 2) (by exact pa_cons (pe_call (ok__law_pick T) hr rfl T.g__law_pick T.F__law_pick.kp T.b__law_pick .nil passN (pa_cons (pv 0) (pa_cons (pe_callB call_len_seq (by rfl) T.z_len PySem.boot_len (pa_cons (pv 2) pa_nil)) pa_nil))) pa_nil))))))),
      (sSeq (sAsg (sCB rcListOwn (sCons sVar sNil)) sName)
      (sRet (sLc (siR1 (sCB rcLen (sCons sVar sNil))) (gwName List.mem_cons_self) (fun _ _ _ => sName) (fun _ _ _ => sYes) (fun _ _ _ => (sPopAt sVar (sCall (sCons sVar (sCons (sCB rcLen (sCons sVar sNil)) sNil))))))))⟩) (fun ds μ Φ Ψ h => ?hv)
  case hv =>
    obtain ⟨st, ns, c, ps, rfl, hc, sc, hl, h⟩ := h
    refine seq_cut fun M hM => ?_
    walk_at "wp"
    intro p hp
    have hps : p ≠ st := fun z => by rw [z, hc] at hp; cases hp
    rw [hM]; clear hM M
    walk_at "wps"
    rw [nI_len]
    refine ⟨by omega, by omega, fun p0 hp0 => ?_⟩
    have h0p : p0 ≠ p := fun z => by rw [z, sset_same] at hp0; cases hp0
    have hp0' : μ p0 = none := by rw [sset_ne h0p] at hp0; exact hp0
    have h0s : p0 ≠ st := fun z => by rw [z, hc] at hp0'; cases hp0'
    refine ⟨fun i μ' => ∃ (acc rest : List Nat) (c' : List D), μ' p0 = some (.lst (nI acc)) ∧ μ' p = some (.lst (nI rest)) ∧ μ' st = some (.lst c') ∧ (∀ a, a ≠ p0 → a ≠ p → a ≠ st → μ' a = μ a) ∧ StC ns c' ∧ (acc ++ rest).Perm ps ∧ acc.length = i, ⟨[], ps, c, sset_same, by rw [sset_ne h0p.symm, sset_same], by rw [sset_ne h0s.symm, sset_ne hps.symm, hc], fun a a1 a2 a3 => by rw [sset_ne a1, sset_ne a2], sc, List.Perm.refl _, rfl⟩, ?_, ?_⟩
    · rintro i d μ2 hi ⟨acc, rest, c2, w1, w2, w3, w4, w5, w6, w7⟩
      obtain ⟨hj, rfl⟩ := rngD_get hi
      have hlen := w6.length_eq
      rw [List.length_append] at hlen
      refine ⟨fun _ => ?_, fun z => nomatch z⟩
      walk_at "wps"
      refine ⟨_, w2, .inl ⟨_, w2, st, ns, c2, rest.length, by rw [nI_len], w3, w5, by omega, log_small (by omega), fun y c3 y0 y1 sc3 => ?_⟩⟩
      obtain ⟨q, rfl⟩ : ∃ q : Nat, y = (q : Int) := ⟨y.toNat, by omega⟩
      have hq : q < rest.length := by omega
      have g : (nI rest)[q]? = some (.int ((rest[q] : Nat) : Int)) := by unfold nI; rw [List.getElem?_map, List.getElem?_eq_getElem hq]; rfl
      refine ⟨nI rest, by rw [sset_ne hps, w2], by rw [nI_len]; omega, q, _, rfl, g, nI acc, by rw [sset_ne h0p, sset_ne h0s, w1], by rw [nI_len]; omega, acc ++ [rest[q]], rest.eraseIdx q, c3, ?_, ?_, ?_, fun a a1 a2 a3 => by rw [sset_ne a1, sset_ne a2, sset_ne a3, w4 a a1 a2 a3], sc3, ?_, by rw [List.length_append, w7]; rfl⟩
      · unfold nI; rw [List.map_append]; rfl
      · rw [sset_ne h0p.symm, sset_same, nI_erase]
      · rw [sset_ne h0s.symm, sset_ne hps.symm, sset_same]
      · rw [List.append_assoc]
        exact ((perm_erase rest q hq).append_left acc).trans w6
    · rintro μ2 ⟨acc, rest, c2, w1, w2, w3, w4, w5, w6, w7⟩
      rw [rngD_len] at w7
      have hlen := w6.length_eq
      rw [List.length_append] at hlen
      obtain rfl : rest = [] := List.eq_nil_of_length_eq_zero (by omega)
      rw [List.append_nil] at w6
      refine ⟨_, w1, sset μ st (.lst c2), fun a x e => ?_, h acc c2 w6 w5⟩
      by_cases as : a = st
      · subst as
        rw [sset_same] at e
        cases e
        unfold sdel
        rw [if_neg h0s.symm, w3]
      · rw [sset_ne as] at e
        have a0 : a ≠ p0 := fun z => by rw [z, hp0'] at e; cases e
        have ap : a ≠ p := fun z => by rw [z, hp] at e; cases e
        unfold sdel
        rw [if_neg a0, w4 a a0 ap as, e]
end
section
variable {P : Program} {w : World} {K : Fg} {mg : Str → Option Value} {base : Heap}
theorem nin_N {z : Nat} {l : List Nat} {y : D} {μ : Sto} {X : DK} (h : Items μ y (nI l) ∧ X (.bl (!l.contains z)) μ) : oIn true (.int (z : Int)) y μ X := by
  obtain ⟨hi, h⟩ := h
  refine ⟨_, hi, rfl, by rw [nI_ints]; exact flat_I _, ?_⟩
  have e : inD (.int (z : Int)) (nI l) = l.contains z := by
    rw [nI_ints, inD_I, Bool.eq_iff_iff, List.contains_iff_mem, List.contains_iff_mem, List.mem_map]
    exact ⟨fun ⟨q, hq, e⟩ => by obtain rfl : q = z := Int.ofNat.inj e; exact hq, fun q => ⟨z, q, rfl⟩⟩
  rw [if_pos rfl, e]
  exact h
theorem in_N {z : Nat} {l : List Nat} {y : D} {μ : Sto} {X : DK} (h : Items μ y (nI l) ∧ X (.bl (l.contains z)) μ) : oIn false (.int (z : Int)) y μ X := by
  obtain ⟨hi, h⟩ := h
  refine ⟨_, hi, rfl, by rw [nI_ints]; exact flat_I _, ?_⟩
  have e : inD (.int (z : Int)) (nI l) = l.contains z := by
    rw [nI_ints, inD_I, Bool.eq_iff_iff, List.contains_iff_mem, List.contains_iff_mem, List.mem_map]
    exact ⟨fun ⟨q, hq, e⟩ => by obtain rfl : q = z := Int.ofNat.inj e; exact hq, fun q => ⟨z, q, rfl⟩⟩
  rw [if_neg Bool.false_ne_true, e]
  exact h
theorem sset_idl {μ : Sto} {a : Addr} {c : Cell} (h : μ a = some c) : sset μ a c = μ := by
  funext b
  by_cases e : b = a
  · rw [e, sset_same, h]
  · rw [sset_ne e]
def c__law_places : Con := fun ds μ Φ _ => ∃ (st : Addr) (ns : List Int) (c : List D) (ws : List Int) (n m : Nat), ds = [.hd (.ref st), .tup (ws.map .int), .int (n : Int), .int (m : Int)] ∧ μ st = some (.lst c) ∧ StC ns c ∧ WsOk ws ∧ n ≤ 8 ∧ 4 ≤ m ∧ m ≤ 256 ∧
  ∀ (ps : List Nat) c', ps.Nodup → (∀ p ∈ ps, p < 100) → ps.length ≤ n → (∀ i, i ≤ ps.length → wpl ws (ps.take i) ≤ m) → (1 ≤ n → ps ≠ []) → StC ns c' → Φ (.lst (nI ps)) (sset μ st (.lst c'))
theorem len__law_places {ds μ Φ Ψ} (h : c__law_places ds μ Φ Ψ) : ds.length = 4 := by obtain ⟨_, _, _, _, _, _, rfl, _⟩ := h; rfl
theorem ok__law_places {cx : CXT} (T : Txt P w K mg) : FnOk P w K mg base cx 2 T.f__law_places T.d__law_places ["_law_state", "_law_widths_here", "_law_count", "_law_most"] (spOf K c__law_places) := by
  refine def_okC T.F__law_places sc__law_places _ (fun ds μ Φ Ψ h => len__law_places h) (fun cdv A outer s H E B hW hr =>
    ⟨_, (pss_cons (ps_set (i := 4) sc__law_places.nd rfl (Or.inl rfl) (pe_lst pa_nil))
      (pss_cons (ps_set (i := 5) sc__law_places.nd rfl (Or.inl rfl) pe_int)
      (pss_cons (ps_for (passes_of rfl) rfl (pi_range1 rfl T.z_range (pa_cons (pv 2) pa_nil)) (pg_name (i := 6) sc__law_places.nd rfl (Or.inl rfl)) (pss_cons (ps_set (i := 7) sc__law_places.nd rfl (Or.inl rfl) (pe_call (ok__law_pick T) hr rfl T.g__law_pick T.F__law_pick.kp T.b__law_pick .nil passN (pa_cons (pv 0) (pa_cons (pe_ix ix_list (pe_lst (pa_cons pe_int (pa_cons pe_int (pa_cons pe_int pa_nil)))) (pe_call (ok__law_pick T) hr rfl T.g__law_pick T.F__law_pick.kp T.b__law_pick .nil passN (pa_cons (pv 0) (pa_cons pe_int pa_nil))) (fun _ _ => rfl)) pa_nil))))
      (pss_one (ps_if (PW.pt (pw_and (pt_cmpR op_notIn_seq (pv 7) (pv 4) (by with_unfolding_all rfl)) (pw_and1 (pt_cmpR op_le (pe_op op_mulX (pv 5) (pe_call (ok__law_width T) hr rfl T.g__law_width T.F__law_width.kp T.b__law_width .nil passN (pa_cons (pv 1) (pa_cons (pv 7) pa_nil)))) (pv 3) (nomark _))))) (pss_cons (ps_expr (pe_bm PySem.F.plainAttrs_list PySem.F.slot_list_append PySem.F.type_list_append mt_append (pv 4) (pa_cons (pv 7) pa_nil)))
      (pss_one (ps_set (i := 5) sc__law_places.nd rfl (Or.inl rfl) (pe_op op_mulX (pv 5) (pe_call (ok__law_width T) hr rfl T.g__law_width T.F__law_width.kp T.b__law_width .nil passN (pa_cons (pv 1) (pa_cons (pv 7) pa_nil))))))) pss_nil))))
      (pss_one (ps_ret (pv 4)))))),
      (sSeq (sAsg (sOwn sNil) sName)
      (sSeq (sAsg sInt sName)
      (sSeq (sFor (siR1 sVar) (fun _ _ _ => sName) (fun _ _ _ => (sSeq (sAsg (sCall (sCons sVar (sCons (sOp roIxL (sLst (sCons sInt (sCons sInt (sCons sInt sNil)))) (sCall (sCons sVar (sCons sInt sNil)))) sNil))) sName)
      (sIfS (sAnd (sTest (sOp (roIn (neg := true)) sVar sVar)) (sTest (sOp roBl0 (sOp roInt sVar (sCall (sCons sVar (sCons sVar sNil)))) sVar))) (sSeq (sDrop (sApp sVar sVar))
      (sAsg (sOp roInt sVar (sCall (sCons sVar (sCons sVar sNil)))) sName)) sNext))))
      (sRet sRest))))⟩) (fun ds μ Φ Ψ h => ?hv)
  case hv =>
    obtain ⟨st, ns, c, ws, n, m, rfl, hc, sc, hw, hn, m1, m2, h⟩ := h
    refine seq_cut fun M hM => ?_
    walk_at "wp"
    refine ⟨by omega, fun p hp => ?_⟩
    have hps : p ≠ st := fun z => by rw [z, hc] at hp; cases hp
    rw [hM]; clear hM M
    walk_at "wps"
    refine ⟨by omega, by omega, fun i δ' μ' => ∃ (acc : List Nat) (c' : List D) (x y : Option D), δ' = [some (.hd (.ref st)), some (.tup (ws.map .int)), some (.int (n : Int)), some (.int (m : Int)), some (.hd (.ref p)), some (.int ((wpl ws acc : Nat) : Int)), x, y] ∧ μ' p = some (.lst (nI acc)) ∧ μ' st = some (.lst c') ∧ (∀ a, a ≠ p → a ≠ st → μ' a = μ a) ∧ StC ns c' ∧ acc.Nodup ∧ (∀ q ∈ acc, q < 100) ∧ acc.length ≤ i ∧ (∀ j, j ≤ acc.length → wpl ws (acc.take j) ≤ m) ∧ (1 ≤ i → acc ≠ []), ⟨[], c, none, none, rfl, sset_same, by rw [sset_ne hps.symm, hc], fun a a1 a2 => sset_ne a1, sc, List.nodup_nil, by simp, Nat.le_refl _, fun j hj => by rw [List.take_nil]; show 1 ≤ m; omega, fun z => by omega⟩, ?_, ?_⟩
    · rintro i d δ' μ' hi ⟨acc, c2, x, y, rfl, w1, w2, w3, w4, w5, w6, w7, w8, w9⟩
      obtain ⟨hj, rfl⟩ := rngD_get hi
      walk_at "wp"
      refine ⟨by decide, st, ns, c2, 3, rfl, w2, w4, by decide, by decide, fun y c3 y0 y1 sc => ?_⟩
      obtain ⟨l, hl, l1, l100⟩ : ∃ l : Nat, atI [D.int 4, D.int 9, D.int 100] y = some (.int l) ∧ 1 ≤ l ∧ l ≤ 100 := by
        obtain ⟨q, rfl⟩ : ∃ q : Nat, y = (q : Int) := ⟨y.toNat, by omega⟩
        rcases (show q = 0 ∨ q = 1 ∨ q = 2 by omega) with rfl | rfl | rfl
        · exact ⟨4, atI_nat (j := 0) rfl, by decide, by decide⟩
        · exact ⟨9, atI_nat (j := 1) rfl, by decide, by decide⟩
        · exact ⟨100, atI_nat (j := 2) rfl, by decide, by decide⟩
      walk_at "wp"
      refine ⟨_, hl, st, ns, c3, l, rfl, sset_same, sc, by omega, log_small (by omega), fun y c4 y0 y1 sc => ?_⟩
      rw [sset_sset]
      obtain ⟨pl, rfl⟩ : ∃ pl : Nat, y = (pl : Int) := ⟨y.toNat, by omega⟩
      have hw1 := hw.wd1 pl
      have hpr : wpl ws acc ≤ 256 := by have := w8 acc.length (Nat.le_refl _); rw [List.take_length] at this; omega
      have hp4 : (sset μ' st (.lst c4)) p = some (.lst (nI acc)) := by rw [sset_ne hps, w1]
      have stay : ∀ (a : Addr), a ≠ p → a ≠ st → (sset μ' st (.lst c4)) a = μ a := fun a a1 a2 => by rw [sset_ne a2, w3 a a1 a2]
      walk_at "wp"
      refine nin_N ⟨.own hp4, ?_⟩
      refine ⟨_, rfl, fun q => ?_, fun q => ?_⟩
      · have hnin : pl ∉ acc := by simpa using q
        refine ⟨ws, pl, rfl, hw, ?_⟩
        walk_at "wp"
        refine ⟨mulx 10 4 (by omega) (by omega) (by decide), fun q2 => ?_, fun q2 => ?_⟩
        · refine ⟨_, hp4, _, hp4, by rw [nI_len]; omega, ws, pl, rfl, hw, ?_⟩
          walk_at "wp"
          refine ⟨mulx 10 4 (by omega) (by omega) (by decide), acc ++ [pl], c4, _, _, by rw [wpl_snoc]; rfl, by unfold nI; rw [List.map_append]; rfl, by rw [sset_ne hps.symm, sset_same], fun a a1 a2 => by rw [sset_ne a1, stay a a1 a2], sc, ?_, ?_, by rw [List.length_append]; simp; omega, fun j hj => ?_, fun _ z => by simp at z⟩
          · exact List.nodup_append.mpr ⟨w5, by simp, fun a ha b hb => by rw [List.mem_singleton.mp hb]; exact fun e => hnin (e ▸ ha)⟩
          · intro q hq
            rcases List.mem_append.mp hq with z | z
            · exact w6 q z
            · rw [List.mem_singleton.mp z]; omega
          · rw [List.length_append, List.length_singleton] at hj
            by_cases z : j ≤ acc.length
            · rw [List.take_append_of_le_length z]; exact w8 j z
            · have e : j = (acc ++ [pl]).length := by rw [List.length_append, List.length_singleton]; omega
              rw [e, List.take_length, wpl_snoc]
              have : ((wpl ws acc * wd ws pl : Nat) : Int) ≤ (m : Int) := by rw [Int.natCast_mul]; exact q2
              omega
        · refine ⟨acc, c4, _, _, rfl, hp4, rfl, stay, sc, w5, w6, by omega, w8, fun _ z => ?_⟩
          subst z
          apply q2
          show ((1 : Nat) : Int) * (wd ws pl : Int) ≤ (m : Int)
          omega
      · have hin : pl ∈ acc := by simpa using q
        exact ⟨acc, c4, _, _, rfl, hp4, sset_same, stay, sc, w5, w6, by omega, w8, fun _ z => by rw [z] at hin; cases hin⟩
    · rintro δ' μ' ⟨acc, c2, x, y, rfl, w1, w2, w3, w4, w5, w6, w7, w8, w9⟩
      walk_at "wps"
      refine ⟨nI acc, w1, sset μ st (.lst c2), fun a x e => ?_, h acc c2 w5 w6 w7 w8 w9 w4⟩
      by_cases as : a = st
      · subst as
        rw [sset_same] at e
        cases e
        rw [sset_ne hps.symm, w2]
      · rw [sset_ne as] at e
        have ap : a ≠ p := fun z => by rw [z, hp] at e; cases e
        rw [sset_ne ap, w3 a ap as, e]
/-- how many looks a term of so many levels has at most -/
def lkN : Nat → Nat
  | 0 => 0
  | n + 1 => 1 + 4 * lkN n
def c__law_term (n : Nat) : Con := fun ds μ Φ _ => ∃ (st : Addr) (ns : List Int) (c : List D) (ws : List Int) (oc lv : Nat) (ps : List Nat), ds = [.hd (.ref st), .lst [.tup (ws.map .int), .int (oc : Int)], .lst (nI ps), .int (lv : Int)] ∧ μ st = some (.lst c) ∧ StC ns c ∧ WsOk ws ∧ 1 ≤ oc ∧ oc ≤ 4 ∧ ps ≠ [] ∧ ps.length ≤ 8 ∧ (∀ p ∈ ps, p < 100) ∧ lv < n ∧ lv ≤ 20 ∧
  ∀ t c', QOk ws oc t → qDep t ≤ lv → (∀ q ∈ qPl t, q ∈ ps) → (qPl t).length ≤ lkN lv → StC ns c' → Φ (qD t) (sset μ st (.lst c'))
theorem len__law_term {n ds μ Φ Ψ} (h : c__law_term n ds μ Φ Ψ) : ds.length = 4 := by obtain ⟨_, _, _, _, _, _, _, rfl, _⟩ := h; rfl
theorem step__law_term (T : Txt P w K mg) {k : Nat} (hk : 2 ≤ k) (n : Nat) (ih__law_term : FnOk P w K mg base (L2N.CX P w) k T.f__law_term T.d__law_term ["_law_state", "_law_size", "_law_places_here", "_law_levels"] (spOf K (c__law_term n))) : FnOk P w K mg base (L2N.CX P w) (k + 1) T.f__law_term T.d__law_term ["_law_state", "_law_size", "_law_places_here", "_law_levels"] (spOf K (c__law_term (n + 1))) := by
  refine def_okC T.F__law_term sc__law_term _ (fun ds μ Φ Ψ h => len__law_term h) (fun cdv A outer s H E B hW hr =>
    have tk : L2N.Takes (cxOf (L2N.CX P w) P w K mg base N__law_term "_law_term" (defScope s__law_term) T.f__law_term cdv A outer s H E) (fun cls d _ H => E cls d H) := L2N.takes_of rfl rfl rfl rfl
    ⟨_, (pss_cons (ps_if (PW.pt (pw_or (pt_cmpR op_eq (pv 3) pe_int (nomark _)) (pw_or1 (pt_cmpR op_eq (pe_call (ok__law_pick T) (hr.mono (by omega)) rfl T.g__law_pick T.F__law_pick.kp T.b__law_pick .nil passN (pa_cons (pv 0) (pa_cons pe_int pa_nil))) pe_int (nomark _))))) (pss_one (ps_ret (pe_tupN (pa_cons pe_str (pa_cons (pe_call (ok__law_pick T) (hr.mono (by omega)) rfl T.g__law_pick T.F__law_pick.kp T.b__law_pick .nil passN (pa_cons (pv 0) (pa_cons (pe_ix ix_list (pv 1) pe_int (fun _ _ => rfl)) pa_nil))) pa_nil))))) pss_nil)
      (pss_cons (ps_set (i := 4) sc__law_term.nd rfl (Or.inl rfl) (pe_ix ix_list (pv 2) (pe_call (ok__law_pick T) (hr.mono (by omega)) rfl T.g__law_pick T.F__law_pick.kp T.b__law_pick .nil passN (pa_cons (pv 0) (pa_cons (pe_callB call_len_seq (by rfl) T.z_len PySem.boot_len (pa_cons (pv 2) pa_nil)) pa_nil))) (fun _ _ => rfl)))
      (pss_cons (ps_set (i := 5) sc__law_term.nd rfl (Or.inl rfl) (pe_call (ok__law_width T) (hr.mono (by omega)) rfl T.g__law_width T.F__law_width.kp T.b__law_width .nil passN (pa_cons (pe_ix ix_list (pv 1) pe_int (fun _ _ => rfl)) (pa_cons (pv 4) pa_nil))))
      (pss_one (ps_ret (pe_op op_catN (pe_tupN (pa_cons pe_str (pa_cons (pv 4) pa_nil))) (pe_callTy call_tupleN (by rfl) T.z_tuple (by decide +kernel) (pa_cons (pe_lc (own := [("_law_x", 6)]) rfl sc__law_term.nd (pi_range1 rfl T.z_range (pa_cons (pv 5) pa_nil)) (blkOk_by (N := N__law_term) (sc := defScope s__law_term) (by decide +kernel)) (fun _ _ _ _ _ => (pg_name (i := 6) sc__law_term.nd rfl (Or.inl rfl))) (fun _ _ _ _ _ => pts_nil) (fun _ _ _ _ _ => (pe_call ih__law_term hr rfl T.g__law_term T.F__law_term.kp T.b__law_term .nil passN (pa_cons (pv 0) (pa_cons (pv 1) (pa_cons (pv 2) (pa_cons (pe_op op_sub (pv 3) pe_int) pa_nil))))))) pa_nil)))))))),
      (sSeq (sIfS (sOr (sTest (sOp roEq sVar sInt)) (sTest (sOp roEq (sCall (sCons sVar (sCons sInt sNil))) sInt))) (sRet (sTup (sCons sStr (sCons (sCall (sCons sVar (sCons (sOp roIxL sVar sInt) sNil))) sNil)))) sNext)
      (sSeq (sAsg (sOp roIxL sVar (sCall (sCons sVar (sCons (sCB rcLen (sCons sVar sNil)) sNil)))) sName)
      (sSeq (sAsg (sCall (sCons (sOp roIxL sVar sInt) (sCons sVar sNil))) sName)
      (sRet (sOp roCatT (sTup (sCons sStr (sCons sVar sNil))) (sCB rcTuple (sCons (sLc (siR1 sVar) (gwName List.mem_cons_self) (fun _ _ _ => sName) (fun _ _ _ => sYes) (fun _ _ _ => (sCall (sCons sVar (sCons sVar (sCons sVar (sCons (sOp roInt0 sVar sInt) sNil))))))) sNil)))))))⟩) (fun ds μ Φ Ψ h => ?hv)
  case hv =>
    obtain ⟨st, ns, c, ws, oc, lv, ps, rfl, hc, sc, hw, o1, o4, hne, h8, h100, hn, h20, h⟩ := h
    have hpl : 0 < ps.length := List.length_pos_iff.mpr hne
    have tell : ∀ (μ1 : Sto) (c1 : List D), (∀ c2, sset μ1 st (.lst c2) = sset μ st (.lst c2)) → μ1 st = some (.lst c1) → StC ns c1 → c__law_pick [.hd (.ref st), .int (oc : Int)] μ1 (fun y μ' => 2 ≤ 100000 ∧ ∃ μ2, DW.Sub μ2 μ' ∧ Φ (.tup [.str "tell", y]) μ2) fun _ _ => False := fun μ1 c1 hm hs sc => by
      refine ⟨st, ns, c1, oc, rfl, hs, sc, by omega, log_small (by omega), fun y c2 y0 y1 sc => ⟨by omega, ?_⟩⟩
      rw [hm]
      obtain ⟨o, rfl⟩ : ∃ o : Nat, y = (o : Int) := ⟨y.toNat, by omega⟩
      exact ret_same (h (.tell o) c2 (show o < oc by omega) (Nat.zero_le _) (fun q z => by simp [qPl] at z) (Nat.zero_le _) sc)
    refine seq_cut fun M hM => ?_
    walk_at "wp"
    refine ⟨fun _ => tell μ c (fun _ => rfl) hc sc, fun q => ⟨st, ns, c, 5, rfl, hc, sc, by decide, by decide, fun y c1 y0 y1 sc => ?_⟩⟩
    walk_at "wp"
    refine ⟨fun _ => tell _ c1 (fun _ => sset_sset) sset_same sc, fun _ => ?_⟩
    obtain ⟨lw, rfl⟩ : ∃ lw : Nat, lv = lw + 1 := ⟨lv - 1, by omega⟩
    rw [hM]; clear hM M tell
    refine seq_cut fun M hM => ?_
    walk_at "wp"
    refine ⟨st, ns, c1, ps.length, by rw [nI_len], sset_same, sc, by omega, log_small (by omega), fun y c2 y0 y1 sc => ?_⟩
    rw [sset_sset]
    obtain ⟨i, rfl⟩ : ∃ i : Nat, y = (i : Int) := ⟨y.toNat, by omega⟩
    have hi : i < ps.length := by omega
    have hw1 := hw.wd1 ps[i]
    have hp100 := h100 _ (List.getElem_mem hi)
    walk_at "wp"
    refine ⟨_, atI_nat (v := .int ((ps[i] : Nat) : Int)) (by unfold nI; rw [List.getElem?_map, List.getElem?_eq_getElem hi]; rfl), ?_⟩
    generalize hpi : ps[i] = p at *
    rw [hM]; clear hM M
    refine seq_cut fun M hM => ?_
    walk_at "wp"
    refine ⟨ws, p, rfl, hw, ?_⟩
    rw [hM]; clear hM M
    walk_at "wps"
    refine ⟨by omega, by omega, by omega, lcG_drawN (StC ns) (fun i acc => ∃ ts : List QT, acc = qDs ts ∧ ts.length = i ∧ (∀ t ∈ ts, QOk ws oc t ∧ qDep t ≤ lw ∧ (∀ q ∈ qPl t, q ∈ ps) ∧ (qPl t).length ≤ lkN lw)) (by rw [rngD_len]; omega) sset_same sc ⟨[], rfl, rfl, by simp⟩ (fun i d μ2 X acc c3 hi hs2 sc ⟨ts, e, hl, hT⟩ hla hx => ?_) (fun acc c3 ⟨ts, e, hl, hT⟩ hla sc => ?_)⟩
    · obtain ⟨hj, rfl⟩ := rngD_get hi
      walk_at "wps"
      refine ⟨st, ns, c3, ws, oc, lw, ps, by rw [show ((lw + 1 : Nat) : Int) - 1 = (lw : Int) by omega], hs2, sc, hw, o1, o4, hne, h8, h100, by omega, by omega, fun t c4 a b cc dd sc4 => hx _ c4 sc4 ⟨ts ++ [t], by rw [e, qDs_map, qDs_map, List.map_append]; rfl, by rw [List.length_append, hl]; rfl, fun s hs => ?_⟩⟩
      rcases List.mem_append.mp hs with z | z
      · exact hT s z
      · rw [List.mem_singleton.mp z]; exact ⟨a, b, cc, dd⟩
    · rw [rngD_len] at hl
      rw [sset_sset, e]
      have b1 := qpls_bound (k := lkN lw + 1) ts fun t ht => by have := (hT t ht).2.2.2; omega
      have b2 := qdeps_bound (k := lw) ts fun t ht => (hT t ht).2.1
      have b3 : ts.length * lkN lw ≤ 4 * lkN lw := Nat.mul_le_mul_right _ (by omega)
      rw [Nat.mul_add, Nat.mul_one] at b1
      refine ⟨_, .lst _, by rw [qDs_len]; omega, ret_same (h (.look p ts) c3 ⟨hp100, hl, qoks_iff.mpr fun t ht => (hT t ht).1⟩ (by rw [qDep]; omega) (fun q hq => ?_) (by rw [qPl, List.length_cons, lkN]; omega) sc)⟩
      rw [qPl] at hq
      rcases List.mem_cons.mp hq with z | z
      · rw [z, ← hpi]; exact List.getElem_mem _
      · obtain ⟨t, ht, hq2⟩ := qpls_mem.mp z
        exact (hT t ht).2.2.1 q hq2
/-- how many looks a tree over these places has at most -/
def lkO (ws : List Int) : List Nat → Nat
  | [] => 0
  | p :: ps => 1 + wd ws p * lkO ws ps
def c__law_tree (n : Nat) : Con := fun ds μ Φ _ => ∃ (st : Addr) (ns : List Int) (c : List D) (ws : List Int) (oc : Nat) (ps ms : List Nat) (tot : Int), ds = [.hd (.ref st), .lst [.tup (ws.map .int), .int (oc : Int)], .lst (nI ps), .lst (nI ms), .int tot] ∧ μ st = some (.lst c) ∧ StC ns c ∧ WsOk ws ∧ 1 ≤ oc ∧ oc ≤ 4 ∧ ps.length ≤ 8 ∧ ms.length ≤ 8 ∧ (∀ p ∈ ps, p < 100) ∧ ps.length < n ∧
  ∀ t c', QOk ws oc t → qDep t ≤ ps.length → (∀ q ∈ qPl t, q ∈ ps) → (qPl t).length ≤ lkO ws ps → StC ns c' → Φ (qD t) (sset μ st (.lst c'))
theorem len__law_tree {n ds μ Φ Ψ} (h : c__law_tree n ds μ Φ Ψ) : ds.length = 5 := by obtain ⟨_, _, _, _, _, _, _, _, rfl, _⟩ := h; rfl
theorem step__law_tree (T : Txt P w K mg) {k : Nat} (hk : 2 ≤ k) (n : Nat) (ih__law_tree : FnOk P w K mg base (L2N.CX P w) k T.f__law_tree T.d__law_tree ["_law_state", "_law_size", "_law_order", "_law_marked", "_law_total"] (spOf K (c__law_tree n))) : FnOk P w K mg base (L2N.CX P w) (k + 1) T.f__law_tree T.d__law_tree ["_law_state", "_law_size", "_law_order", "_law_marked", "_law_total"] (spOf K (c__law_tree (n + 1))) := by
  refine def_okC T.F__law_tree sc__law_tree _ (fun ds μ Φ Ψ h => len__law_tree h) (fun cdv A outer s H E B hW hr =>
    have tk : L2N.Takes (cxOf (L2N.CX P w) P w K mg base N__law_tree "_law_tree" (defScope s__law_tree) T.f__law_tree cdv A outer s H E) (fun cls d _ H => E cls d H) := L2N.takes_of rfl rfl rfl rfl
    ⟨_, (pss_cons (ps_if (pt_cmpR op_eq (pe_callB call_len_seq (by rfl) T.z_len PySem.boot_len (pa_cons (pv 2) pa_nil)) pe_int (nomark _)) (pss_cons (ps_if (pt_cmpR op_eq (pe_callB call_len_seq (by rfl) T.z_len PySem.boot_len (pa_cons (pv 3) pa_nil)) pe_int (nomark _)) (pss_one (ps_ret (pe_tupN (pa_cons pe_str (pa_cons (pe_call (ok__law_pick T) (hr.mono (by omega)) rfl T.g__law_pick T.F__law_pick.kp T.b__law_pick .nil passN (pa_cons (pv 0) (pa_cons (pe_ix ix_list (pv 1) pe_int (fun _ _ => rfl)) pa_nil))) pa_nil))))) pss_nil)
      (pss_one (ps_ret (pe_tupN (pa_cons pe_str (pa_cons (pe_op op_mod (pe_callTy call_int1 (by rfl) T.z_int (by decide +kernel) (pa_cons (pv 4) pa_nil)) (pe_ix ix_list (pv 1) pe_int (fun _ _ => rfl))) pa_nil)))))) pss_nil)
      (pss_cons (ps_set (i := 5) sc__law_tree.nd rfl (Or.inl rfl) (pe_ix ix_list (pv 2) pe_int (fun _ _ => rfl)))
      (pss_cons (ps_set (i := 6) sc__law_tree.nd rfl (Or.inl rfl) (pe_lst pa_nil))
      (pss_cons (ps_for (passes_of rfl) rfl (pi_range1 rfl T.z_range (pa_cons (pe_call (ok__law_width T) (hr.mono (by omega)) rfl T.g__law_width T.F__law_width.kp T.b__law_width .nil passN (pa_cons (pe_ix ix_list (pv 1) pe_int (fun _ _ => rfl)) (pa_cons (pv 5) pa_nil))) pa_nil)) (pg_name (i := 7) sc__law_tree.nd rfl (Or.inl rfl)) (pss_cons (ps_set (i := 8) sc__law_tree.nd rfl (Or.inl rfl) (pv 4))
      (pss_cons (ps_if (pt_cmpR op_in_seq (pv 5) (pv 3) (by with_unfolding_all rfl)) (pss_one (ps_set (i := 8) sc__law_tree.nd rfl (Or.inl rfl) (pe_op op_add (pv 4) (pv 7)))) pss_nil)
      (pss_one (ps_expr (pe_bm PySem.F.plainAttrs_list PySem.F.slot_list_append PySem.F.type_list_append mt_append (pv 6) (pa_cons (pe_call ih__law_tree hr rfl T.g__law_tree T.F__law_tree.kp T.b__law_tree .nil passN (pa_cons (pv 0) (pa_cons (pv 1) (pa_cons (pe_slice sl_list (pv 2) (po_some pe_int) po_none) (pa_cons (pv 3) (pa_cons (pv 8) pa_nil)))))) pa_nil)))))))
      (pss_one (ps_ret (pe_op op_catN (pe_tupN (pa_cons pe_str (pa_cons (pv 5) pa_nil))) (pe_callTy call_tupleN (by rfl) T.z_tuple (by decide +kernel) (pa_cons (pv 6) pa_nil))))))))),
      (sSeq (sIfS (sTest (sOp roEq (sCB rcLen (sCons sVar sNil)) sInt)) (sSeq (sIfS (sTest (sOp roEq (sCB rcLen (sCons sVar sNil)) sInt)) (sRet (sTup (sCons sStr (sCons (sCall (sCons sVar (sCons (sOp roIxL sVar sInt) sNil))) sNil)))) sNext)
      (sRet (sTup (sCons sStr (sCons (sOp roInt (sCB rcInt (sCons sVar sNil)) (sOp roIxL sVar sInt)) sNil))))) sNext)
      (sSeq (sAsg (sOp roIxL sVar sInt) sName)
      (sSeq (sAsg (sOwn sNil) sName)
      (sSeq (sFor (siR1 (sCall (sCons (sOp roIxL sVar sInt) (sCons sVar sNil)))) (fun _ _ _ => sName) (fun _ _ _ => (sSeq (sAsg sVar sName)
      (sSeq (sIfS (sTest (sOp (roIn (neg := false)) sVar sVar)) (sAsg (sOp roInt0 sVar sVar) sName) sNext)
      (sDrop (sApp sVar (sCall (sCons sVar (sCons sVar (sCons (sSlL sVar (sPart sInt) sNoPart) (sCons sVar (sCons sVar sNil))))))))))))
      (sRet (sOp roCatT (sTup (sCons sStr (sCons sVar sNil))) (sCB rcTuple (sCons sVar sNil))))))))⟩) (fun ds μ Φ Ψ h => ?hv)
  case hv =>
    obtain ⟨st, ns, c, ws, oc, ps, ms, tot, rfl, hc, sc, hw, o1, o4, h8, hm8, h100, hn, h⟩ := h
    refine seq_cut fun M hM => ?_
    walk_at "wp"
    rw [nI_len]
    refine ⟨fun q => ?_, fun q => ?_⟩
    · have tell : ∀ (o : Nat) c2, o < oc → StC ns c2 → Φ (.tup [.str "tell", .int (o : Int)]) (sset μ st (.lst c2)) := fun o c2 ho sc => h (.tell o) c2 ho (Nat.zero_le _) (fun q z => by simp [qPl] at z) (Nat.zero_le _) sc
      refine seq_cut fun N hN => ?_
      walk_at "wp"
      refine ⟨fun _ => ⟨st, ns, c, oc, rfl, hc, sc, by omega, log_small (by omega), fun y c2 y0 y1 sc => ⟨by omega, ?_⟩⟩, fun _ => ?_⟩
      · obtain ⟨o, rfl⟩ : ∃ o : Nat, y = (o : Int) := ⟨y.toNat, by omega⟩
        exact ret_same (tell o c2 (by omega) sc)
      · rw [hN]; clear hN N
        walk_at "wp"
        have z0 := Int.emod_nonneg tot (show (oc : Int) ≠ 0 by omega)
        have z1 := Int.emod_lt_of_pos tot (show (0 : Int) < (oc : Int) by omega)
        obtain ⟨o, ho⟩ : ∃ o : Nat, tot % (oc : Int) = (o : Int) := ⟨_, (Int.toNat_of_nonneg z0).symm⟩
        rw [ho]
        have t2 := tell o c (by omega) sc
        rw [sset_idl hc] at t2
        exact ⟨by omega, by omega, ret_same t2⟩
    · obtain ⟨p, qs, rfl⟩ : ∃ p qs, ps = p :: qs := by
        cases ps with
        | nil => exact absurd rfl q
        | cons p qs => exact ⟨p, qs, rfl⟩
      have hw1 := hw.wd1 p
      have hp100 := h100 p List.mem_cons_self
      rw [hM]; clear hM M
      refine seq_cut fun M hM => ?_
      walk_at "wp"
      refine ⟨_, atI_nat (j := 0) (v := .int (p : Int)) rfl, ?_⟩
      rw [hM]; clear hM M
      refine seq_cut fun M hM => ?_
      walk_at "wp"
      refine ⟨by omega, fun b hb => ?_⟩
      have hbs : b ≠ st := fun z => by rw [z, hc] at hb; cases hb
      rw [hM]; clear hM M
      refine seq_cut fun M hM => ?_
      walk_at "wp"
      refine ⟨ws, p, rfl, hw, _, rfl, by omega, by omega, ?_⟩
      rw [show ((wd ws p : Nat) : Int).toNat = wd ws p by omega]
      refine ⟨fun i δ' μ' => ∃ (ts : List QT) (c' : List D) (x y : Option D), δ' = [some (.hd (.ref st)), some (.lst [.tup (ws.map .int), .int (oc : Int)]), some (.lst (nI (p :: qs))), some (.lst (nI ms)), some (.int tot), some (.int (p : Int)), some (.hd (.ref b)), x, y] ∧ μ' b = some (.lst (qDs ts)) ∧ μ' st = some (.lst c') ∧ (∀ a, a ≠ b → a ≠ st → μ' a = μ a) ∧ StC ns c' ∧ ts.length = i ∧ ∀ t ∈ ts, QOk ws oc t ∧ qDep t ≤ qs.length ∧ (∀ q ∈ qPl t, q ∈ qs) ∧ (qPl t).length ≤ lkO ws qs, ⟨[], c, none, none, rfl, sset_same, by rw [sset_ne hbs.symm, hc], fun a a1 a2 => sset_ne a1, sc, rfl, by simp⟩, ?_, ?_⟩
      · rintro i d δ' μ' hi ⟨ts, c2, x, y, rfl, w1, w2, w3, w4, w5, w6⟩
        obtain ⟨hj, rfl⟩ := rngD_get hi
        refine seq_cut fun N hN => ?_
        walk_at "wp"
        rw [hN]; clear hN N
        refine seq_cut fun N hN => ?_
        have fin : ∀ more : Int, N [some (.hd (.ref st)), some (.lst [.tup (ws.map .int), .int (oc : Int)]), some (.lst (nI (p :: qs))), some (.lst (nI ms)), some (.int tot), some (.int (p : Int)), some (.hd (.ref b)), some (.int (i : Int)), some (.int more)] μ' := fun more => by
          rw [hN]; clear hN N
          walk_at "wp"
          have ec : DW.cutD (nI (p :: qs)) (some 1) none = nI qs := by rw [show (1 : Int) = ((1 : Nat) : Int) from rfl, cut_from]; rfl
          rw [ec]
          refine ⟨_, w1, st, ns, c2, ws, oc, qs, ms, more, rfl, w2, w4, hw, o1, o4, by rw [List.length_cons] at h8; omega, hm8, fun q hq => h100 q (List.mem_cons_of_mem _ hq), by rw [List.length_cons] at hn; omega, fun t c3 a1 a2 a3 a4 sc3 => ?_⟩
          have hb3 : (sset μ' st (.lst c3)) b = some (.lst (qDs ts)) := by rw [sset_ne hbs, w1]
          refine ⟨_, hb3, by rw [qDs_len]; omega, ts ++ [t], c3, _, _, rfl, ?_, by rw [sset_ne hbs.symm, sset_same], fun a b1 b2 => by rw [sset_ne b1, sset_ne b2, w3 a b1 b2], sc3, by rw [List.length_append, w5]; rfl, fun s hs => ?_⟩
          · rw [qDs_map, qDs_map, List.map_append]; rfl
          · rcases List.mem_append.mp hs with z | z
            · exact w6 s z
            · rw [List.mem_singleton.mp z]; exact ⟨a1, a2, a3, a4⟩
        walk_at "wp"
        refine in_N ⟨.lst _, ?_⟩
        refine ⟨_, rfl, fun _ => ?_, fun _ => ?_⟩
        · walk_at "wp"
          exact fin _
        · exact fin _
      · rintro δ' μ' ⟨ts, c2, x, y, rfl, w1, w2, w3, w4, w5, w6⟩
        have b1 := qpls_bound (k := lkO ws qs + 1) ts fun t ht => by have := (w6 t ht).2.2.2; omega
        have b2 := qdeps_bound (k := qs.length) ts fun t ht => (w6 t ht).2.1
        rw [Nat.mul_add, Nat.mul_one, w5] at b1
        rw [hM]; clear hM M
        walk_at "wp"
        refine ⟨by omega, .inl ⟨_, w1, by rw [qDs_len]; omega, sset μ st (.lst c2), fun a x e => ?_, h (.look p ts) c2 ⟨hp100, w5, qoks_iff.mpr fun t ht => (w6 t ht).1⟩ (by rw [qDep, List.length_cons]; omega) (fun q hq => ?_) (by rw [qPl, List.length_cons, lkO]; omega) w4⟩⟩
        · by_cases as : a = st
          · subst as
            rw [sset_same] at e
            cases e
            exact w2
          · rw [sset_ne as] at e
            have ap : a ≠ b := fun z => by rw [z, hb] at e; cases e
            rw [w3 a ap as, e]
        · rw [qPl] at hq
          rcases List.mem_cons.mp hq with z | z
          · rw [z]; exact List.mem_cons_self
          · obtain ⟨t, ht, hq2⟩ := qpls_mem.mp z
            exact List.mem_cons_of_mem _ ((w6 t ht).2.2.1 q hq2)
end
section
variable {P : Program} {w : World} {K : Fg} {mg : Str → Option Value} {base : Heap}
def c__law_is_settled (n : Nat) : Con := fun ds μ Φ _ => ∃ (ws : List Int) (oc lo : Nat) (t : QT), ds = [qD t, .lst [.tup (ws.map .int), .int (oc : Int)], .int (lo : Int)] ∧ WsOk ws ∧ IsS ws oc lo t ∧ qDep t < n ∧ qDep t ≤ 20 ∧ Φ (.bl true) μ
theorem len__law_is_settled {n ds μ Φ Ψ} (h : c__law_is_settled n ds μ Φ Ψ) : ds.length = 3 := by obtain ⟨_, _, _, _, rfl, _⟩ := h; rfl
theorem step__law_is_settled (T : Txt P w K mg) {k : Nat} (hk : 2 ≤ k) (n : Nat) (ih__law_is_settled : FnOk P w K mg base (L2N.CX P w) k T.f__law_is_settled T.d__law_is_settled ["_law_term_here", "_law_size", "_law_least"] (spOf K (c__law_is_settled n))) : FnOk P w K mg base (L2N.CX P w) (k + 1) T.f__law_is_settled T.d__law_is_settled ["_law_term_here", "_law_size", "_law_least"] (spOf K (c__law_is_settled (n + 1))) := by
  refine def_okC T.F__law_is_settled sc__law_is_settled _ (fun ds μ Φ Ψ h => len__law_is_settled h) (fun cdv A outer s H E B hW hr =>
    have tk : L2N.Takes (cxOf (L2N.CX P w) P w K mg base N__law_is_settled "_law_is_settled" (defScope s__law_is_settled) T.f__law_is_settled cdv A outer s H E) (fun cls d _ H => E cls d H) := L2N.takes_of rfl rfl rfl rfl
    ⟨_, (pss_cons (ps_if (PW.pt (pw_or (pt_not (pt_val (pe_callB call_isi (by rfl) T.z_isinstance (by decide +kernel) (pa_cons (pv 0) (pa_cons (pe_bltn (v := .ty "tuple") rfl T.z_tuple (by decide +kernel) rfl) pa_nil))))) (pw_or1 (pt_cmpR op_lt (pe_callB call_len_seq (by rfl) T.z_len PySem.boot_len (pa_cons (pv 0) pa_nil)) pe_int (nomark _))))) (pss_one (ps_ret pe_bl)) pss_nil)
      (pss_cons (ps_if (pt_cmpR op_eq (pe_ix ix_tup (pv 0) pe_int (fun _ _ => rfl)) pe_str (nomark _)) (pss_one (ps_ret (pe_and (pe_cmpR op_eq (pe_callB call_len_seq (by rfl) T.z_len PySem.boot_len (pa_cons (pv 0) pa_nil)) pe_int (nomark _)) (pe_one (pe_call (ok__law_is_number T) (hr.mono (by omega)) rfl T.g__law_is_number T.F__law_is_number.kp T.b__law_is_number .nil passN (pa_cons (pe_ix ix_tup (pv 0) pe_int (fun _ _ => rfl)) (pa_cons (pe_ix ix_list (pv 1) pe_int (fun _ _ => rfl)) pa_nil))))))) pss_nil)
      (pss_cons (ps_if (PW.pt (pw_or (pt_cmpR op_ne (pe_ix ix_tup (pv 0) pe_int (fun _ _ => rfl)) pe_str (nomark _)) (pw_or (pt_not (pt_val (pe_call (ok__law_is_number T) (hr.mono (by omega)) rfl T.g__law_is_number T.F__law_is_number.kp T.b__law_is_number .nil passN (pa_cons (pe_ix ix_tup (pv 0) pe_int (fun _ _ => rfl)) (pa_cons pe_int pa_nil))))) (pw_or1 (pt_cmpR op_lt (pe_ix ix_tup (pv 0) pe_int (fun _ _ => rfl)) (pv 2) (nomark _)))))) (pss_one (ps_ret pe_bl)) pss_nil)
      (pss_cons (ps_if (PW.pt (pw_or (pt_cmpR op_ne (pe_callB call_len_seq (by rfl) T.z_len PySem.boot_len (pa_cons (pv 0) pa_nil)) (pe_op op_add pe_int (pe_call (ok__law_width T) (hr.mono (by omega)) rfl T.g__law_width T.F__law_width.kp T.b__law_width .nil passN (pa_cons (pe_ix ix_list (pv 1) pe_int (fun _ _ => rfl)) (pa_cons (pe_ix ix_tup (pv 0) pe_int (fun _ _ => rfl)) pa_nil)))) (nomark _)) (pw_or1 (pt_val (pe_callB (cr_all rfl) (by rfl) T.z_all (by decide +kernel) (pa_cons (pe_lc (own := [("_law_branch", 3)]) rfl sc__law_is_settled.nd (pi_tup (pe_slice sl_tupN (pv 0) (po_some pe_int) po_none)) (blkOk_by (N := N__law_is_settled) (sc := defScope s__law_is_settled) (by decide +kernel)) (fun _ _ _ _ _ => (pg_name (i := 3) sc__law_is_settled.nd rfl (Or.inl rfl))) (fun _ _ _ _ _ => pts_nil) (fun _ _ _ _ _ => (pe_cmpR (op_eqD hr.units) (pv 3) (pe_ix ix_tup (pv 0) pe_int (fun _ _ => rfl)) (nomark _)))) pa_nil)))))) (pss_one (ps_ret pe_bl)) pss_nil)
      (pss_one (ps_ret (pe_callB (cr_all rfl) (by rfl) T.z_all (by decide +kernel) (pa_cons (pe_lc (own := [("_law_branch", 3)]) rfl sc__law_is_settled.nd (pi_tup (pe_slice sl_tupN (pv 0) (po_some pe_int) po_none)) (blkOk_by (N := N__law_is_settled) (sc := defScope s__law_is_settled) (by decide +kernel)) (fun _ _ _ _ _ => (pg_name (i := 3) sc__law_is_settled.nd rfl (Or.inl rfl))) (fun _ _ _ _ _ => pts_nil) (fun _ _ _ _ _ => (pe_call ih__law_is_settled hr rfl T.g__law_is_settled T.F__law_is_settled.kp T.b__law_is_settled .nil passN (pa_cons (pv 3) (pa_cons (pv 1) (pa_cons (pe_op op_add (pe_ix ix_tup (pv 0) pe_int (fun _ _ => rfl)) pe_int) pa_nil)))))) pa_nil)))))))),
      (sSeq (sIfS (sOr (sNot (sB (sCB (rcIsi (T := "tuple")) (sCons sVar (sCons sHd sNil))))) (sTest (sOp roBl0 (sCB rcLen (sCons sVar sNil)) sInt))) (sRet sBl) sNext)
      (sSeq (sIfS (sTest (sOp roEq (sOp roIxT sVar sInt) sStr)) (sRet (sAndV (sOp roEq (sCB rcLen (sCons sVar sNil)) sInt) (sCall (sCons (sOp roIxT sVar sInt) (sCons (sOp roIxL sVar sInt) sNil))))) sNext)
      (sSeq (sIfS (sOr (sTest (sOp roNe (sOp roIxT sVar sInt) sStr)) (sOr (sNot (sB (sCall (sCons (sOp roIxT sVar sInt) (sCons sInt sNil))))) (sTest (sOp roBl0 (sOp roIxT sVar sInt) sVar)))) (sRet sBl) sNext)
      (sSeq (sIfS (sOr (sTest (sOp roNe (sCB rcLen (sCons sVar sNil)) (sOp roInt0 sInt (sCall (sCons (sOp roIxL sVar sInt) (sCons (sOp roIxT sVar sInt) sNil)))))) (sB (sCB rcAll (sCons (sLc (siT (sSlT sVar (sPart sInt) sNoPart)) (gwName List.mem_cons_self) (fun _ _ _ => sName) (fun _ _ _ => sYes) (fun _ _ _ => (sOp roEqD sVar (sOp roIxT sVar sInt)))) sNil)))) (sRet sBl) sNext)
      (sRet (sCB rcAll (sCons (sLc (siT (sSlT sVar (sPart sInt) sNoPart)) (gwName List.mem_cons_self) (fun _ _ _ => sName) (fun _ _ _ => sYes) (fun _ _ _ => (sCall (sCons sVar (sCons sVar (sCons (sOp roInt0 (sOp roIxT sVar sInt) sInt) sNil)))))) sNil)))))))⟩) (fun ds μ Φ Ψ h => ?hv)
  case hv =>
    obtain ⟨ws, oc, lo, t, rfl, hw, ht, hn, h20, h⟩ := h
    cases t with
    | tell o =>
      rw [IsS] at ht
      rw [qD]
      refine seq_cut fun M hM => ?_
      walk_at "wp"
      refine ⟨fun q => absurd q (by omega), fun _ => ?_⟩
      rw [hM]; clear hM M
      refine seq_cut fun M hM => ?_
      walk_at "wp"
      refine ⟨?_, fun z => absurd trivial z⟩
      simp only [w__law_is_number]
      walk_at "wp"
      rw [decide_eq_true (show 0 ≤ (o : Int) ∧ (o : Int) < (oc : Int) by omega)]
      exact ⟨fun _ => ret_same h, fun z => absurd rfl z⟩
    | look p ts =>
      rw [IsS] at ht
      obtain ⟨t0, t1, t2, t3, t4⟩ := ht
      rw [iss_iff] at t4
      rw [qDep] at hn h20
      have hw1 := hw.wd1 p
      have e1 : (qDs ts).length = ts.length := qDs_len ts
      rw [qD]
      refine seq_cut fun M hM => ?_
      walk_at "wp"
      refine ⟨fun q => absurd q (by omega), fun _ => ?_⟩
      rw [hM]; clear hM M
      refine seq_cut fun M hM => ?_
      walk_at "wp"
      refine ⟨fun q => absurd q (by decide), fun _ => ?_⟩
      rw [hM]; clear hM M
      refine seq_cut fun M hM => ?_
      walk_at "wp"
      refine ⟨fun q => absurd q (by decide), fun _ => ?_⟩
      simp only [w__law_is_number]
      walk_at "wp"
      rw [decide_eq_true (show 0 ≤ (p : Int) ∧ (p : Int) < 100 by omega)]
      walk_at "wp"
      refine ⟨fun q => absurd q (by omega), fun _ => ?_⟩
      rw [hM]; clear hM M
      refine seq_cut fun M hM => ?_
      walk_at "wp"
      refine ⟨ws, p, rfl, hw, ?_⟩
      walk_at "wp"
      refine ⟨fun q => (by rw [e1, t2, decide_eq_true (by omega)] at q; cases q), fun _ => ?_⟩
      obtain ⟨a, l, rfl⟩ : ∃ a l, ts = a :: l := by
        cases ts with
        | nil => simp at t2; omega
        | cons a l => exact ⟨a, l, rfl⟩
      have ec : DW.cutD (D.str "look" :: D.int (p : Int) :: qDs (a :: l)) (some 2) none = qDs (a :: l) := by rw [show (2 : Int) = ((2 : Nat) : Int) from rfl, cut_from]; rfl
      have side : ∀ t ∈ a :: l, EqSide (qD t) := fun t ht => ⟨eqOk_q t, by have := dpt_q t; have := qdeps_le ht; omega⟩
      rw [ec]
      refine lcG_mapN (fun i => .bl (eqD (qD ((a :: l).getD i (.tell 0))) (qD a))) (by rw [e1]; omega) (fun i d μ2 X hi hsub hx => ?_) ?_
      · obtain ⟨hil, rfl⟩ := qDs_get hi
        rw [List.getD_eq_getElem?_getD, List.getElem?_eq_getElem hil] at hx
        walk_at "wp"
        exact ⟨_, atI_nat (j := 2) (v := qD a) rfl, side _ (List.getElem_mem hil), side _ List.mem_cons_self, hx⟩
      rw [e1, rangeQ (fun t => D.bl (eqD (qD t) (qD a))) (a :: l)]
      refine w_allB (P := (a :: l).map fun t => eqD (qD t) (qD a)) (by rw [List.map_map]; rfl) ⟨_, rfl, fun q2 => ?_, fun q2 => ?_⟩
      · refine absurd (fun s hs => ?_) t3
        rw [List.all_map, List.all_eq_true] at q2
        have q3 := q2 s hs
        simp only [Function.comp, id] at q3
        rw [eqD_q] at q3
        exact @of_decide_eq_true _ (_) q3
      rw [hM]; clear hM M
      walk_at "wp"
      rw [ec]
      refine lcG_mapN (fun i => .bl true) (by rw [e1]; omega) (fun i d μ2 X hi hsub hx => ?_) ?_
      · obtain ⟨hil, rfl⟩ := qDs_get hi
        have hdl := qdeps_le (List.getElem_mem hil)
        walk_at "wps"
        exact ⟨ws, oc, p + 1, _, rfl, hw, t4 _ (List.getElem_mem hil), by omega, by omega, hx⟩
      · refine w_allB (P := (List.range (qDs (a :: l)).length).map fun _ => true) (by rw [List.map_map]; rfl) (ret_same ?_)
        have : ((List.range (qDs (a :: l)).length).map fun _ => true).all id = true := by rw [List.all_map]; exact List.all_eq_true.mpr fun _ _ => rfl
        rw [this]; exact h
def c__law_told : Con := fun ds μ Φ _ => ∃ (ws : List Int) (oc : Nat) (t : QT) (ps l : List Nat) (f : Nat → Nat), ds = [qD t, .lst (nI ps), .lst (nI l)] ∧ QOk ws oc t ∧ qDep t ≤ 20 ∧ (∀ q ∈ qPl t, q ∈ ps) ∧ ps.Nodup ∧ ps.length ≤ 8 ∧ HG ws ps l ∧ (∀ (i : Nat) (h : i < ps.length), f ps[i] = l.getD i 0) ∧ Φ (.int (qA f t : Int)) μ
theorem len__law_told {ds μ Φ Ψ} (h : c__law_told ds μ Φ Ψ) : ds.length = 3 := by obtain ⟨_, _, _, _, _, _, rfl, _⟩ := h; rfl
theorem ok__law_told {cx : CXT} (T : Txt P w K mg) : FnOk P w K mg base cx 1 T.f__law_told T.d__law_told ["_law_term_here", "_law_places_here", "_law_head"] (spOf K c__law_told) := by
  refine def_okC T.F__law_told sc__law_told _ (fun ds μ Φ Ψ h => len__law_told h) (fun cdv A outer s H E B hW hr =>
    ⟨_, (pss_cons (ps_for (passes_of rfl) rfl (pi_range1 rfl T.z_range (pa_cons pe_int pa_nil)) (pg_name (i := 3) sc__law_told.nd rfl (Or.inl rfl)) (pss_cons (ps_if (pt_cmpR op_eq (pe_ix ix_tup (pv 0) pe_int (fun _ _ => rfl)) pe_str (nomark _)) (pss_one (ps_ret (pe_ix ix_tup (pv 0) pe_int (fun _ _ => rfl)))) pss_nil)
      (pss_cons (ps_if (pt_cmpR op_notIn_seq (pe_ix ix_tup (pv 0) pe_int (fun _ _ => rfl)) (pv 1) (by with_unfolding_all rfl)) (pss_one (ps_ret pe_non)) pss_nil)
      (pss_one (ps_set (i := 0) sc__law_told.nd rfl (Or.inl rfl) (pe_ix ix_tup (pv 0) (pe_op op_add pe_int (pe_ix ix_list (pv 2) (pe_bm PySem.F.plainAttrs_list PySem.F.slot_list_index PySem.F.type_list_index mt_index (pv 1) (pa_cons (pe_ix ix_tup (pv 0) pe_int (fun _ _ => rfl)) pa_nil)) (fun _ _ => rfl))) (fun _ _ => rfl)))))))
      (pss_one (ps_ret pe_non))),
      (sSeq (sFor (siR1 sInt) (fun _ _ _ => sName) (fun _ _ _ => (sSeq (sIfS (sTest (sOp roEq (sOp roIxT sVar sInt) sStr)) (sRet (sOp roIxT sVar sInt)) sNext)
      (sSeq (sIfS (sTest (sOp (roIn (neg := true)) (sOp roIxT sVar sInt) sVar)) (sRet sNon) sNext)
      (sAsg (sOp roIxT sVar (sOp roInt0 sInt (sOp roIxL sVar (sIdx sVar (sOp roIxT sVar sInt))))) sName)))))
      (sRet sNon))⟩) (fun ds μ Φ Ψ h => ?hv)
  case hv =>
    obtain ⟨ws, oc, t, ps, l, f, rfl, ht, hd, hp, hnd, h8, hg, hf, h⟩ := h
    walk_at "wps"
    refine ⟨by omega, by omega, fun i δ' μ' => μ' = μ ∧ ∃ (s : QT) (x : Option D), δ' = [some (qD s), some (.lst (nI ps)), some (.lst (nI l)), x] ∧ QOk ws oc s ∧ qA f s = qA f t ∧ qDep s + i ≤ 20 ∧ ∀ q ∈ qPl s, q ∈ ps, ⟨rfl, t, none, rfl, ht, rfl, by omega, hp⟩, ?_, ?_⟩
    · rintro i d δ' μ' hi ⟨rfl, s, x, rfl, hs, ha, hds, hps⟩
      obtain ⟨hj, rfl⟩ := rngD_get hi
      cases s with
      | tell o =>
        rw [qD]
        walk_at "wp"
        exact ⟨ret_same (by rw [← ha] at h; exact h), fun z => absurd trivial z⟩
      | look p ts =>
        obtain ⟨hp1, hlen, hts⟩ := hs
        rw [qoks_iff] at hts
        rw [qDep] at hds
        have hpin := hps p (by rw [qPl]; exact List.mem_cons_self)
        obtain ⟨j, hj2, hpj⟩ := List.mem_iff_getElem.mp hpin
        have hlj : l.getD j 0 < wd ws p := by have := hg.2 j hj2; rw [List.getD_eq_getElem?_getD, List.getD_eq_getElem?_getD, List.getElem?_eq_getElem hj2, Option.getD_some, hpj] at this; rw [List.getD_eq_getElem?_getD]; exact this
        have hfj : f p = l.getD j 0 := by have := hf j hj2; rw [hpj] at this; exact this
        rw [qD]
        walk_at "wp"
        refine ⟨fun q => absurd q (by decide), fun _ => ?_⟩
        refine nin_N ⟨.lst _, ?_⟩
        refine ⟨_, rfl, fun q => absurd hpin (by simpa using q), fun _ => ?_⟩
        walk_at "wp"
        have hlt : l.getD j 0 < ts.length := by omega
        have hjl : j < l.length := by rw [hg.1]; exact hj2
        have hdl := qdeps_le (List.getElem_mem hlt)
        refine ⟨rfl, by rw [nI_ints]; exact flat_I _, j, .int (p : Int), by unfold nI; rw [List.getElem?_map, List.getElem?_eq_getElem hj2, hpj]; rfl, by simp [eqF], fun m z' hm hz => ?_, .int ((l.getD j 0 : Nat) : Int), ?_, ?_⟩
        · obtain ⟨hm2, rfl⟩ := nI_get hz
          have : ps[m] ≠ p := fun e => List.pairwise_iff_getElem.mp hnd m j hm2 hj2 hm (by rw [e, hpj])
          have : ¬ ((ps[m] : Nat) : Int) = (p : Int) := fun e => this (Int.ofNat.inj e)
          simp [eqF, this]
        · refine atI_nat ?_
          unfold nI
          rw [List.getElem?_map, List.getD_eq_getElem?_getD, List.getElem?_eq_getElem hjl]; rfl
        · walk_at "wp"
          have ei : (2 : Int) + ((l.getD j 0 : Nat) : Int) = ((l.getD j 0 + 1 + 1 : Nat) : Int) := by omega
          refine ⟨qD ts[l.getD j 0], ?_, ts[l.getD j 0], _, rfl, hts _ (List.getElem_mem hlt), ?_, by omega, fun q hq => hps q ?_⟩
          · rw [ei]
            exact atI_nat (by rw [List.getElem?_cons_succ, List.getElem?_cons_succ, qDs_map, List.getElem?_map, List.getElem?_eq_getElem hlt]; rfl)
          · rw [← ha]
            exact (qA_look (by rw [hfj]; exact List.getElem?_eq_getElem hlt)).symm
          · rw [qPl]
            exact List.mem_cons_of_mem _ (qpls_mem.mpr ⟨_, List.getElem_mem hlt, hq⟩)
    · rintro δ' μ' ⟨rfl, s, x, rfl, hs, ha, hds, hps⟩
      exact absurd hds (by have : Int.toNat 120 = 120 := rfl; omega)
end
section
variable {P : Program} {w : World} {K : Fg} {mg : Str → Option Value} {base : Heap}
section
variable {P : Program} {w : World} {K : Fg} {mg : Str → Option Value} {base : Heap}
theorem okN__law_term (T : Txt P w K mg) : ∀ n, FnOk P w K mg base (L2N.CX P w) (2 + n) T.f__law_term T.d__law_term ["_law_state", "_law_size", "_law_places_here", "_law_levels"] (spOf K (c__law_term n))
  | 0 => fn_never fun ds μ Φ Ψ h => by obtain ⟨_, _, _, _, _, _, _, _, _, _, _, _, _, _, _, _, h, _⟩ := h; omega
  | n + 1 => step__law_term T (k := 2 + n) (by omega) n (okN__law_term T n)
theorem ok__law_term (T : Txt P w K mg) : FnOk P w K mg base (L2N.CX P w) 8 T.f__law_term T.d__law_term ["_law_state", "_law_size", "_law_places_here", "_law_levels"] (spOf K (c__law_term 6)) := okN__law_term T 6
theorem okN__law_tree (T : Txt P w K mg) : ∀ n, FnOk P w K mg base (L2N.CX P w) (2 + n) T.f__law_tree T.d__law_tree ["_law_state", "_law_size", "_law_order", "_law_marked", "_law_total"] (spOf K (c__law_tree n))
  | 0 => fn_never fun ds μ Φ Ψ h => by obtain ⟨_, _, _, _, _, _, _, _, _, _, _, _, _, _, _, _, _, h, _⟩ := h; omega
  | n + 1 => step__law_tree T (k := 2 + n) (by omega) n (okN__law_tree T n)
theorem ok__law_tree (T : Txt P w K mg) : FnOk P w K mg base (L2N.CX P w) 12 T.f__law_tree T.d__law_tree ["_law_state", "_law_size", "_law_order", "_law_marked", "_law_total"] (spOf K (c__law_tree 9)) := (okN__law_tree T 9).mono (by decide)
theorem okN__law_is_settled (T : Txt P w K mg) : ∀ n, FnOk P w K mg base (L2N.CX P w) (2 + n) T.f__law_is_settled T.d__law_is_settled ["_law_term_here", "_law_size", "_law_least"] (spOf K (c__law_is_settled n))
  | 0 => fn_never fun ds μ Φ Ψ h => by obtain ⟨_, _, _, _, _, _, _, h, _⟩ := h; omega
  | n + 1 => step__law_is_settled T (k := 2 + n) (by omega) n (okN__law_is_settled T n)
theorem ok__law_is_settled (T : Txt P w K mg) : FnOk P w K mg base (L2N.CX P w) 14 T.f__law_is_settled T.d__law_is_settled ["_law_term_here", "_law_size", "_law_least"] (spOf K (c__law_is_settled 9)) := (okN__law_is_settled T 9).mono (by decide)
end
theorem wpl_wpr0 (ws : List Int) : ∀ (ps : List Nat) (a : Nat), ps.foldl (fun a p => a * wd ws p) a = a * wpr ws ps
  | [], a => by rw [wpr, Nat.mul_one]; rfl
  | p :: ps, a => by rw [List.foldl_cons, wpl_wpr0 ws ps, wpr, Nat.mul_assoc]
theorem wpl_wpr (ws : List Int) (ps : List Nat) : wpl ws ps = wpr ws ps := by unfold wpl; rw [wpl_wpr0, Nat.one_mul]
theorem wpr_perm {ws : List Int} {a b : List Nat} (h : a.Perm b) : wpr ws a = wpr ws b := by
  induction h with
  | nil => rfl
  | cons x _ ih => rw [wpr, wpr, ih]
  | swap x y l => rw [wpr, wpr, wpr, wpr, Nat.mul_left_comm]
  | trans _ _ i1 i2 => rw [i1, i2]
theorem wpr_sub {ws : List Int} (hw : WsOk ws) {a b : List Nat} (h : a.Sublist b) : wpr ws a ≤ wpr ws b := by
  induction h with
  | slnil => exact Nat.le_refl _
  | cons x _ ih => rw [wpr]; exact Nat.le_trans ih (Nat.le_mul_of_pos_left _ (hw.wd1 x).1)
  | cons_cons x _ ih => rw [wpr, wpr]; exact Nat.mul_le_mul_left _ ih
theorem lkO_two {ws : List Int} (hw : WsOk ws) : ∀ qs : List Nat, (∀ p ∈ qs, 2 ≤ wd ws p) → lkO ws qs + 1 ≤ wpr ws qs
  | [], _ => Nat.le_refl _
  | p :: qs, h => by
    rw [lkO, wpr]
    have h1 := lkO_two hw qs fun q hq => h q (List.mem_cons_of_mem _ hq)
    have h2 := h p List.mem_cons_self
    have h3 := Nat.mul_le_mul_left (wd ws p) h1
    rw [Nat.mul_add, Nat.mul_one] at h3
    omega
theorem lkO_len {ws : List Int} (hw : WsOk ws) : ∀ qs : List Nat, lkO ws qs ≤ qs.length * wpr ws qs
  | [] => Nat.zero_le _
  | p :: qs => by
    rw [lkO, wpr, List.length_cons, Nat.add_mul, Nat.one_mul]
    have h1 := Nat.mul_le_mul_left (wd ws p) (lkO_len hw qs)
    have h2 := Nat.mul_le_mul (hw.wd1 p).1 (wpr_pos hw qs)
    rw [Nat.mul_left_comm] at h1
    omega
theorem sorted_of {ps : List Nat} (h : ps.Nodup) : ∃ ss : List Nat, ss.Perm ps ∧ ss.Pairwise (· < ·) := by
  refine ⟨ps.mergeSort (fun a b => decide (a ≤ b)), List.mergeSort_perm _ _, ?_⟩
  have h1 := List.pairwise_mergeSort (le := fun a b => decide (a ≤ b)) (fun a b c x y => by simp at x y ⊢; omega) (fun a b => by simp; omega) ps
  have h2 : (ps.mergeSort (fun a b => decide (a ≤ b))).Nodup := (List.mergeSort_perm _ _).nodup_iff.mpr h
  exact (h1.and h2).imp fun {a b} q => by obtain ⟨x, y⟩ := q; simp at x; omega
theorem sideI (l : List Int) : EqSide (.tup (l.map .int)) := by
  refine ⟨?_, ?_⟩
  · rw [eqOk]
    induction l with
    | nil => rfl
    | cons x l ih => rw [List.map_cons, eqOks, ih]; rfl
  · rw [dpt]
    have : dpts (l.map D.int) = 0 := by
      induction l with
      | nil => rfl
      | cons x l ih => rw [List.map_cons, dpts, ih]; rfl
    omega
theorem choice_f {ws : List Int} {qs l : List Nat} (hw : WsOk ws) (nd : qs.Nodup) (hg : HG ws qs l) : ∃ f : Nat → Nat, (∀ p, f p < wd ws p) ∧ ∀ (i : Nat) (h : i < qs.length), f qs[i] = l.getD i 0 := by
  classical
  refine ⟨fun p => if h : ∃ i, ∃ hi : i < qs.length, qs[i] = p then l.getD h.choose 0 else 0, fun p => ?_, fun i hi => ?_⟩
  · show (if h : ∃ i, ∃ hi : i < qs.length, qs[i] = p then l.getD h.choose 0 else 0) < wd ws p
    split
    · rename_i h
      obtain ⟨h1, h2⟩ := h.choose_spec
      have := hg.2 _ h1
      rw [List.getD_eq_getElem?_getD (l := qs), List.getElem?_eq_getElem h1, Option.getD_some, h2] at this
      exact this
    · exact (hw.wd1 p).1
  · have hx : ∃ j, ∃ hj : j < qs.length, qs[j] = qs[i] := ⟨i, hi, rfl⟩
    show (if h : ∃ j, ∃ hj : j < qs.length, qs[j] = qs[i] then l.getD h.choose 0 else 0) = l.getD i 0
    rw [dif_pos hx]
    obtain ⟨h1, h2⟩ := hx.choose_spec
    have : hx.choose = i := by
      rcases Nat.lt_trichotomy hx.choose i with z | z | z
      · exact absurd h2 (List.pairwise_iff_getElem.mp nd _ _ h1 hi z)
      · exact z
      · exact absurd h2.symm (List.pairwise_iff_getElem.mp nd _ _ hi h1 z)
    rw [this]
theorem qA_lt {ws : List Int} {oc : Nat} {f : Nat → Nat} (hf : ∀ p, f p < wd ws p) : ∀ t, QOk ws oc t → qA f t < oc := fun t => by
  induction t using QT.ind with
  | h1 x => intro h; exact h
  | h2 p ts ih =>
    intro h
    obtain ⟨hp, hl, ht⟩ := h
    rw [qoks_iff] at ht
    have ho : f p < ts.length := by have := hf p; omega
    rw [qA_look (List.getElem?_eq_getElem ho)]
    exact ih _ (List.getElem_mem ho) (ht _ (List.getElem_mem ho))
/-- what the places of the law are -/
structure GoodP (ws : List Int) (how : Nat) (ps : List Nat) : Prop where
  nd : ps.Nodup
  lt : ∀ p ∈ ps, p < 100
  l8 : ps.length ≤ 8
  few : wpr ws ps ≤ 256
  alt : (how = 0 ∧ ∀ p ∈ ps, 2 ≤ wd ws p) ∨ (how ≠ 0 ∧ ps ≠ [] ∧ ps.length ≤ 4 ∧ wpr ws ps ≤ 64)
theorem given_nI (g : Nat → Bool) (l : List Nat) : givenD l.length (fun i => g (l.getD i 0)) (fun i => .int ((l.getD i 0 : Nat) : Int)) = nI (l.filter g) := by
  have e : (List.range l.length).map (fun i => l.getD i 0) = l := by
    refine List.ext_getElem (by rw [List.length_map, List.length_range]) fun i h1 h2 => ?_
    rw [List.getElem_map, List.getElem_range, List.getD_eq_getElem?_getD, List.getElem?_eq_getElem h2]; rfl
  unfold givenD nI
  conv => rhs; rw [← e, List.filter_map, List.map_map]
  rfl
def c_law : Con := fun ds μ Φ _ => ∃ ns : List Int, ds = [.scr ns] ∧ ns.length ≤ 63 ∧ Φ (.bl true) μ
theorem len_law {ds μ Φ Ψ} (h : c_law ds μ Φ Ψ) : ds.length = 1 := by obtain ⟨_, rfl, _⟩ := h; rfl
theorem ok_law (T : Txt P w K mg) : FnOk P w K mg base (L2N.CX P w) 70 T.f_law T.d_law ["_law_script"] (spOf K c_law) := by
  refine def_okC T.F_law sc_law _ (fun ds μ Φ Ψ h => len_law h) (fun cdv A outer s H E B hW hr =>
    have tk : L2N.Takes (cxOf (L2N.CX P w) P w K mg base N_law "law" (defScope s_law) T.f_law cdv A outer s H E) (fun cls d _ H => E cls d H) := L2N.takes_of rfl rfl rfl rfl
    ⟨_, (pss_cons (ps_set (i := 1) sc_law.nd rfl (Or.inr rfl) (pe_call (ok__law_start T) (hr.mono (by decide)) rfl T.g__law_start T.F__law_start.kp T.b__law_start .nil passN (pa_cons (pv 0) pa_nil)))
      (pss_cons (ps_set (i := 2) sc_law.nd rfl (Or.inr rfl) (pe_call (ok__law_widths T) (hr.mono (by decide)) rfl T.g__law_widths T.F__law_widths.kp T.b__law_widths .nil passN (pa_cons (pv 1) pa_nil)))
      (pss_cons (ps_set (i := 3) sc_law.nd rfl (Or.inl rfl) (pe_ix ix_list (pe_lst (pa_cons pe_int (pa_cons pe_int (pa_cons (pe_op op_add pe_int (pe_call (ok__law_pick T) (hr.mono (by decide)) rfl T.g__law_pick T.F__law_pick.kp T.b__law_pick .nil passN (pa_cons (pv 1) (pa_cons pe_int pa_nil)))) pa_nil)))) (pe_call (ok__law_pick T) (hr.mono (by decide)) rfl T.g__law_pick T.F__law_pick.kp T.b__law_pick .nil passN (pa_cons (pv 1) (pa_cons pe_int pa_nil))) (fun _ _ => rfl)))
      (pss_cons (ps_set (i := 4) sc_law.nd rfl (Or.inl rfl) (pe_lst (pa_cons (pv 2) (pa_cons (pv 3) pa_nil))))
      (pss_cons (ps_set (i := 5) sc_law.nd rfl (Or.inl rfl) (pe_call (ok__law_places T) (hr.mono (by decide)) rfl T.g__law_places T.F__law_places.kp T.b__law_places .nil passN (pa_cons (pv 1) (pa_cons (pv 2) (pa_cons (pe_op op_add pe_int (pe_call (ok__law_pick T) (hr.mono (by decide)) rfl T.g__law_pick T.F__law_pick.kp T.b__law_pick .nil passN (pa_cons (pv 1) (pa_cons pe_int pa_nil)))) (pa_cons pe_int pa_nil))))))
      (pss_cons (ps_set (i := 6) sc_law.nd rfl (Or.inl rfl) (pe_call (ok__law_pick T) (hr.mono (by decide)) rfl T.g__law_pick T.F__law_pick.kp T.b__law_pick .nil passN (pa_cons (pv 1) (pa_cons pe_int pa_nil))))
      (pss_cons (ps_if (pt_cmpR op_eq (pv 6) pe_int (nomark _)) (pss_cons (ps_set (i := 12) sc_law.nd rfl (Or.inl rfl) (pe_call (ok__law_places T) (hr.mono (by decide)) rfl T.g__law_places T.F__law_places.kp T.b__law_places .nil passN (pa_cons (pv 1) (pa_cons (pv 2) (pa_cons pe_int (pa_cons pe_int pa_nil))))))
      (pss_one (ps_setLc (i := 5) (own := [("_law_place", 16)]) rfl sc_law.nd rfl rfl (sw_true rfl rfl rfl (by decide +kernel)) (pi_list (pv 12)) (blkOk_by (N := N_law) (sc := defScope s_law) (by decide +kernel)) (fun _ _ _ _ _ => (pg_name (i := 16) sc_law.nd rfl (Or.inl rfl))) (fun _ _ _ _ _ => (pts_one (pt_cmpR op_gt (pe_call (ok__law_width T) (hr.mono (by decide)) rfl T.g__law_width T.F__law_width.kp T.b__law_width .nil passN (pa_cons (pv 2) (pa_cons (pv 16) pa_nil))) pe_int (nomark _)))) (fun _ _ _ _ _ => (pv 16))))) pss_nil)
      (pss_cons (ps_setLc (i := 7) (own := [("_law_place", 16)]) rfl sc_law.nd rfl rfl (sw_true rfl rfl rfl (by decide +kernel)) (pi_list (pv 5)) (blkOk_by (N := N_law) (sc := defScope s_law) (by decide +kernel)) (fun _ _ _ _ _ => (pg_name (i := 16) sc_law.nd rfl (Or.inl rfl))) (fun _ _ _ _ _ => (pts_one (pt_cmpR op_eq (pe_call (ok__law_pick T) (hr.mono (by decide)) rfl T.g__law_pick T.F__law_pick.kp T.b__law_pick .nil passN (pa_cons (pv 1) (pa_cons pe_int pa_nil))) pe_int (nomark _)))) (fun _ _ _ _ _ => (pv 16)))
      (pss_cons (ps_if (PW.pt (pw_or (pt_cmpR op_eq (pv 6) pe_int (nomark _)) (pw_or (pt_cmpR op_eq (pv 6) pe_int (nomark _)) (pw_or1 (pt_cmpR op_eq (pv 6) pe_int (nomark _)))))) (pss_one (ps_set (i := 7) sc_law.nd rfl (Or.inl rfl) (pe_lst pa_nil))) pss_nil)
      (pss_cons (ps_if (pt_cmpR op_gt (pv 6) pe_int (nomark _)) (pss_one (ps_set (i := 13) sc_law.nd rfl (Or.inl rfl) (pe_call (ok__law_term T) (hr.mono (by decide)) rfl T.g__law_term T.F__law_term.kp T.b__law_term .nil passN (pa_cons (pv 1) (pa_cons (pv 4) (pa_cons (pv 5) (pa_cons (pe_op op_add pe_int (pe_call (ok__law_pick T) (hr.mono (by decide)) rfl T.g__law_pick T.F__law_pick.kp T.b__law_pick .nil passN (pa_cons (pv 1) (pa_cons pe_int pa_nil)))) pa_nil))))))) (pss_one (ps_set (i := 13) sc_law.nd rfl (Or.inl rfl) (pe_call (ok__law_tree T) (hr.mono (by decide)) rfl T.g__law_tree T.F__law_tree.kp T.b__law_tree .nil passN (pa_cons (pv 1) (pa_cons (pv 4) (pa_cons (pe_call (ok__law_shuffled T) (hr.mono (by decide)) rfl T.g__law_shuffled T.F__law_shuffled.kp T.b__law_shuffled .nil passN (pa_cons (pv 1) (pa_cons (pv 5) pa_nil))) (pa_cons (pv 7) (pa_cons (pe_call (ok__law_pick T) (hr.mono (by decide)) rfl T.g__law_pick T.F__law_pick.kp T.b__law_pick .nil passN (pa_cons (pv 1) (pa_cons pe_int pa_nil))) pa_nil)))))))))
      (pss_cons (ps_set (i := 8) sc_law.nd rfl (Or.inl rfl) (pe_makeS T.mk_Query (ok_Query___init__ T) (hr.mono (by decide)) rfl T.g_Query T.b_Query___init__ (fun σ => L2N.passAt tk σ) (pa_cons (pv 13) (pa_cons (pv 2) (pa_cons (pv 3) pa_nil)))))
      (pss_cons (ps_set (i := 9) sc_law.nd rfl (Or.inl rfl) (pe_callS (ok_settle_query T) (hr.mono (by decide)) rfl T.g_settle_query T.F_settle_query.kp T.b_settle_query (fun σ => L2N.passAt tk σ) (pa_cons (pv 8) pa_nil)))
      (pss_cons (ps_if (PW.pt (pw_or (pt_cmpR (op_neD hr.units) (pe_fld (pv 9) rfl) (pv 2) (nomark _)) (pw_or (pt_cmpR op_ne (pe_fld (pv 9) rfl) (pv 3) (nomark _)) (pw_or1 (pt_not (pt_val (pe_call (ok__law_is_settled T) (hr.mono (by decide)) rfl T.g__law_is_settled T.F__law_is_settled.kp T.b__law_is_settled .nil passN (pa_cons (pe_fld (pv 9) rfl) (pa_cons (pv 4) (pa_cons pe_int pa_nil)))))))))) (pss_one (ps_ret pe_bl)) pss_nil)
      (pss_cons (ps_for (passes_of rfl) rfl (pi_list (pe_call (ok__law_heads T) (hr.mono (by decide)) rfl T.g__law_heads T.F__law_heads.kp T.b__law_heads .nil passN (pa_cons (pv 2) (pa_cons (pv 5) pa_nil)))) (pg_name (i := 10) sc_law.nd rfl (Or.inl rfl)) (pss_one (ps_if (pt_cmpR op_ne (pe_call (ok__law_told T) (hr.mono (by decide)) rfl T.g__law_told T.F__law_told.kp T.b__law_told .nil passN (pa_cons (pe_fld (pv 9) rfl) (pa_cons (pv 5) (pa_cons (pv 10) pa_nil)))) (pe_call (ok__law_told T) (hr.mono (by decide)) rfl T.g__law_told T.F__law_told.kp T.b__law_told .nil passN (pa_cons (pv 13) (pa_cons (pv 5) (pa_cons (pv 10) pa_nil)))) (nomark _)) (pss_one (ps_ret pe_bl)) pss_nil)))
      (pss_cons (ps_for (passes_of rfl) rfl (pi_range1 rfl T.z_range (pa_cons pe_int pa_nil)) (pg_name (i := 11) sc_law.nd rfl (Or.inl rfl)) (pss_cons (ps_set (i := 14) sc_law.nd rfl (Or.inr rfl) (pe_call (ok__law_row T) (hr.mono (by decide)) rfl T.g__law_row T.F__law_row.kp T.b__law_row .nil passN (pa_cons (pv 1) (pa_cons (pv 2) pa_nil))))
      (pss_cons (ps_set (i := 15) sc_law.nd rfl (Or.inl rfl) (pe_call (ok__law_told T) (hr.mono (by decide)) rfl T.g__law_told T.F__law_told.kp T.b__law_told .nil passN (pa_cons (pv 13) (pa_cons (pv 5) (pa_cons (pe_lc (own := [("_law_place", 16)]) rfl sc_law.nd (pi_list (pv 5)) (blkOk_by (N := N_law) (sc := defScope s_law) (by decide +kernel)) (fun _ _ _ _ _ => (pg_name (i := 16) sc_law.nd rfl (Or.inl rfl))) (fun _ _ _ _ _ => pts_nil) (fun _ _ _ _ _ => (pe_call (ok__law_entry T) (hr.mono (by decide)) rfl T.g__law_entry T.F__law_entry.kp T.b__law_entry .nil passN (pa_cons (pv 14) (pa_cons (pv 16) pa_nil))))) pa_nil)))))
      (pss_one (ps_if (PW.pt (pw_or (pt_cmpR op_ne (pe_call (ok__law_answer T) (hr.mono (by decide)) rfl T.g__law_answer T.F__law_answer.kp T.b__law_answer .nil passN (pa_cons (pv 8) (pa_cons (pv 14) pa_nil))) (pv 15) (nomark _)) (pw_or1 (pt_cmpR op_ne (pe_call (ok__law_answer T) (hr.mono (by decide)) rfl T.g__law_answer T.F__law_answer.kp T.b__law_answer .nil passN (pa_cons (pv 9) (pa_cons (pv 14) pa_nil))) (pv 15) (nomark _))))) (pss_one (ps_ret pe_bl)) pss_nil)))))
      (pss_cons (ps_if (PW.pt (pw_or (pt_cmpR (op_neD hr.units) (pe_fld (pe_callS (ok_settle_query T) (hr.mono (by decide)) rfl T.g_settle_query T.F_settle_query.kp T.b_settle_query (fun σ => L2N.passAt tk σ) (pa_cons (pv 8) pa_nil)) rfl) (pe_fld (pv 9) rfl) (nomark _)) (pw_or1 (pt_cmpR (op_neD hr.units) (pe_fld (pe_callS (ok_settle_query T) (hr.mono (by decide)) rfl T.g_settle_query T.F_settle_query.kp T.b_settle_query (fun σ => L2N.passAt tk σ) (pa_cons (pv 9) pa_nil)) rfl) (pe_fld (pv 9) rfl) (nomark _))))) (pss_one (ps_ret pe_bl)) pss_nil)
      (pss_one (ps_ret (pe_and (pe_cmpR (op_eqD hr.units) (pe_fld (pv 8) rfl) (pv 13) (nomark _)) (pe_and (pe_cmpR (op_eqD hr.units) (pe_fld (pv 8) rfl) (pv 2) (nomark _)) (pe_one (pe_cmpR op_eq (pe_fld (pv 8) rfl) (pv 3) (nomark _))))))))))))))))))))))),
      (sSeq (sAsg (sCall (sCons sVar sNil)) sName)
      (sSeq (sAsg (sCall (sCons sVar sNil)) sName)
      (sSeq (sAsg (sOp roIxL (sLst (sCons sInt (sCons sInt (sCons (sOp roInt0 sInt (sCall (sCons sVar (sCons sInt sNil)))) sNil)))) (sCall (sCons sVar (sCons sInt sNil)))) sName)
      (sSeq (sAsg (sLst (sCons sVar (sCons sVar sNil))) sName)
      (sSeq (sAsg (sCall (sCons sVar (sCons sVar (sCons (sOp roInt0 sInt (sCall (sCons sVar (sCons sInt sNil)))) (sCons sInt sNil))))) sName)
      (sSeq (sAsg (sCall (sCons sVar (sCons sInt sNil))) sName)
      (sSeq (sIfS (sTest (sOp roEq sVar sInt)) (sSeq (sAsg (sCall (sCons sVar (sCons sVar (sCons sInt (sCons sInt sNil))))) sName)
      (sAsg (sLc (siL sVar) (gwName List.mem_cons_self) (fun _ _ _ => sName) (fun _ _ _ => (sTest (sOp roBl0 (sCall (sCons sVar (sCons sVar sNil))) sInt))) (fun _ _ _ => sVar)) sName)) sNext)
      (sSeq (sAsg (sLc (siL sVar) (gwName List.mem_cons_self) (fun _ _ _ => sName) (fun _ _ _ => (sTest (sOp roEq (sCall (sCons sVar (sCons sInt sNil))) sInt))) (fun _ _ _ => sVar)) sName)
      (sSeq (sIfS (sOr (sTest (sOp roEq sVar sInt)) (sOr (sTest (sOp roEq sVar sInt)) (sTest (sOp roEq sVar sInt)))) (sAsg (sLst sNil) sName) sNext)
      (sSeq (sIfS (sTest (sOp roBl0 sVar sInt)) (sAsg (sCall (sCons sVar (sCons sVar (sCons sVar (sCons (sOp roInt0 sInt (sCall (sCons sVar (sCons sInt sNil)))) sNil))))) sName) (sAsg (sCall (sCons sVar (sCons sVar (sCons (sCall (sCons sVar (sCons sVar sNil))) (sCons sVar (sCons (sCall (sCons sVar (sCons sInt sNil))) sNil)))))) sName))
      (sSeq (sAsg (sMakeSW (W := fun cls d _ H => E cls d H) (by exact hW) (sCons sVar (sCons sVar (sCons sVar sNil)))) sName)
      (sSeq (sAsg (sCallSW (W := fun cls d _ H => E cls d H) (by exact hW) (sCons sVar sNil)) sName)
      (sSeq (sIfS (sOr (sTest (sOp roNeD (sFldO (NS := NS_Query) (i := 1) T.cls_Query T.na_Query_widths rfl (by decide) sVar) sVar)) (sOr (sTest (sOp roNe (sFldO (NS := NS_Query) (i := 2) T.cls_Query T.na_Query_outcomes rfl (by decide) sVar) sVar)) (sNot (sB (sCall (sCons (sFldO (NS := NS_Query) (i := 0) T.cls_Query T.na_Query_term rfl (by decide) sVar) (sCons sVar (sCons sInt sNil)))))))) (sRet sBl) sNext)
      (sSeq (sFor (siL (sCall (sCons sVar (sCons sVar sNil)))) (fun _ _ _ => sName) (fun _ _ _ => (sIfS (sTest (sOp roNe (sCall (sCons (sFldO (NS := NS_Query) (i := 0) T.cls_Query T.na_Query_term rfl (by decide) sVar) (sCons sVar (sCons sVar sNil)))) (sCall (sCons sVar (sCons sVar (sCons sVar sNil)))))) (sRet sBl) sNext)))
      (sSeq (sFor (siR1 sInt) (fun _ _ _ => sName) (fun _ _ _ => (sSeq (sAsg (sCall (sCons sVar (sCons sVar sNil))) sName)
      (sSeq (sAsg (sCall (sCons sVar (sCons sVar (sCons (sLc (siL sVar) (gwName List.mem_cons_self) (fun _ _ _ => sName) (fun _ _ _ => sYes) (fun _ _ _ => (sCall (sCons sVar (sCons sVar sNil))))) sNil)))) sName)
      (sIfS (sOr (sTest (sOp roNe (sCall (sCons sVar (sCons sVar sNil))) sVar)) (sTest (sOp roNe (sCall (sCons sVar (sCons sVar sNil))) sVar))) (sRet sBl) sNext)))))
      (sSeq (sIfS (sOr (sTest (sOp roNeD (sFldO (NS := NS_Query) (i := 0) T.cls_Query T.na_Query_term rfl (by decide) (sCallSW (W := fun cls d _ H => E cls d H) (by exact hW) (sCons sVar sNil))) (sFldO (NS := NS_Query) (i := 0) T.cls_Query T.na_Query_term rfl (by decide) sVar))) (sTest (sOp roNeD (sFldO (NS := NS_Query) (i := 0) T.cls_Query T.na_Query_term rfl (by decide) (sCallSW (W := fun cls d _ H => E cls d H) (by exact hW) (sCons sVar sNil))) (sFldO (NS := NS_Query) (i := 0) T.cls_Query T.na_Query_term rfl (by decide) sVar)))) (sRet sBl) sNext)
      (sRet (sAndV (sOp roEqD (sFldO (NS := NS_Query) (i := 0) T.cls_Query T.na_Query_term rfl (by decide) sVar) sVar) (sAndV (sOp roEqD (sFldO (NS := NS_Query) (i := 1) T.cls_Query T.na_Query_widths rfl (by decide) sVar) sVar) (sOp roEq (sFldO (NS := NS_Query) (i := 2) T.cls_Query T.na_Query_outcomes rfl (by decide) sVar) sVar))))))))))))))))))))⟩) (fun ds μ Φ Ψ h => ?hv)
  case hv =>
    obtain ⟨ns, rfl, hlen, h⟩ := h
    refine seq_cut fun M hM => ?_
    walk_at "wp"
    refine ⟨ns, rfl, hlen, fun p c hp sc => ?_⟩
    have fin : ∀ c' : List D, ∃ μ2, DW.Sub μ2 (sset μ p (.lst c')) ∧ Φ (.bl true) μ2 := fun c' => ⟨μ, Sub.set Sub.refl hp, h⟩
    rw [hM]; clear hM M
    refine seq_cut fun M hM => ?_
    walk_at "wp"
    refine ⟨p, ns, c, rfl, sset_same, sc, fun ws c1 hw sc => ?_⟩
    rw [sset_sset, hM]; clear hM M
    refine seq_cut fun M hM => ?_
    walk_at "wp"
    refine ⟨p, ns, c1, 4, rfl, sset_same, sc, by decide, by decide, fun y c2 y0 y1 sc => ?_⟩
    rw [sset_sset]
    walk_at "wp"
    refine ⟨by decide, p, ns, c2, 3, rfl, sset_same, sc, by decide, by decide, fun z c3 z0 z1 sc => ?_⟩
    rw [sset_sset]
    obtain ⟨oc, ho, o1, o4⟩ : ∃ k : Nat, atI [D.int 2, D.int 2, D.int (1 + y)] z = some (.int k) ∧ 1 ≤ k ∧ k ≤ 4 := by
      obtain ⟨q, rfl⟩ : ∃ q : Nat, z = (q : Int) := ⟨z.toNat, by omega⟩
      rcases (show q = 0 ∨ q = 1 ∨ q = 2 by omega) with rfl | rfl | rfl
      · exact ⟨2, atI_nat (j := 0) rfl, by decide, by decide⟩
      · exact ⟨2, atI_nat (j := 1) rfl, by decide, by decide⟩
      · exact ⟨(1 + y).toNat, by rw [Int.toNat_of_nonneg (by omega)]; exact atI_nat (j := 2) rfl, by omega, by omega⟩
    walk_at "wp"
    refine ⟨_, ho, ?_⟩
    rw [hM]; clear hM M
    refine seq_cut fun M hM => ?_
    walk_at "wp"
    refine ⟨by decide, ?_⟩
    rw [hM]; clear hM M
    refine seq_cut fun M hM => ?_
    walk_at "wp"
    clear y0 y1 z0 z1 ho
    refine ⟨p, ns, c3, 4, rfl, sset_same, sc, by decide, by decide, fun y c4 y0 y1 sc => ?_⟩
    rw [sset_sset]
    obtain ⟨m, hm, m1, m4⟩ : ∃ s : Nat, (1 : Int) + y = (s : Int) ∧ 1 ≤ s ∧ s ≤ 4 := ⟨(1 + y).toNat, by omega, by omega, by omega⟩
    walk_at "wp"
    rw [hm]
    refine ⟨p, ns, c4, ws, m, 64, rfl, sset_same, sc, hw, by omega, by decide, by decide, fun ps c5 p1 p2 p3 p4 p5 sc => ?_⟩
    rw [sset_sset, hM]; clear hM M
    refine seq_cut fun M hM => ?_
    walk_at "wp"
    refine ⟨p, ns, c5, 10, rfl, sset_same, sc, by decide, by decide, fun y c6 y0 y1 sc => ?_⟩
    rw [sset_sset]
    obtain ⟨how, rfl⟩ : ∃ how : Nat, y = (how : Int) := ⟨y.toNat, by omega⟩
    rw [hM]; clear hM M
    refine seq_cut fun M hM => ?_
    walk_at "wp"
    have main : ∀ (qs : List Nat) (c6 : List D) (x : Option D), GoodP ws how qs → StC ns c6 → M [some (.scr ns), some (.hd (.ref p)), some (.tup (ws.map .int)), some (.int (oc : Int)), some (.lst [.tup (ws.map .int), .int (oc : Int)]), some (.lst (nI qs)), some (.int (how : Int)), none, none, none, none, none, x, none, none, none, none] (sset μ p (.lst c6)) := by
      intro qs c6 x hg sc
      rw [hM]; clear hM M p1 p2 p3 p4 p5 ps
      refine seq_cut fun M hM => ?_
      walk_at "wp"
      intro p0 hp0
      have h0s : p0 ≠ p := fun z => by rw [z, sset_same] at hp0; cases hp0
      have l8 := hg.l8
      refine ⟨fun i μ' => ∃ (acc : List Nat) (c' : List D), μ' = sset (sset μ p (.lst c')) p0 (.lst (nI acc)) ∧ StC ns c' ∧ acc.length ≤ i, ⟨[], c6, rfl, sc, Nat.le_refl _⟩, ?_, ?_⟩
      · rintro i d μ2 hi ⟨acc, c7, rfl, sc, hl⟩
        obtain ⟨hil, rfl⟩ := nI_get hi
        walk_at "wp"
        refine ⟨p, ns, c7, 2, rfl, by rw [sset_ne h0s.symm, sset_same], sc, by decide, by decide, fun y c8 y0 y1 sc => ?_⟩
        have e8 : sset (sset (sset μ p (.lst c7)) p0 (.lst (nI acc))) p (.lst c8) = sset (sset μ p (.lst c8)) p0 (.lst (nI acc)) := by
          funext a
          unfold sset
          by_cases e1 : a = p
          · subst e1; rw [if_pos rfl, if_neg h0s.symm, if_pos rfl]
          · rw [if_neg e1]
            by_cases e2 : a = p0
            · rw [if_pos e2, if_pos e2]
            · rw [if_neg e2, if_neg e2, if_neg e1, if_neg e1]
        rw [e8]
        walk_at "wp"
        refine ⟨fun _ => ⟨by rw [nI_len]; omega, acc ++ [qs[i]], c8, ?_, sc, by rw [List.length_append, List.length_singleton]; omega⟩, fun _ => ⟨acc, c8, rfl, sc, by omega⟩⟩
        unfold nI
        rw [List.map_append]; rfl
      · rintro μ2 ⟨ms, c7, rfl, sc, hl⟩
        rw [nI_len] at hl
        refine ⟨_, sset_same, ?_⟩
        rw [sdel_sset (by
          rw [sset_ne h0s] at hp0
          rw [sset_ne h0s]; exact hp0)]
        have hm8 : ms.length ≤ 8 := by omega
        clear hl hp0 h0s p0
        rw [hM]; clear hM M
        refine seq_cut fun M hM => ?_
        have two : ∀ (ms : List Nat), ms.length ≤ 8 → M [some (.scr ns), some (.hd (.ref p)), some (.tup (ws.map .int)), some (.int (oc : Int)), some (.lst [.tup (ws.map .int), .int (oc : Int)]), some (.lst (nI qs)), some (.int (how : Int)), some (.lst (nI ms)), none, none, none, none, x, none, none, none, none] (sset μ p (.lst c7)) := by
          intro ms hm8
          rw [hM]; clear hM M
          refine seq_cut fun M hM => ?_
          have term : ∀ (t : QT) (ss : List Nat) (c8 : List D), QFit ws oc ss t → ss.Perm qs → StC ns c8 → M [some (.scr ns), some (.hd (.ref p)), some (.tup (ws.map .int)), some (.int (oc : Int)), some (.lst [.tup (ws.map .int), .int (oc : Int)]), some (.lst (nI qs)), some (.int (how : Int)), some (.lst (nI ms)), none, none, none, none, x, some (qD t), none, none, none] (sset μ p (.lst c8)) := by
            intro t ss c8 ht hss sc
            rw [hM]; clear hM M
            obtain ⟨hs, hfit, hans⟩ := ht.settled
            refine seq_cut fun M hM => ?_
            walk_at "wp"
            intro q hq
            refine ⟨q, ws, oc, ss, t, rfl, sset_same, ht, rfl, NS_Query, _, sset_same, ?_⟩
            rw [sset_sset, sdel_sset hq]
            clear hq q
            rw [show D.obj T.c_Query NS_Query [qD t, .tup (ws.map .int), .int (oc : Int)] = qO T.c_Query t ws oc from rfl]
            rw [hM]; clear hM M
            refine seq_cut fun M hM => ?_
            walk_at "wp"
            refine ⟨ws, oc, ss, t, rfl, ht, ?_⟩
            have hfix : qSt ws 300 (qSt ws 300 t) = qSt ws 300 t := qSt_fix hw 300 _ 0 hs hfit.looks
            generalize hu : qSt ws 300 t = u at *
            rw [hM]; clear hM M
            refine seq_cut fun M hM => ?_
            rw [show qO T.c_Query t ws oc = D.obj T.c_Query NS_Query [qD t, .tup (ws.map .int), .int (oc : Int)] from rfl, show qO T.c_Query u ws oc = D.obj T.c_Query NS_Query [qD u, .tup (ws.map .int), .int (oc : Int)] from rfl]
            walk_at "wp"
            have sideW : EqSide (.tup (ws.map .int)) := sideI ws
            have hd8 : qDep u ≤ 8 := by
              have h1 := (hs.small hw _ ht.sorted fun q hq => hfit.pl q hq).2
              have h2 := ht.most
              omega
            refine ⟨sideW, sideW, ?_⟩
            rw [eqD_refl sideW.1]
            refine ⟨_, rfl, fun z => (by cases z), fun _ => ⟨fun z => (by simp at z), fun _ => ⟨ws, oc, 0, u, rfl, hw, hs, by omega, by omega, ?_⟩⟩⟩
            walk_at "wp"
            rw [hM]; clear hM M
            refine seq_cut fun M hM => ?_
            walk_at "wp"
            refine ⟨ws, qs, rfl, hw, hg.l8, fun i hi => ?_, _, rfl, ?_⟩
            · rw [wpl_wpr]
              exact Nat.le_trans (wpr_sub hw (List.take_sublist i qs)) hg.few
            refine ⟨fun i δ' μ' => μ' = sset μ p (.lst c8) ∧ ∃ y, δ' = [some (.scr ns), some (.hd (.ref p)), some (.tup (ws.map .int)), some (.int (oc : Int)), some (.lst [.tup (ws.map .int), .int (oc : Int)]), some (.lst (nI qs)), some (.int (how : Int)), some (.lst (nI ms)), some (.obj T.c_Query NS_Query [qD t, .tup (ws.map .int), .int (oc : Int)]), some (.obj T.c_Query NS_Query [qD u, .tup (ws.map .int), .int (oc : Int)]), y, none, x, some (qD t), none, none, none], ⟨rfl, none, rfl⟩, ?_, ?_⟩
            · rintro i d δ' μ' hi ⟨rfl, y, rfl⟩
              obtain ⟨l, hl, rfl⟩ : ∃ l, l ∈ heads ws qs ∧ d = .lst (nI l) := by
                obtain ⟨l, hl, e⟩ := List.mem_map.mp (List.mem_of_getElem? hi)
                exact ⟨l, hl, e.symm⟩
              have hgl := heads_each ws qs l hl
              obtain ⟨f, f1, f2⟩ := choice_f hw hg.nd hgl
              walk_at "wp"
              refine ⟨ws, oc, u, qs, l, f, rfl, hfit.ok, hfit.dep, fun q hq => hss.mem_iff.mp (hfit.pl q hq), hg.nd, hg.l8, hgl, f2, ws, oc, t, qs, l, f, rfl, ht.ok, ht.dep, fun q hq => hss.mem_iff.mp (ht.pl q hq), hg.nd, hg.l8, hgl, f2, ?_⟩
              rw [hans f f1]
              walk_at "wp"
              exact ⟨fun z => (by simp at z), fun _ => ⟨_, rfl⟩⟩
            · rintro δ' μ' ⟨rfl, y, rfl⟩
              rw [hM]; clear hM M
              refine seq_cut fun M hM => ?_
              walk_at "wp"
              refine ⟨by decide, by decide, fun i δ' μ' => ∃ (c' : List D) (x1 x2 x3 : Option D), StC ns c' ∧ μ' = sset μ p (.lst c') ∧ δ' = [some (.scr ns), some (.hd (.ref p)), some (.tup (ws.map .int)), some (.int (oc : Int)), some (.lst [.tup (ws.map .int), .int (oc : Int)]), some (.lst (nI qs)), some (.int (how : Int)), some (.lst (nI ms)), some (.obj T.c_Query NS_Query [qD t, .tup (ws.map .int), .int (oc : Int)]), some (.obj T.c_Query NS_Query [qD u, .tup (ws.map .int), .int (oc : Int)]), y, x1, x, some (qD t), x2, x3, none], ⟨c8, none, none, none, sc, rfl, rfl⟩, ?_, ?_⟩
              · rintro i d δ' μ' hi ⟨c9, x1, x2, x3, sc, rfl, rfl⟩
                obtain ⟨hj, rfl⟩ := rngD_get hi
                refine seq_cut fun N hN => ?_
                walk_at "wp"
                refine ⟨p, ns, c9, ws, rfl, sset_same, sc, hw, fun r c10 hr hrf sc => ?_⟩
                rw [sset_sset, hN]; clear hN N
                refine seq_cut fun N hN => ?_
                walk_at "wp"
                have hgr : HG ws qs (qs.map (rF r)) := ⟨by rw [List.length_map], fun j hj => by
                  rw [List.getD_eq_getElem?_getD, List.getD_eq_getElem?_getD, List.getElem?_map, List.getElem?_eq_getElem hj]
                  have h1 := hrf qs[j]
                  have h2 := ent_nn hr qs[j]
                  show rF r qs[j] < wd ws qs[j]
                  unfold rF
                  omega⟩
                refine lcG_mapN (fun j => .int ((rF r (qs.getD j 0) : Nat) : Int)) (by rw [nI_len]; have := hg.l8; omega) (fun j d μ2 X hj hsub hx => ?_) ?_
                · obtain ⟨hjl, rfl⟩ := nI_get hj
                  rw [List.getD_eq_getElem?_getD, List.getElem?_eq_getElem hjl] at hx
                  simp only [Option.getD_some] at hx
                  have h2 := ent_nn hr qs[j]
                  walk_at "wp"
                  refine ⟨r, qs[j], rfl, hr, ?_⟩
                  rw [show ent r qs[j] = ((rF r qs[j] : Nat) : Int) by unfold rF; omega]
                  exact hx
                have em : ((List.range (nI qs).length).map fun j => D.int ((rF r (qs.getD j 0) : Nat) : Int)) = nI (qs.map (rF r)) := by
                  refine List.ext_getElem (by rw [List.length_map, List.length_range, nI_len, nI_len, List.length_map]) fun j h1 h2 => ?_
                  have hjl : j < qs.length := by rw [nI_len, List.length_map] at h2; exact h2
                  have e : (nI (qs.map (rF r)))[j]? = some (D.int ((rF r qs[j] : Nat) : Int)) := by unfold nI; rw [List.getElem?_map, List.getElem?_map, List.getElem?_eq_getElem hjl]; rfl
                  rw [List.getElem?_eq_getElem h2] at e
                  rw [List.getElem_map, List.getElem_range, List.getD_eq_getElem?_getD, List.getElem?_eq_getElem hjl, Option.some.inj e]; rfl
                rw [em]
                refine ⟨ws, oc, t, qs, qs.map (rF r), rF r, rfl, ht.ok, ht.dep, fun q hq => hss.mem_iff.mp (ht.pl q hq), hg.nd, hg.l8, hgr, fun j hj => by rw [List.getD_eq_getElem?_getD, List.getElem?_map, List.getElem?_eq_getElem hj]; rfl, ?_⟩
                rw [hN]; clear hN N
                have hrf2 : ∀ p, rF r p < wd ws p := fun p => by
                  have h1 := hrf p
                  have h2 := ent_nn hr p
                  unfold rF
                  omega
                have ha4 : qA (rF r) t < 4 := by have := qA_lt hrf2 t ht.ok; omega
                walk_at "wp"
                refine ⟨ws, oc, ss, t, r, rfl, ht, hr, hrf, ha4, ?_⟩
                walk_at "wp"
                refine ⟨fun z => absurd z (by simp), fun _ => ⟨ws, oc, ss, u, r, rfl, hfit, hr, hrf, by rw [hans _ hrf2]; exact ha4, ?_⟩⟩
                rw [hans _ hrf2]
                walk_at "wp"
                exact ⟨fun z => (by simp at z), fun _ => ⟨c10, _, _, _, sc, rfl, rfl⟩⟩
              · rintro δ' μ' ⟨c9, x1, x2, x3, sc, rfl, rfl⟩
                rw [hM]; clear hM M
                walk_at "wps"
                have sideT : EqSide (qD t) := ⟨eqOk_q t, by have := dpt_q t; have := ht.dep; omega⟩
                have sideU : EqSide (qD u) := ⟨eqOk_q u, by have := dpt_q u; omega⟩
                refine ⟨ws, oc, ss, t, rfl, ht, ?_⟩
                rw [hu]
                refine ⟨_, _, rfl, rfl, sideU, sideU, ?_⟩
                rw [eqD_refl sideU.1]
                refine ⟨_, rfl, fun z => (by cases z), fun _ => ⟨ws, oc, ss, u, rfl, hfit, ?_⟩⟩
                rw [hfix]
                refine ⟨_, _, rfl, rfl, sideU, sideU, ?_⟩
                rw [eqD_refl sideU.1]
                refine ⟨_, rfl, fun z => (by cases z), fun _ => ⟨sideT, sideT, ?_⟩⟩
                rw [eqD_refl sideT.1]
                refine ⟨_, rfl, fun _ => ⟨sideW, sideW, ?_⟩, fun z => (by cases z)⟩
                rw [eqD_refl sideW.1]
                exact ⟨_, rfl, fun _ => by simpa using fin c9, fun z => (by cases z)⟩
          obtain ⟨ss, s1, s2⟩ := sorted_of hg.nd
          walk_at "wp"
          refine ⟨fun q => ?_, fun q => ?_⟩
          · obtain ⟨hq0, hne, hl4, h64⟩ := hg.alt.resolve_left fun z => by have := z.1; omega
            refine ⟨p, ns, c7, 4, rfl, sset_same, sc, by decide, by decide, fun y c8 y0 y1 sc => ?_⟩
            rw [sset_sset]
            obtain ⟨lv, hlv, v1, v4⟩ : ∃ s : Nat, (1 : Int) + y = (s : Int) ∧ 1 ≤ s ∧ s ≤ 4 := ⟨(1 + y).toNat, by omega, by omega, by omega⟩
            walk_at "wp"
            rw [hlv]
            refine ⟨p, ns, c8, ws, oc, lv, qs, rfl, sset_same, sc, hw, o1, o4, hne, hg.l8, hg.lt, by omega, by omega, fun t c9 a b cc dd sc => ?_⟩
            rw [sset_sset]
            have hlk : lkN lv ≤ 85 := by rcases (show lv = 1 ∨ lv = 2 ∨ lv = 3 ∨ lv = 4 by omega) with rfl | rfl | rfl | rfl <;> decide
            exact term t ss c9 ⟨hw, o1, o4, a, s2, by rw [s1.length_eq]; exact hg.l8, by rw [wpr_perm s1]; exact hg.few, fun q hq => s1.mem_iff.mpr (cc q hq), by omega, by omega⟩ s1 sc
          · refine ⟨p, ns, c7, qs, rfl, sset_same, sc, hg.l8, fun rs c8 hr sc => ?_⟩
            rw [sset_sset]
            refine ⟨p, ns, c8, 4, rfl, sset_same, sc, by decide, by decide, fun y c9 y0 y1 sc => ?_⟩
            rw [sset_sset]
            have hrl := hr.length_eq
            have hrw := wpr_perm (ws := ws) hr
            have hlk : lkO ws rs ≤ 300 := by
              rcases hg.alt with z | z
              · have := lkO_two hw rs fun q hq => z.2 q (hr.mem_iff.mp hq)
                have := hg.few
                omega
              · have h1 := lkO_len hw rs
                have h2 : rs.length * wpr ws rs ≤ 4 * 64 := Nat.mul_le_mul (by rw [hrl]; exact z.2.2.1) (by rw [hrw]; exact z.2.2.2)
                omega
            refine ⟨p, ns, c9, ws, oc, rs, ms, y, rfl, sset_same, sc, hw, o1, o4, by omega, hm8, fun q hq => hg.lt q (hr.mem_iff.mp hq), by omega, fun t c10 a b cc dd sc => ?_⟩
            rw [sset_sset]
            exact term t ss c10 ⟨hw, o1, o4, a, s2, by rw [s1.length_eq]; exact hg.l8, by rw [wpr_perm s1]; exact hg.few, fun q hq => s1.mem_iff.mpr (hr.mem_iff.mp (cc q hq)), by omega, by omega⟩ s1 sc
        walk_at "wp"
        exact ⟨fun _ => ⟨by omega, two [] (by simp)⟩, fun _ => ⟨fun _ => ⟨by omega, two [] (by simp)⟩, fun _ => ⟨fun _ => ⟨by omega, two [] (by simp)⟩, fun _ => two ms hm8⟩⟩⟩
    refine ⟨fun q => ?_, fun q => ?_⟩
    · have q : how = 0 := by omega
      subst q
      refine seq_cut fun N hN => ?_
      walk_at "wp"
      refine ⟨p, ns, c6, ws, 8, 256, rfl, sset_same, sc, hw, by decide, by decide, by decide, fun qs c7 q1 q2 q3 q4 q5 sc => ?_⟩
      rw [sset_sset, hN]; clear hN N
      walk_at "wp"
      have qf : wpr ws qs ≤ 256 := by have := q4 qs.length (Nat.le_refl _); rw [List.take_length, wpl_wpr] at this; exact this
      refine lcG_pure (fun i => decide (1 < wd ws (qs.getD i 0))) (fun i => .int ((qs.getD i 0 : Nat) : Int)) (by rw [nI_len]; omega) (fun i d μ2 X Y hi hsub hX hY => ?_) ?_
      · obtain ⟨hil, rfl⟩ := nI_get hi
        rw [List.getD_eq_getElem?_getD, List.getElem?_eq_getElem hil] at hX hY
        simp only [Option.getD_some] at hX hY
        walk_at "wp"
        refine ⟨ws, qs[i], rfl, hw, ?_⟩
        walk_at "wp"
        exact ⟨fun z => hX (decide_eq_true (by omega)), fun z => hY (decide_eq_false (by omega))⟩
      · rw [nI_len, given_nI (fun x => decide (1 < wd ws x)) qs]
        have sl := List.filter_sublist (p := fun x => decide (1 < wd ws x)) (l := qs)
        have hg : GoodP ws 0 (qs.filter fun x => decide (1 < wd ws x)) := ⟨q1.sublist sl, fun x hx => q2 x (sl.subset hx), Nat.le_trans sl.length_le q3, Nat.le_trans (wpr_sub hw sl) qf, .inl ⟨rfl, fun x hx => by have := (List.mem_filter.mp hx).2; simp at this; omega⟩⟩
        exact main _ c7 _ hg sc
    · have q : how ≠ 0 := by omega
      have qf : wpr ws ps ≤ 64 := by have := p4 ps.length (Nat.le_refl _); rw [List.take_length, wpl_wpr] at this; exact this
      exact main ps c6 _ ⟨p1, p2, by omega, by omega, .inr ⟨q, p5 m1, by omega, qf⟩⟩ sc
end
end LW
set_option Elab.async false
set_option linter.all false
set_option maxRecDepth 100000
set_option maxHeartbeats 4000000
namespace LW
open PySem PySem.Spec L2 DW PyProof.Rows NdefX
abbrev si_InvalidTerm : Stmt := (C8.clsBody (topS 4)).getD 0 (.Pass ⟨0, 0, 0, 0⟩)
theorem sci_InvalidTerm : NScope ["self", "path", "__class__"] ["self", "path"] ["__class__"] (defScope si_InvalidTerm) := nscope_by (by decide +kernel)
theorem okinit_InvalidTerm {CX : CXT} {P : Program} {w : World} {K : Fg} {mg : Str → Option Value} {base : Heap} {f C D cc cda : Addr} {file : Str} {kV doc pm ct oc : Value} {an od : Option Addr} {osl : Array (Option Value)}
    (lk : K.lookup f = some ⟨oc, od, .func (PySem.W.ksFn "__init__" "InvalidTerm.__init__" (defArgs si_InvalidTerm) (defBody si_InvalidTerm) (defScope si_InvalidTerm) .none kV doc pm an (.ref cda) ct cc), osl⟩)
    (hcd : PySem.W.codeIn K (.ref cda) "InvalidTerm.__init__" = true) (T : SupC K C D cc f cda file) (hfile : ((P.main.file : Str) == file) = true) (htop : (P.main.scope.names.lookup ("super" : Str)).isSome = false) (hms : mg "super" = none) :
    FnOk P w K mg base CX 1 f (PySem.W.ksFn "__init__" "InvalidTerm.__init__" (defArgs si_InvalidTerm) (defBody si_InvalidTerm) (defScope si_InvalidTerm) .none kV doc pm an (.ref cda) ct cc) ["self", "path"] (spInit K C "path" (okPath K)) :=
  sup_fn (k := 0) lk hcd sci_InvalidTerm T rfl rfl hfile htop hms rfl (by decide) fun X hP hw hK hN hsc hL hr => by
    obtain ⟨L, hL⟩ := hL
    have v0 : ∀ p, PE X (.Name "self" p) (tVar 0) := fun p => pv 0 (hN := by rw [hN]; rfl) (hv := .inl (by rw [hsc]; rfl))
    have v1 : ∀ p, PE X (.Name "path" p) (tVar 1) := fun p => pv 1 (hN := by rw [hN]; rfl) (hv := .inl (by rw [hsc]; rfl))
    subst hK
    exact ⟨msg_path hr (by decide) (by decide) (v1 _), by rw [hL]; rfl, by rw [hL]; rfl, by rw [hL]; rfl, by rw [hL]; rfl, ⟨_, by rw [hL]; rfl⟩, by rw [hL]; rfl, v0 _, v1 _⟩
open PyProof.Rows in
theorem all_mk {P : Program} {w : World} {K : PySem.W.Frag} {h : Heap} {mg : Str → Option Value} {fa f0 f1 f2 f3 f4 f5 f6 f7 f8 f9 f10 f11 f12 f13 f14 f15 f16 f17 f18 f19 f20 f21 f22 f23 f24 f25 f26 f27 f28 f29 f30 f31 f32 f33 f34 f35 f36 f37 c_OutOfRange c_TooLarge c_InvalidQuery c_InvalidTerm c_Query c_Row : Addr} (X : K.In h) (G : h.Ns mainGlobals mg) (hfa : mg "law" = some (.ref fa))
    {od0 an0 od1 an1 od2 an2 od3 an3 od4 an4 od5 an5 od6 an6 od7 an7 od8 an8 od9 an9 od10 an10 od11 an11 od12 an12 od13 an13 od14 an14 od15 an15 od16 an16 od17 an17 od18 an18 od19 an19 od20 an20 od21 an21 od22 an22 od23 an23 od24 an24 od25 an25 od26 an26 od27 an27 od28 an28 od29 an29 od30 an30 od31 an31 od32 an32 od33 an33 od34 an34 od35 an35 od36 an36 od37 an37 : Option Addr} {sl0 sl1 sl2 sl3 sl4 sl5 sl6 sl7 sl8 sl9 sl10 sl11 sl12 sl13 sl14 sl15 sl16 sl17 sl18 sl19 sl20 sl21 sl22 sl23 sl24 sl25 sl26 sl27 sl28 sl29 sl30 sl31 sl32 sl33 sl34 sl35 sl36 sl37 : Array (Option Value)} {oc0 kV0 dc0 pm0 cd0 ct0 oc1 kV1 dc1 pm1 cd1 ct1 oc2 kV2 dc2 pm2 cd2 ct2 oc3 kV3 dc3 pm3 cd3 ct3 oc4 kV4 dc4 pm4 cd4 ct4 oc5 kV5 dc5 pm5 cd5 ct5 oc6 kV6 dc6 pm6 cd6 ct6 oc7 kV7 dc7 pm7 cd7 ct7 oc8 kV8 dc8 pm8 cd8 ct8 oc9 kV9 dc9 pm9 cd9 ct9 oc10 kV10 dc10 pm10 cd10 ct10 oc11 kV11 dc11 pm11 cd11 ct11 oc12 kV12 dc12 pm12 cd12 ct12 oc13 kV13 dc13 pm13 cd13 ct13 oc14 kV14 dc14 pm14 cd14 ct14 oc15 kV15 dc15 pm15 cd15 ct15 oc16 kV16 dc16 pm16 cd16 ct16 oc17 kV17 dc17 pm17 cd17 ct17 oc18 kV18 dc18 pm18 cd18 ct18 oc19 kV19 dc19 pm19 cd19 ct19 oc20 kV20 dc20 pm20 cd20 ct20 oc21 kV21 dc21 pm21 cd21 ct21 oc22 kV22 dc22 pm22 cd22 ct22 oc23 kV23 dc23 pm23 cd23 ct23 oc24 kV24 dc24 pm24 cd24 ct24 oc25 kV25 dc25 pm25 cd25 ct25 oc26 kV26 dc26 pm26 cd26 ct26 oc27 kV27 dc27 pm27 cd27 ct27 oc28 kV28 dc28 pm28 cd28 ct28 oc29 kV29 dc29 pm29 cd29 ct29 oc30 kV30 dc30 pm30 cd30 ct30 oc31 kV31 dc31 pm31 cd31 ct31 oc32 kV32 dc32 pm32 cd32 ct32 oc33 kV33 dc33 pm33 cd33 ct33 oc34 kV34 dc34 pm34 cd34 ct34 oc35 kV35 dc35 pm35 cd35 ct35 oc36 kV36 dc36 pm36 cd36 ct36 oc37 kV37 dc37 pm37 cd37 ct37 : Value} {dT16 dA16 : Addr} {dc016 : Value} {dd016 : Option Addr} {ditT16 ditA16 : Array Value} {dnT16 dnA16 : Nat} {dsT16 dsA16 : Array (Option Value)} {tk_LETTERS : Tok} {tk_DIGITS : Tok} {tk_LONGEST_WORD : Tok} {tk_LONGEST_NUMBER : Tok} {tk_NUMBERS_END : Tok} {tk_DEEPEST_TUPLE : Tok} {tk_MOST_OUTCOMES : Tok} {tk_MOST_WIDTHS : Tok} {tk_WIDEST : Tok} {tk_PLACES : Tok} {tk_ITEMS_BEFORE : Tok} {tk_TWO_OUTCOMES : Tok} {fi_InvalidQuery cda_InvalidQuery cc_InvalidQuery ns_InvalidQuery : Addr} {oci_InvalidQuery kVi_InvalidQuery dci_InvalidQuery pmi_InvalidQuery cti_InvalidQuery clc_InvalidQuery ccl_InvalidQuery : Value} {odi_InvalidQuery ani_InvalidQuery cld_InvalidQuery cdd_InvalidQuery dd_InvalidQuery : Option Addr} {sli_InvalidQuery csl_InvalidQuery ccs_InvalidQuery : Array (Option Value)} {vs_InvalidQuery : Array Value} {fl_InvalidQuery nm_InvalidQuery qn_InvalidQuery : Str} {tf_InvalidQuery : Tok} {bs_InvalidQuery bm_InvalidQuery sb2_InvalidQuery : List Value} {sn_InvalidQuery : List Str} {ab_InvalidQuery : Bool} {col_InvalidQuery : Option Bool} {k0_InvalidQuery k1_InvalidQuery k2_InvalidQuery k3_InvalidQuery k5_InvalidQuery : Option Value} {tv_Query_MOST_LEVELS : Tok} {tv_Query_MOST_LOOKS : Tok} {tv_Query_MOST_CHOICES : Tok}
    (g_Query : PySem.W.nsIn K mainGlobals "Query" = some (some (.ref c_Query)))
    (g_Row : PySem.W.nsIn K mainGlobals "Row" = some (some (.ref c_Row)))
    (a0 : PySem.W.nsIn K mainGlobals "is_number" = some (some (.ref f0)))
    (l0 : K.lookup f0 = some ⟨oc0, od0, .func (PySem.W.fnOf "is_number" "is_number" (defArgs s_is_number) (defBody s_is_number) (defScope s_is_number) .none kV0 dc0 pm0 an0 cd0 ct0), sl0⟩)
    (c0 : PySem.W.codeIn K cd0 "is_number" = true)
    (k0 : PySem.W.keepIn K (.ref f0) = true)
    (a1 : PySem.W.nsIn K mainGlobals "is_below" = some (some (.ref f1)))
    (l1 : K.lookup f1 = some ⟨oc1, od1, .func (PySem.W.fnOf "is_below" "is_below" (defArgs s_is_below) (defBody s_is_below) (defScope s_is_below) .none kV1 dc1 pm1 an1 cd1 ct1), sl1⟩)
    (c1 : PySem.W.codeIn K cd1 "is_below" = true)
    (k1 : PySem.W.keepIn K (.ref f1) = true)
    (a2 : PySem.W.nsIn K mainGlobals "count_choices" = some (some (.ref f2)))
    (l2 : K.lookup f2 = some ⟨oc2, od2, .func (PySem.W.fnOf "count_choices" "count_choices" (defArgs s_count_choices) (defBody s_count_choices) (defScope s_count_choices) .none kV2 dc2 pm2 an2 cd2 ct2), sl2⟩)
    (c2 : PySem.W.codeIn K cd2 "count_choices" = true)
    (k2 : PySem.W.keepIn K (.ref f2) = true)
    (a3 : PySem.W.nsIn K mainGlobals "has_outcomes" = some (some (.ref f3)))
    (l3 : K.lookup f3 = some ⟨oc3, od3, .func (PySem.W.fnOf "has_outcomes" "has_outcomes" (defArgs s_has_outcomes) (defBody s_has_outcomes) (defScope s_has_outcomes) .none kV3 dc3 pm3 an3 cd3 ct3), sl3⟩)
    (c3 : PySem.W.codeIn K cd3 "has_outcomes" = true)
    (k3 : PySem.W.keepIn K (.ref f3) = true)
    (a4 : PySem.W.nsIn K mainGlobals "width_at" = some (some (.ref f4)))
    (l4 : K.lookup f4 = some ⟨oc4, od4, .func (PySem.W.fnOf "width_at" "width_at" (defArgs s_width_at) (defBody s_width_at) (defScope s_width_at) .none kV4 dc4 pm4 an4 cd4 ct4), sl4⟩)
    (c4 : PySem.W.codeIn K cd4 "width_at" = true)
    (k4 : PySem.W.keepIn K (.ref f4) = true)
    (a5 : PySem.W.nsIn K mainGlobals "terms_behind" = some (some (.ref f5)))
    (l5 : K.lookup f5 = some ⟨oc5, od5, .func (PySem.W.fnOf "terms_behind" "terms_behind" (defArgs s_terms_behind) (defBody s_terms_behind) (defScope s_terms_behind) .none kV5 dc5 pm5 an5 cd5 ct5), sl5⟩)
    (c5 : PySem.W.codeIn K cd5 "terms_behind" = true)
    (k5 : PySem.W.keepIn K (.ref f5) = true)
    (a6 : PySem.W.nsIn K mainGlobals "are_widths" = some (some (.ref f6)))
    (l6 : K.lookup f6 = some ⟨oc6, od6, .func (PySem.W.fnOf "are_widths" "are_widths" (defArgs s_are_widths) (defBody s_are_widths) (defScope s_are_widths) .none kV6 dc6 pm6 an6 cd6 ct6), sl6⟩)
    (c6 : PySem.W.codeIn K cd6 "are_widths" = true)
    (k6 : PySem.W.keepIn K (.ref f6) = true)
    (a7 : PySem.W.nsIn K mainGlobals "require_form" = some (some (.ref f7)))
    (l7 : K.lookup f7 = some ⟨oc7, od7, .func (PySem.W.fnOf "require_form" "require_form" (defArgs s_require_form) (defBody s_require_form) (defScope s_require_form) .none kV7 dc7 pm7 an7 cd7 ct7), sl7⟩)
    (c7 : PySem.W.codeIn K cd7 "require_form" = true)
    (k7 : PySem.W.keepIn K (.ref f7) = true)
    (a8 : PySem.W.nsIn K mainGlobals "has_query_form" = some (some (.ref f8)))
    (l8 : K.lookup f8 = some ⟨oc8, od8, .func (PySem.W.fnOf "has_query_form" "has_query_form" (defArgs s_has_query_form) (defBody s_has_query_form) (defScope s_has_query_form) .none kV8 dc8 pm8 an8 cd8 ct8), sl8⟩)
    (c8 : PySem.W.codeIn K cd8 "has_query_form" = true)
    (k8 : PySem.W.keepIn K (.ref f8) = true)
    (a9 : PySem.W.nsIn K mainGlobals "wrong_query" = some (some (.ref f9)))
    (l9 : K.lookup f9 = some ⟨oc9, od9, .func (PySem.W.fnOf "wrong_query" "wrong_query" (defArgs s_wrong_query) (defBody s_wrong_query) (defScope s_wrong_query) .none kV9 dc9 pm9 an9 cd9 ct9), sl9⟩)
    (c9 : PySem.W.codeIn K cd9 "wrong_query" = true)
    (k9 : PySem.W.keepIn K (.ref f9) = true)
    (a10 : PySem.W.nsIn K mainGlobals "places_of" = some (some (.ref f10)))
    (l10 : K.lookup f10 = some ⟨oc10, od10, .func (PySem.W.fnOf "places_of" "places_of" (defArgs s_places_of) (defBody s_places_of) (defScope s_places_of) .none kV10 dc10 pm10 an10 cd10 ct10), sl10⟩)
    (c10 : PySem.W.codeIn K cd10 "places_of" = true)
    (k10 : PySem.W.keepIn K (.ref f10) = true)
    (a11 : PySem.W.nsIn K mainGlobals "require_few" = some (some (.ref f11)))
    (l11 : K.lookup f11 = some ⟨oc11, od11, .func (PySem.W.fnOf "require_few" "require_few" (defArgs s_require_few) (defBody s_require_few) (defScope s_require_few) .none kV11 dc11 pm11 an11 cd11 ct11), sl11⟩)
    (c11 : PySem.W.codeIn K cd11 "require_few" = true)
    (k11 : PySem.W.keepIn K (.ref f11) = true)
    (a12 : PySem.W.nsIn K mainGlobals "followed" = some (some (.ref f12)))
    (l12 : K.lookup f12 = some ⟨oc12, od12, .func (PySem.W.fnOf "followed" "followed" (defArgs s_followed) (defBody s_followed) (defScope s_followed) .none kV12 dc12 pm12 an12 cd12 ct12), sl12⟩)
    (c12 : PySem.W.codeIn K cd12 "followed" = true)
    (k12 : PySem.W.keepIn K (.ref f12) = true)
    (a13 : PySem.W.nsIn K mainGlobals "fixed_term" = some (some (.ref f13)))
    (l13 : K.lookup f13 = some ⟨oc13, od13, .func (PySem.W.fnOf "fixed_term" "fixed_term" (defArgs s_fixed_term) (defBody s_fixed_term) (defScope s_fixed_term) .none kV13 dc13 pm13 an13 cd13 ct13), sl13⟩)
    (c13 : PySem.W.codeIn K cd13 "fixed_term" = true)
    (k13 : PySem.W.keepIn K (.ref f13) = true)
    (a14 : PySem.W.findIn K (.ref c_Query) "__init__" = some (some (.ref f14)))
    (i14 : PySem.W.isFn K (.ref f14) = true)
    (l14 : K.lookup f14 = some ⟨oc14, od14, .func (PySem.W.fnOf "__init__" "Query.__init__" (defArgs s_Query___init__) (defBody s_Query___init__) (defScope s_Query___init__) .none kV14 dc14 pm14 an14 cd14 ct14), sl14⟩)
    (c14 : PySem.W.codeIn K cd14 "Query.__init__" = true)
    (k14 : PySem.W.keepIn K (.ref f14) = true)
    (a15 : PySem.W.findIn K (.ref c_Query) "__call__" = some (some (.ref f15)))
    (i15 : PySem.W.isFn K (.ref f15) = true)
    (l15 : K.lookup f15 = some ⟨oc15, od15, .func (PySem.W.fnOf "__call__" "Query.__call__" (defArgs s_Query___call__) (defBody s_Query___call__) (defScope s_Query___call__) .none kV15 dc15 pm15 an15 cd15 ct15), sl15⟩)
    (c15 : PySem.W.codeIn K cd15 "Query.__call__" = true)
    (k15 : PySem.W.keepIn K (.ref f15) = true)
    (a16 : PySem.W.findIn K (.ref c_Row) "__init__" = some (some (.ref f16)))
    (i16 : PySem.W.isFn K (.ref f16) = true)
    (l16 : K.lookup f16 = some ⟨oc16, od16, .func (PySem.W.fnOf "__init__" "Row.__init__" (defArgs s_Row___init__) (defBody s_Row___init__) (defScope s_Row___init__) (.ref dT16) kV16 dc16 pm16 an16 cd16 ct16), sl16⟩)
    (dl16 : K.lookup dT16 = some ⟨dc016, dd016, .seq ditT16 dnT16, dsT16⟩)
    (dv16 : Vals [V.ref dA16] ditT16.toList)
    (dt16 : K.lookup dA16 = some ⟨.type "tuple", none, .seq ditA16 dnA16, dsA16⟩)
    (dw16 : Vals (([0] : List Int).map V.int) ditA16.toList)
    (dz16 : ditA16.size ≤ sizeLine)
    (c16 : PySem.W.codeIn K cd16 "Row.__init__" = true)
    (k16 : PySem.W.keepIn K (.ref f16) = true)
    (a17 : PySem.W.findIn K (.ref c_Row) "__getitem__" = some (some (.ref f17)))
    (i17 : PySem.W.isFn K (.ref f17) = true)
    (l17 : K.lookup f17 = some ⟨oc17, od17, .func (PySem.W.fnOf "__getitem__" "Row.__getitem__" (defArgs s_Row___getitem__) (defBody s_Row___getitem__) (defScope s_Row___getitem__) .none kV17 dc17 pm17 an17 cd17 ct17), sl17⟩)
    (c17 : PySem.W.codeIn K cd17 "Row.__getitem__" = true)
    (k17 : PySem.W.keepIn K (.ref f17) = true)
    (a18 : PySem.W.nsIn K mainGlobals "settled_part" = some (some (.ref f18)))
    (l18 : K.lookup f18 = some ⟨oc18, od18, .func (PySem.W.fnOf "settled_part" "settled_part" (defArgs s_settled_part) (defBody s_settled_part) (defScope s_settled_part) .none kV18 dc18 pm18 an18 cd18 ct18), sl18⟩)
    (c18 : PySem.W.codeIn K cd18 "settled_part" = true)
    (k18 : PySem.W.keepIn K (.ref f18) = true)
    (a19 : PySem.W.nsIn K mainGlobals "settled_term" = some (some (.ref f19)))
    (l19 : K.lookup f19 = some ⟨oc19, od19, .func (PySem.W.fnOf "settled_term" "settled_term" (defArgs s_settled_term) (defBody s_settled_term) (defScope s_settled_term) .none kV19 dc19 pm19 an19 cd19 ct19), sl19⟩)
    (c19 : PySem.W.codeIn K cd19 "settled_term" = true)
    (k19 : PySem.W.keepIn K (.ref f19) = true)
    (a20 : PySem.W.nsIn K mainGlobals "settle_query" = some (some (.ref f20)))
    (l20 : K.lookup f20 = some ⟨oc20, od20, .func (PySem.W.fnOf "settle_query" "settle_query" (defArgs s_settle_query) (defBody s_settle_query) (defScope s_settle_query) .none kV20 dc20 pm20 an20 cd20 ct20), sl20⟩)
    (c20 : PySem.W.codeIn K cd20 "settle_query" = true)
    (k20 : PySem.W.keepIn K (.ref f20) = true)
    (a21 : PySem.W.nsIn K mainGlobals "_law_start" = some (some (.ref f21)))
    (l21 : K.lookup f21 = some ⟨oc21, od21, .func (PySem.W.fnOf "_law_start" "_law_start" (defArgs s__law_start) (defBody s__law_start) (defScope s__law_start) .none kV21 dc21 pm21 an21 cd21 ct21), sl21⟩)
    (c21 : PySem.W.codeIn K cd21 "_law_start" = true)
    (k21 : PySem.W.keepIn K (.ref f21) = true)
    (a22 : PySem.W.nsIn K mainGlobals "_law_pick" = some (some (.ref f22)))
    (l22 : K.lookup f22 = some ⟨oc22, od22, .func (PySem.W.fnOf "_law_pick" "_law_pick" (defArgs s__law_pick) (defBody s__law_pick) (defScope s__law_pick) .none kV22 dc22 pm22 an22 cd22 ct22), sl22⟩)
    (c22 : PySem.W.codeIn K cd22 "_law_pick" = true)
    (k22 : PySem.W.keepIn K (.ref f22) = true)
    (a23 : PySem.W.nsIn K mainGlobals "_law_width" = some (some (.ref f23)))
    (l23 : K.lookup f23 = some ⟨oc23, od23, .func (PySem.W.fnOf "_law_width" "_law_width" (defArgs s__law_width) (defBody s__law_width) (defScope s__law_width) .none kV23 dc23 pm23 an23 cd23 ct23), sl23⟩)
    (c23 : PySem.W.codeIn K cd23 "_law_width" = true)
    (k23 : PySem.W.keepIn K (.ref f23) = true)
    (a24 : PySem.W.nsIn K mainGlobals "_law_widths" = some (some (.ref f24)))
    (l24 : K.lookup f24 = some ⟨oc24, od24, .func (PySem.W.fnOf "_law_widths" "_law_widths" (defArgs s__law_widths) (defBody s__law_widths) (defScope s__law_widths) .none kV24 dc24 pm24 an24 cd24 ct24), sl24⟩)
    (c24 : PySem.W.codeIn K cd24 "_law_widths" = true)
    (k24 : PySem.W.keepIn K (.ref f24) = true)
    (a25 : PySem.W.nsIn K mainGlobals "_law_places" = some (some (.ref f25)))
    (l25 : K.lookup f25 = some ⟨oc25, od25, .func (PySem.W.fnOf "_law_places" "_law_places" (defArgs s__law_places) (defBody s__law_places) (defScope s__law_places) .none kV25 dc25 pm25 an25 cd25 ct25), sl25⟩)
    (c25 : PySem.W.codeIn K cd25 "_law_places" = true)
    (k25 : PySem.W.keepIn K (.ref f25) = true)
    (a26 : PySem.W.nsIn K mainGlobals "_law_term" = some (some (.ref f26)))
    (l26 : K.lookup f26 = some ⟨oc26, od26, .func (PySem.W.fnOf "_law_term" "_law_term" (defArgs s__law_term) (defBody s__law_term) (defScope s__law_term) .none kV26 dc26 pm26 an26 cd26 ct26), sl26⟩)
    (c26 : PySem.W.codeIn K cd26 "_law_term" = true)
    (k26 : PySem.W.keepIn K (.ref f26) = true)
    (a27 : PySem.W.nsIn K mainGlobals "_law_shuffled" = some (some (.ref f27)))
    (l27 : K.lookup f27 = some ⟨oc27, od27, .func (PySem.W.fnOf "_law_shuffled" "_law_shuffled" (defArgs s__law_shuffled) (defBody s__law_shuffled) (defScope s__law_shuffled) .none kV27 dc27 pm27 an27 cd27 ct27), sl27⟩)
    (c27 : PySem.W.codeIn K cd27 "_law_shuffled" = true)
    (k27 : PySem.W.keepIn K (.ref f27) = true)
    (a28 : PySem.W.nsIn K mainGlobals "_law_tree" = some (some (.ref f28)))
    (l28 : K.lookup f28 = some ⟨oc28, od28, .func (PySem.W.fnOf "_law_tree" "_law_tree" (defArgs s__law_tree) (defBody s__law_tree) (defScope s__law_tree) .none kV28 dc28 pm28 an28 cd28 ct28), sl28⟩)
    (c28 : PySem.W.codeIn K cd28 "_law_tree" = true)
    (k28 : PySem.W.keepIn K (.ref f28) = true)
    (a29 : PySem.W.nsIn K mainGlobals "_law_is_number" = some (some (.ref f29)))
    (l29 : K.lookup f29 = some ⟨oc29, od29, .func (PySem.W.fnOf "_law_is_number" "_law_is_number" (defArgs s__law_is_number) (defBody s__law_is_number) (defScope s__law_is_number) .none kV29 dc29 pm29 an29 cd29 ct29), sl29⟩)
    (c29 : PySem.W.codeIn K cd29 "_law_is_number" = true)
    (k29 : PySem.W.keepIn K (.ref f29) = true)
    (a30 : PySem.W.nsIn K mainGlobals "_law_is_settled" = some (some (.ref f30)))
    (l30 : K.lookup f30 = some ⟨oc30, od30, .func (PySem.W.fnOf "_law_is_settled" "_law_is_settled" (defArgs s__law_is_settled) (defBody s__law_is_settled) (defScope s__law_is_settled) .none kV30 dc30 pm30 an30 cd30 ct30), sl30⟩)
    (c30 : PySem.W.codeIn K cd30 "_law_is_settled" = true)
    (k30 : PySem.W.keepIn K (.ref f30) = true)
    (a31 : PySem.W.nsIn K mainGlobals "_law_longer" = some (some (.ref f31)))
    (l31 : K.lookup f31 = some ⟨oc31, od31, .func (PySem.W.fnOf "_law_longer" "_law_longer" (defArgs s__law_longer) (defBody s__law_longer) (defScope s__law_longer) .none kV31 dc31 pm31 an31 cd31 ct31), sl31⟩)
    (c31 : PySem.W.codeIn K cd31 "_law_longer" = true)
    (k31 : PySem.W.keepIn K (.ref f31) = true)
    (a32 : PySem.W.nsIn K mainGlobals "_law_heads" = some (some (.ref f32)))
    (l32 : K.lookup f32 = some ⟨oc32, od32, .func (PySem.W.fnOf "_law_heads" "_law_heads" (defArgs s__law_heads) (defBody s__law_heads) (defScope s__law_heads) .none kV32 dc32 pm32 an32 cd32 ct32), sl32⟩)
    (c32 : PySem.W.codeIn K cd32 "_law_heads" = true)
    (k32 : PySem.W.keepIn K (.ref f32) = true)
    (a33 : PySem.W.nsIn K mainGlobals "_law_told" = some (some (.ref f33)))
    (l33 : K.lookup f33 = some ⟨oc33, od33, .func (PySem.W.fnOf "_law_told" "_law_told" (defArgs s__law_told) (defBody s__law_told) (defScope s__law_told) .none kV33 dc33 pm33 an33 cd33 ct33), sl33⟩)
    (c33 : PySem.W.codeIn K cd33 "_law_told" = true)
    (k33 : PySem.W.keepIn K (.ref f33) = true)
    (a34 : PySem.W.nsIn K mainGlobals "_law_row" = some (some (.ref f34)))
    (l34 : K.lookup f34 = some ⟨oc34, od34, .func (PySem.W.fnOf "_law_row" "_law_row" (defArgs s__law_row) (defBody s__law_row) (defScope s__law_row) .none kV34 dc34 pm34 an34 cd34 ct34), sl34⟩)
    (c34 : PySem.W.codeIn K cd34 "_law_row" = true)
    (k34 : PySem.W.keepIn K (.ref f34) = true)
    (a35 : PySem.W.nsIn K mainGlobals "_law_entry" = some (some (.ref f35)))
    (l35 : K.lookup f35 = some ⟨oc35, od35, .func (PySem.W.fnOf "_law_entry" "_law_entry" (defArgs s__law_entry) (defBody s__law_entry) (defScope s__law_entry) .none kV35 dc35 pm35 an35 cd35 ct35), sl35⟩)
    (c35 : PySem.W.codeIn K cd35 "_law_entry" = true)
    (k35 : PySem.W.keepIn K (.ref f35) = true)
    (a36 : PySem.W.nsIn K mainGlobals "_law_answer" = some (some (.ref f36)))
    (l36 : K.lookup f36 = some ⟨oc36, od36, .func (PySem.W.fnOf "_law_answer" "_law_answer" (defArgs s__law_answer) (defBody s__law_answer) (defScope s__law_answer) .none kV36 dc36 pm36 an36 cd36 ct36), sl36⟩)
    (c36 : PySem.W.codeIn K cd36 "_law_answer" = true)
    (k36 : PySem.W.keepIn K (.ref f36) = true)
    (a37 : PySem.W.nsIn K mainGlobals "law" = some (some (.ref f37)))
    (l37 : K.lookup f37 = some ⟨oc37, od37, .func (PySem.W.fnOf "law" "law" (defArgs s_law) (defBody s_law) (defScope s_law) .none kV37 dc37 pm37 an37 cd37 ct37), sl37⟩)
    (c37 : PySem.W.codeIn K cd37 "law" = true)
    (k37 : PySem.W.keepIn K (.ref f37) = true)
    (z_isinstance : PySem.W.nsIn K mainGlobals "isinstance" = some none)
    (z_int : PySem.W.nsIn K mainGlobals "int" = some none)
    (z_bool : PySem.W.nsIn K mainGlobals "bool" = some none)
    (z_all : PySem.W.nsIn K mainGlobals "all" = some none)
    (z_str : PySem.W.nsIn K mainGlobals "str" = some none)
    (z_len : PySem.W.nsIn K mainGlobals "len" = some none)
    (z_enumerate : PySem.W.nsIn K mainGlobals "enumerate" = some none)
    (z_tuple : PySem.W.nsIn K mainGlobals "tuple" = some none)
    (z_sorted : PySem.W.nsIn K mainGlobals "sorted" = some none)
    (z_set : PySem.W.nsIn K mainGlobals "set" = some none)
    (z_min : PySem.W.nsIn K mainGlobals "min" = some none)
    (z_range : PySem.W.nsIn K mainGlobals "range" = some none)
    (z_list : PySem.W.nsIn K mainGlobals "list" = some none)
    (gc_LETTERS : PySem.W.nsIn K mainGlobals "LETTERS" = some (some (.str "abcdefghijklmnopqrstuvwxyz" tk_LETTERS)))
    (gc_DIGITS : PySem.W.nsIn K mainGlobals "DIGITS" = some (some (.str "0123456789" tk_DIGITS)))
    (gc_LONGEST_WORD : PySem.W.nsIn K mainGlobals "LONGEST_WORD" = some (some (.int 12 tk_LONGEST_WORD)))
    (gc_LONGEST_NUMBER : PySem.W.nsIn K mainGlobals "LONGEST_NUMBER" = some (some (.int 9 tk_LONGEST_NUMBER)))
    (gc_NUMBERS_END : PySem.W.nsIn K mainGlobals "NUMBERS_END" = some (some (.int 1000000000 tk_NUMBERS_END)))
    (gc_DEEPEST_TUPLE : PySem.W.nsIn K mainGlobals "DEEPEST_TUPLE" = some (some (.int 30 tk_DEEPEST_TUPLE)))
    (gc_MOST_OUTCOMES : PySem.W.nsIn K mainGlobals "MOST_OUTCOMES" = some (some (.int 4 tk_MOST_OUTCOMES)))
    (gc_MOST_WIDTHS : PySem.W.nsIn K mainGlobals "MOST_WIDTHS" = some (some (.int 6 tk_MOST_WIDTHS)))
    (gc_WIDEST : PySem.W.nsIn K mainGlobals "WIDEST" = some (some (.int 4 tk_WIDEST)))
    (gc_PLACES : PySem.W.nsIn K mainGlobals "PLACES" = some (some (.int 100 tk_PLACES)))
    (gc_ITEMS_BEFORE : PySem.W.nsIn K mainGlobals "ITEMS_BEFORE" = some (some (.int 2 tk_ITEMS_BEFORE)))
    (gc_TWO_OUTCOMES : PySem.W.nsIn K mainGlobals "TWO_OUTCOMES" = some (some (.int 2 tk_TWO_OUTCOMES)))
    (g_OutOfRange : PySem.W.nsIn K mainGlobals "OutOfRange" = some (some (.ref c_OutOfRange)))
    (g_TooLarge : PySem.W.nsIn K mainGlobals "TooLarge" = some (some (.ref c_TooLarge)))
    (g_InvalidQuery : PySem.W.nsIn K mainGlobals "InvalidQuery" = some (some (.ref c_InvalidQuery)))
    (g_InvalidTerm : PySem.W.nsIn K mainGlobals "InvalidTerm" = some (some (.ref c_InvalidTerm)))
    (x_OutOfRange : PySem.W.excIn K c_OutOfRange [.type "ValueError", .type "Exception", .type "BaseException", .type "object"] "ValueError.__new__" = true)
    (x_TooLarge : PySem.W.excIn K c_TooLarge [.type "ValueError", .type "Exception", .type "BaseException", .type "object"] "ValueError.__new__" = true)
    (z_super : PySem.W.nsIn K mainGlobals "super" = some none)
    (opq_ : PySem.W.nsIn K cStatics "thirdparty.any" = some none)
    (kc_OutOfRange : PySem.W.keepIn K (.ref c_OutOfRange) = true)
    (e_OutOfRange : PySem.W.subIn K (.ref c_OutOfRange) (.type "BaseException") = some true)
    (t_OutOfRange : PySem.W.typeIn K (.ref c_OutOfRange) = some (.type "type"))
    (hg_OutOfRange : PySem.W.findIn K (.ref c_OutOfRange) "__getattribute__" = some (some (.builtin "BaseException.__getattribute__")))
    (hk_OutOfRange : PySem.W.findIn K (.ref c_OutOfRange) "__getattr__" = some none)
    (hd_OutOfRange : PySem.W.hasDictIn K c_OutOfRange = true)
    (ha_OutOfRange : PySem.W.findIn K (.ref c_OutOfRange) "__class__" = some (some (.builtin "object.__class__")))
    (hm_OutOfRange : PySem.W.mroIn K c_OutOfRange (.type "object") = some true)
    (s_OutOfRange_OutOfRange : PySem.W.subIn K (.ref c_OutOfRange) (.ref c_OutOfRange) = some true)
    (kc_TooLarge : PySem.W.keepIn K (.ref c_TooLarge) = true)
    (e_TooLarge : PySem.W.subIn K (.ref c_TooLarge) (.type "BaseException") = some true)
    (t_TooLarge : PySem.W.typeIn K (.ref c_TooLarge) = some (.type "type"))
    (hg_TooLarge : PySem.W.findIn K (.ref c_TooLarge) "__getattribute__" = some (some (.builtin "BaseException.__getattribute__")))
    (hk_TooLarge : PySem.W.findIn K (.ref c_TooLarge) "__getattr__" = some none)
    (hd_TooLarge : PySem.W.hasDictIn K c_TooLarge = true)
    (ha_TooLarge : PySem.W.findIn K (.ref c_TooLarge) "__class__" = some (some (.builtin "object.__class__")))
    (hm_TooLarge : PySem.W.mroIn K c_TooLarge (.type "object") = some true)
    (s_TooLarge_TooLarge : PySem.W.subIn K (.ref c_TooLarge) (.ref c_TooLarge) = some true)
    (kc_InvalidQuery : PySem.W.keepIn K (.ref c_InvalidQuery) = true)
    (e_InvalidQuery : PySem.W.subIn K (.ref c_InvalidQuery) (.type "BaseException") = some true)
    (t_InvalidQuery : PySem.W.typeIn K (.ref c_InvalidQuery) = some (.type "type"))
    (hg_InvalidQuery : PySem.W.findIn K (.ref c_InvalidQuery) "__getattribute__" = some (some (.builtin "BaseException.__getattribute__")))
    (hk_InvalidQuery : PySem.W.findIn K (.ref c_InvalidQuery) "__getattr__" = some none)
    (hd_InvalidQuery : PySem.W.hasDictIn K c_InvalidQuery = true)
    (ha_InvalidQuery : PySem.W.findIn K (.ref c_InvalidQuery) "__class__" = some (some (.builtin "object.__class__")))
    (hm_InvalidQuery : PySem.W.mroIn K c_InvalidQuery (.type "object") = some true)
    (s_InvalidQuery_InvalidQuery : PySem.W.subIn K (.ref c_InvalidQuery) (.ref c_InvalidQuery) = some true)
    (ic_InvalidQuery : PySem.W.findIn K (.ref c_InvalidQuery) "__init__" = some (some (.ref fi_InvalidQuery)))
    (li_InvalidQuery : K.lookup fi_InvalidQuery = some ⟨oci_InvalidQuery, odi_InvalidQuery, .func (PySem.W.ksFn "__init__" "InvalidTerm.__init__" (defArgs si_InvalidTerm) (defBody si_InvalidTerm) (defScope si_InvalidTerm) .none kVi_InvalidQuery dci_InvalidQuery pmi_InvalidQuery ani_InvalidQuery (.ref cda_InvalidQuery) cti_InvalidQuery cc_InvalidQuery), sli_InvalidQuery⟩)
    (cdi_InvalidQuery : PySem.W.codeIn K (.ref cda_InvalidQuery) "InvalidTerm.__init__" = true)
    (ti_InvalidQuery : PySem.W.typeIn K (.ref fi_InvalidQuery) = some (.type "function"))
    (no_InvalidQuery : PySem.W.findIn K (.ref c_InvalidQuery) "path" = some none)
    (cell_InvalidQuery : K.lookup cc_InvalidQuery = some ⟨clc_InvalidQuery, cld_InvalidQuery, .cell (some (.ref c_InvalidTerm)), csl_InvalidQuery⟩)
    (own_InvalidQuery : PySem.W.isClsIn K c_InvalidTerm = true)
    (sb_InvalidQuery : PySem.W.mroIn K c_InvalidQuery (.ref c_InvalidTerm) = some true)
    (ve_InvalidQuery : PySem.W.subIn K (.ref c_InvalidQuery) (.type "ValueError") = some true)
    (sup_InvalidQuery : PySem.W.ks_superIn K c_InvalidQuery c_InvalidTerm "__init__" = some (some (.builtin "ValueError.__init__")))
    (code_InvalidQuery : K.lookup cda_InvalidQuery = some ⟨ccl_InvalidQuery, cdd_InvalidQuery, .fields vs_InvalidQuery, ccs_InvalidQuery⟩)
    (cfl_InvalidQuery : vs_InvalidQuery[2]? = some (.str fl_InvalidQuery tf_InvalidQuery))
    (hfl_InvalidQuery : ((P.main.file : Str) == fl_InvalidQuery) = true)
    (ob_InvalidQuery : K.lookup c_InvalidQuery = some (excClassObj nm_InvalidQuery qn_InvalidQuery c_InvalidQuery ns_InvalidQuery bs_InvalidQuery bm_InvalidQuery true sn_InvalidQuery sb2_InvalidQuery ab_InvalidQuery col_InvalidQuery dd_InvalidQuery k0_InvalidQuery k1_InvalidQuery k2_InvalidQuery k3_InvalidQuery k5_InvalidQuery "ValueError.__new__"))
    (rv_InvalidQuery : PySem.HandSPX.refsVE bm_InvalidQuery = true)
    (sa_InvalidQuery : PySem.W.findIn K (.ref c_InvalidQuery) "__setattr__" = some (some (.builtin "object.__setattr__")))
    (htop_ : (P.main.scope.names.lookup ("super" : Str)).isSome = false)
    (q_OutOfRange : PySem.W.isClsIn K c_OutOfRange = true)
    (q_TooLarge : PySem.W.isClsIn K c_TooLarge = true)
    (q_InvalidQuery : PySem.W.isClsIn K c_InvalidQuery = true)
    (hn_ : PySem.W.specialIn K (.builtin "object.__class__") "__get__" = some (some (.builtin "getset_descriptor.__get__")))
    (ht_ : PySem.W.takesIn K (.builtin "object.__class__") = some true)
    (pg_Query : PySem.W.plainGet K c_Query Str.empty = true)
    (hdc_Query : PySem.W.hasDictIn K c_Query = true)
    (po_Query : PySem.W.plainOver K c_Query = true)
    (sac_Query : PySem.W.findIn K (.ref c_Query) "__setattr__" = some (some (.builtin "object.__setattr__")))
    (mk_Query : PySem.W.makesIn K c_Query = true)
    (kcc_Query : PySem.W.keepIn K (.ref c_Query) = true)
    (fn_Query___call__ : PySem.W.fnIn K f15 = true)
    (na_Query_term : PySem.W.findIn K (.ref c_Query) "term" = some none)
    (na_Query_widths : PySem.W.findIn K (.ref c_Query) "widths" = some none)
    (na_Query_outcomes : PySem.W.findIn K (.ref c_Query) "outcomes" = some none)
    (rdc_Query : PySem.W.readsIn K c_Query (.type "type") = true)
    (rga_Query : PySem.W.specialIn K (.ref c_Query) "__getattribute__" = some (some (.builtin "type.__getattribute__")))
    (cv_Query_MOST_LEVELS : PySem.W.findCls K (.ref c_Query) (.type "type") "MOST_LEVELS" = some (.val (.int 20 tv_Query_MOST_LEVELS)))
    (cv_Query_MOST_LOOKS : PySem.W.findCls K (.ref c_Query) (.type "type") "MOST_LOOKS" = some (.val (.int 300 tv_Query_MOST_LOOKS)))
    (cv_Query_MOST_CHOICES : PySem.W.findCls K (.ref c_Query) (.type "type") "MOST_CHOICES" = some (.val (.int 256 tv_Query_MOST_CHOICES)))
    (pg_Row : PySem.W.plainGet K c_Row Str.empty = true)
    (hdc_Row : PySem.W.hasDictIn K c_Row = true)
    (po_Row : PySem.W.plainOver K c_Row = true)
    (sac_Row : PySem.W.findIn K (.ref c_Row) "__setattr__" = some (some (.builtin "object.__setattr__")))
    (mk_Row : PySem.W.makesIn K c_Row = true)
    (kcc_Row : PySem.W.keepIn K (.ref c_Row) = true)
    (fn_Row___getitem__ : PySem.W.fnIn K f17 = true)
    (na_Row_head : PySem.W.findIn K (.ref c_Row) "head" = some none)
    (na_Row_cycle : PySem.W.findIn K (.ref c_Row) "cycle" = some none)
    : ∃ fd : FuncData, (∀ (s : Shared) (v : Value), BindsTo s fd ⟨[v], []⟩ [("_law_script", v)]) ∧ ∀ base : Heap, K.In base → base.Ns mainGlobals mg → FnOk P w K mg base (L2N.CX P w) 70 fa fd ["_law_script"] (spOf K c_law) := by
  have e := hfa.symm.trans (PySem.W.mg_of X G a37)
  cases e
  have F0 := fun_mk (st := s_is_number) l0 c0 k0
  have b0 := F0.binds (ps := ["value"]) fun _ _ _ _ _ _ us hl => match us, hl with | [_], _ => rfl
  have F1 := fun_mk (st := s_is_below) l1 c1 k1
  have b1 := F1.binds (ps := ["value", "limit"]) fun _ _ _ _ _ _ us hl => match us, hl with | [_, _], _ => rfl
  have F2 := fun_mk (st := s_count_choices) l2 c2 k2
  have b2 := F2.binds (ps := ["widths"]) fun _ _ _ _ _ _ us hl => match us, hl with | [_], _ => rfl
  have F3 := fun_mk (st := s_has_outcomes) l3 c3 k3
  have b3 := F3.binds (ps := ["outcomes"]) fun _ _ _ _ _ _ us hl => match us, hl with | [_], _ => rfl
  have F4 := fun_mk (st := s_width_at) l4 c4 k4
  have b4 := F4.binds (ps := ["widths", "place"]) fun _ _ _ _ _ _ us hl => match us, hl with | [_, _], _ => rfl
  have F5 := fun_mk (st := s_terms_behind) l5 c5 k5
  have b5 := F5.binds (ps := ["term"]) fun _ _ _ _ _ _ us hl => match us, hl with | [_], _ => rfl
  have F6 := fun_mk (st := s_are_widths) l6 c6 k6
  have b6 := F6.binds (ps := ["widths"]) fun _ _ _ _ _ _ us hl => match us, hl with | [_], _ => rfl
  have F7 := fun_mk (st := s_require_form) l7 c7 k7
  have b7 := F7.binds (ps := ["widths", "outcomes"]) fun _ _ _ _ _ _ us hl => match us, hl with | [_, _], _ => rfl
  have F8 := fun_mk (st := s_has_query_form) l8 c8 k8
  have b8 := F8.binds (ps := ["term", "widths", "level"]) fun _ _ _ _ _ _ us hl => match us, hl with | [_, _, _], _ => rfl
  have F9 := fun_mk (st := s_wrong_query) l9 c9 k9
  have b9 := F9.binds (ps := ["term", "widths", "outcomes", "level"]) fun _ _ _ _ _ _ us hl => match us, hl with | [_, _, _, _], _ => rfl
  have F10 := fun_mk (st := s_places_of) l10 c10 k10
  have b10 := F10.binds (ps := ["term"]) fun _ _ _ _ _ _ us hl => match us, hl with | [_], _ => rfl
  have F11 := fun_mk (st := s_require_few) l11 c11 k11
  have b11 := F11.binds (ps := ["places", "widths"]) fun _ _ _ _ _ _ us hl => match us, hl with | [_, _], _ => rfl
  have F12 := fun_mk (st := s_followed) l12 c12 k12
  have b12 := F12.binds (ps := ["query", "row"]) fun _ _ _ _ _ _ us hl => match us, hl with | [_, _], _ => rfl
  have F13 := fun_mk (st := s_fixed_term) l13 c13 k13
  have b13 := F13.binds (ps := ["term", "place", "option"]) fun _ _ _ _ _ _ us hl => match us, hl with | [_, _, _], _ => rfl
  have F14 := fun_mk (st := s_Query___init__) l14 c14 k14
  have b14 := F14.binds (ps := ["self", "term", "widths", "outcomes"]) fun _ _ _ _ _ _ us hl => match us, hl with | [_, _, _, _], _ => rfl
  have F15 := fun_mk (st := s_Query___call__) l15 c15 k15
  have b15 := F15.binds (ps := ["self", "row"]) fun _ _ _ _ _ _ us hl => match us, hl with | [_, _], _ => rfl
  have F16 := fund_mk (st := s_Row___init__) l16 c16 k16 dl16 dv16 (by nofun)
  have b16 := binds_full (F16.binds1 (ps := ["self", "head", "cycle"]) 3 1 (by nofun) rfl fun _ _ _ _ _ _ _ us its hu hi => match us, its, hu, hi with | [_, _, _], [_], _, _ => ⟨_, rfl, rfl⟩)
  have bd16 := F16.binds1 (ps := ["self", "head", "cycle"]) 2 0 (by nofun) rfl fun _ _ _ _ _ _ _ us its hu hi => match us, its, hu, hi with | [_, _], [_], _, _ => ⟨_, rfl, rfl⟩
  have F17 := fun_mk (st := s_Row___getitem__) l17 c17 k17
  have b17 := F17.binds (ps := ["self", "at"]) fun _ _ _ _ _ _ us hl => match us, hl with | [_, _], _ => rfl
  have F18 := fun_mk (st := s_settled_part) l18 c18 k18
  have b18 := F18.binds (ps := ["term", "widths"]) fun _ _ _ _ _ _ us hl => match us, hl with | [_, _], _ => rfl
  have F19 := fun_mk (st := s_settled_term) l19 c19 k19
  have b19 := F19.binds (ps := ["query"]) fun _ _ _ _ _ _ us hl => match us, hl with | [_], _ => rfl
  have F20 := fun_mk (st := s_settle_query) l20 c20 k20
  have b20 := F20.binds (ps := ["query"]) fun _ _ _ _ _ _ us hl => match us, hl with | [_], _ => rfl
  have F21 := fun_mk (st := s__law_start) l21 c21 k21
  have b21 := F21.binds (ps := ["_law_script"]) fun _ _ _ _ _ _ us hl => match us, hl with | [_], _ => rfl
  have F22 := fun_mk (st := s__law_pick) l22 c22 k22
  have b22 := F22.binds (ps := ["_law_state", "_law_limit"]) fun _ _ _ _ _ _ us hl => match us, hl with | [_, _], _ => rfl
  have F23 := fun_mk (st := s__law_width) l23 c23 k23
  have b23 := F23.binds (ps := ["_law_widths_here", "_law_place"]) fun _ _ _ _ _ _ us hl => match us, hl with | [_, _], _ => rfl
  have F24 := fun_mk (st := s__law_widths) l24 c24 k24
  have b24 := F24.binds (ps := ["_law_state"]) fun _ _ _ _ _ _ us hl => match us, hl with | [_], _ => rfl
  have F25 := fun_mk (st := s__law_places) l25 c25 k25
  have b25 := F25.binds (ps := ["_law_state", "_law_widths_here", "_law_count", "_law_most"]) fun _ _ _ _ _ _ us hl => match us, hl with | [_, _, _, _], _ => rfl
  have F26 := fun_mk (st := s__law_term) l26 c26 k26
  have b26 := F26.binds (ps := ["_law_state", "_law_size", "_law_places_here", "_law_levels"]) fun _ _ _ _ _ _ us hl => match us, hl with | [_, _, _, _], _ => rfl
  have F27 := fun_mk (st := s__law_shuffled) l27 c27 k27
  have b27 := F27.binds (ps := ["_law_state", "_law_places_here"]) fun _ _ _ _ _ _ us hl => match us, hl with | [_, _], _ => rfl
  have F28 := fun_mk (st := s__law_tree) l28 c28 k28
  have b28 := F28.binds (ps := ["_law_state", "_law_size", "_law_order", "_law_marked", "_law_total"]) fun _ _ _ _ _ _ us hl => match us, hl with | [_, _, _, _, _], _ => rfl
  have F29 := fun_mk (st := s__law_is_number) l29 c29 k29
  have b29 := F29.binds (ps := ["_law_item", "_law_limit"]) fun _ _ _ _ _ _ us hl => match us, hl with | [_, _], _ => rfl
  have F30 := fun_mk (st := s__law_is_settled) l30 c30 k30
  have b30 := F30.binds (ps := ["_law_term_here", "_law_size", "_law_least"]) fun _ _ _ _ _ _ us hl => match us, hl with | [_, _, _], _ => rfl
  have F31 := fun_mk (st := s__law_longer) l31 c31 k31
  have b31 := F31.binds (ps := ["_law_heads_here", "_law_options"]) fun _ _ _ _ _ _ us hl => match us, hl with | [_, _], _ => rfl
  have F32 := fun_mk (st := s__law_heads) l32 c32 k32
  have b32 := F32.binds (ps := ["_law_widths_here", "_law_places_here"]) fun _ _ _ _ _ _ us hl => match us, hl with | [_, _], _ => rfl
  have F33 := fun_mk (st := s__law_told) l33 c33 k33
  have b33 := F33.binds (ps := ["_law_term_here", "_law_places_here", "_law_head"]) fun _ _ _ _ _ _ us hl => match us, hl with | [_, _, _], _ => rfl
  have F34 := fun_mk (st := s__law_row) l34 c34 k34
  have b34 := F34.binds (ps := ["_law_state", "_law_widths_here"]) fun _ _ _ _ _ _ us hl => match us, hl with | [_, _], _ => rfl
  have F35 := fun_mk (st := s__law_entry) l35 c35 k35
  have b35 := F35.binds (ps := ["_law_row_here", "_law_place"]) fun _ _ _ _ _ _ us hl => match us, hl with | [_, _], _ => rfl
  have F36 := fun_mk (st := s__law_answer) l36 c36 k36
  have b36 := F36.binds (ps := ["_law_query", "_law_row_here"]) fun _ _ _ _ _ _ us hl => match us, hl with | [_, _], _ => rfl
  have F37 := fun_mk (st := s_law) l37 c37 k37
  have b37 := F37.binds (ps := ["_law_script"]) fun _ _ _ _ _ _ us hl => match us, hl with | [_], _ => rfl
  have ox_InvalidQuery : OexC K c_InvalidQuery := ⟨⟨_, _, _, _, _, _, _, _, _, _, _, _, _, _, _, ob_InvalidQuery, rv_InvalidQuery⟩, sa_InvalidQuery, e_InvalidQuery, t_InvalidQuery, kc_InvalidQuery⟩
  have su_InvalidQuery : SupC K c_InvalidQuery c_InvalidTerm cc_InvalidQuery fi_InvalidQuery cda_InvalidQuery fl_InvalidQuery := ⟨ox_InvalidQuery, ⟨_, _, _, cell_InvalidQuery⟩, own_InvalidQuery, sb_InvalidQuery, ve_InvalidQuery, opq_, sup_InvalidQuery, ⟨_, _, _, _, _, code_InvalidQuery, cfl_InvalidQuery⟩⟩
  exact ⟨_, fun s v => .of_eq rfl, fun base _ _ => ok_law (⟨f0, _, F0, PySem.W.mg_of X G a0, b0,
    f1, _, F1, PySem.W.mg_of X G a1, b1,
    f2, _, F2, PySem.W.mg_of X G a2, b2,
    f3, _, F3, PySem.W.mg_of X G a3, b3,
    f4, _, F4, PySem.W.mg_of X G a4, b4,
    f5, _, F5, PySem.W.mg_of X G a5, b5,
    f6, _, F6, PySem.W.mg_of X G a6, b6,
    f7, _, F7, PySem.W.mg_of X G a7, b7,
    f8, _, F8, PySem.W.mg_of X G a8, b8,
    f9, _, F9, PySem.W.mg_of X G a9, b9,
    f10, _, F10, PySem.W.mg_of X G a10, b10,
    f11, _, F11, PySem.W.mg_of X G a11, b11,
    f12, _, F12, PySem.W.mg_of X G a12, b12,
    f13, _, F13, PySem.W.mg_of X G a13, b13,
    f14, _, F14, b14,
    f15, _, F15, b15,
    dA16, ⟨_, ditA16, _, dt16, rfl, rfl, rfl, dz16, dw16⟩, f16, _, F16, b16, bd16,
    f17, _, F17, b17,
    f18, _, F18, PySem.W.mg_of X G a18, b18,
    f19, _, F19, PySem.W.mg_of X G a19, b19,
    f20, _, F20, PySem.W.mg_of X G a20, b20,
    f21, _, F21, PySem.W.mg_of X G a21, b21,
    f22, _, F22, PySem.W.mg_of X G a22, b22,
    f23, _, F23, PySem.W.mg_of X G a23, b23,
    f24, _, F24, PySem.W.mg_of X G a24, b24,
    f25, _, F25, PySem.W.mg_of X G a25, b25,
    f26, _, F26, PySem.W.mg_of X G a26, b26,
    f27, _, F27, PySem.W.mg_of X G a27, b27,
    f28, _, F28, PySem.W.mg_of X G a28, b28,
    f29, _, F29, PySem.W.mg_of X G a29, b29,
    f30, _, F30, PySem.W.mg_of X G a30, b30,
    f31, _, F31, PySem.W.mg_of X G a31, b31,
    f32, _, F32, PySem.W.mg_of X G a32, b32,
    f33, _, F33, PySem.W.mg_of X G a33, b33,
    f34, _, F34, PySem.W.mg_of X G a34, b34,
    f35, _, F35, PySem.W.mg_of X G a35, b35,
    f36, _, F36, PySem.W.mg_of X G a36, b36,
    fa, _, F37, PySem.W.mg_of X G a37, b37,
    PySem.W.mg_none_of X G z_isinstance,
    PySem.W.mg_none_of X G z_int,
    PySem.W.mg_none_of X G z_bool,
    PySem.W.mg_none_of X G z_all,
    PySem.W.mg_none_of X G z_str,
    PySem.W.mg_none_of X G z_len,
    PySem.W.mg_none_of X G z_enumerate,
    PySem.W.mg_none_of X G z_tuple,
    PySem.W.mg_none_of X G z_sorted,
    PySem.W.mg_none_of X G z_set,
    PySem.W.mg_none_of X G z_min,
    PySem.W.mg_none_of X G z_range,
    PySem.W.mg_none_of X G z_list,
    ⟨_, PySem.W.mg_of X G gc_LETTERS⟩,
    ⟨_, PySem.W.mg_of X G gc_DIGITS⟩,
    ⟨_, PySem.W.mg_of X G gc_LONGEST_WORD⟩,
    ⟨_, PySem.W.mg_of X G gc_LONGEST_NUMBER⟩,
    ⟨_, PySem.W.mg_of X G gc_NUMBERS_END⟩,
    ⟨_, PySem.W.mg_of X G gc_DEEPEST_TUPLE⟩,
    ⟨_, PySem.W.mg_of X G gc_MOST_OUTCOMES⟩,
    ⟨_, PySem.W.mg_of X G gc_MOST_WIDTHS⟩,
    ⟨_, PySem.W.mg_of X G gc_WIDEST⟩,
    ⟨_, PySem.W.mg_of X G gc_PLACES⟩,
    ⟨_, PySem.W.mg_of X G gc_ITEMS_BEFORE⟩,
    ⟨_, PySem.W.mg_of X G gc_TWO_OUTCOMES⟩,
    c_OutOfRange, PySem.W.mg_of X G g_OutOfRange,
    c_TooLarge, PySem.W.mg_of X G g_TooLarge,
    c_InvalidQuery, PySem.W.mg_of X G g_InvalidQuery,
    fi_InvalidQuery, _, ox_InvalidQuery, ic_InvalidQuery, ti_InvalidQuery, no_InvalidQuery, ⟨hg_InvalidQuery, hk_InvalidQuery, e_InvalidQuery, hd_InvalidQuery⟩, ⟨hg_InvalidQuery, hk_InvalidQuery, e_InvalidQuery, hd_InvalidQuery, ha_InvalidQuery, hn_, ht_, hm_InvalidQuery⟩, okinit_InvalidTerm li_InvalidQuery cdi_InvalidQuery su_InvalidQuery hfl_InvalidQuery htop_ (PySem.W.mg_none_of X G z_super), Binds.all fun us hl => match us, hl with | [_, _], _ => rfl,
    x_OutOfRange, kc_OutOfRange, e_OutOfRange, t_OutOfRange, ⟨hg_OutOfRange, hk_OutOfRange, e_OutOfRange, hd_OutOfRange, ha_OutOfRange, hn_, ht_, hm_OutOfRange⟩,
    x_TooLarge, kc_TooLarge, e_TooLarge, t_TooLarge, ⟨hg_TooLarge, hk_TooLarge, e_TooLarge, hd_TooLarge, ha_TooLarge, hn_, ht_, hm_TooLarge⟩,
    c_Query, PySem.W.mg_of X G g_Query, ⟨mk_Query, a14, i14, kcc_Query⟩, ⟨pg_Query, hdc_Query, po_Query, sac_Query⟩,
    fn_Query___call__,
    na_Query_term,
    na_Query_widths,
    na_Query_outcomes,
    .type "type", ⟨rdc_Query, rga_Query⟩,
    ⟨_, cv_Query_MOST_LEVELS, ⟨_, rfl⟩⟩,
    ⟨_, cv_Query_MOST_LOOKS, ⟨_, rfl⟩⟩,
    ⟨_, cv_Query_MOST_CHOICES, ⟨_, rfl⟩⟩,
    ⟨a15, i15, k15⟩,
    c_Row, PySem.W.mg_of X G g_Row, ⟨mk_Row, a16, i16, kcc_Row⟩, ⟨pg_Row, hdc_Row, po_Row, sac_Row⟩,
    fn_Row___getitem__,
    na_Row_head,
    na_Row_cycle,
    ⟨a17, i17, k17⟩⟩ : Txt P w K mg)⟩
theorem sp_law_of {K : Fg} {H : Hp} {a : Addr} {ns : List Int} (hl : ns.length ≤ 63) (hS : SqL K H a (ns.map V.int)) : spOf K c_law [.ref a] H (fun v _ => v = .bl true) fun _ _ _ => False :=
  ⟨fun _ => none, [.scr ns], fun d _ => d = .bl true, fun _ _ => False, (fun _ _ z => nomatch z), .scr (hS.elim (fun q => .inl ⟨q, .of rfl⟩) fun q => .inr q) .nil, ⟨ns, rfl, hl, rfl⟩, fun v H' d μ' _ _ r e => by subst e; exact Rep.bl_inv r, fun _ _ _ _ _ _ _ _ z => z⟩
open PyProof.Rows in
theorem walk {l : PySem.W.OpenLaw} {q : Program} {loose : List Str} {XP : (Str → Option Value) → Heap → Prop} {YP : World → Heap → Prop} {d : DefRec} {K : Params → PySem.W.Frag} (hn : l.most = some 63) (hdf : d.params.defaults = [])
    (hY : ∀ (w : World) (h : Heap), YP w h → (K w.params).In h)
    (F : ∀ (w : World) (mg : Str → Option Value) (fa : Addr) (h : Heap), (K w.params).In h → h.Ns mainGlobals mg → mg d.name = some (.ref fa) →
      ∃ fd : FuncData, (∀ (s : Shared) (u : Value), BindsTo s fd ⟨[u], []⟩ [("_law_script", u)]) ∧ ∀ base : Heap, (K w.params).In base → base.Ns mainGlobals mg → FnOk l.prog w (K w.params) mg base (L2N.CX l.prog w) 70 fa fd ["_law_script"] (spOf (K w.params) c_law)) :
    PySem.W.WalkO q loose XP YP l.row.toRowW d [] (fun f vs => PySem.call f vs) :=
  L2.walk_of (n := 63) (k := 70) (x := "_law_script") (CX := fun w => L2N.CX l.prog w) (sp := fun w => spOf (K w.params) c_law) hn (by decide) hdf ⟨rfl, by decide, by decide⟩ hY F (fun _ _ a ns hl _ hS => sp_law_of hl hS) fun _ _ _ _ _ h => by
    obtain ⟨_, _, _, _, _, _, _, _, _, _, _, _, z⟩ := h
    exact z
end LW
set_option Elab.async false
set_option linter.all false
open PySem PySem.W PyProof.Rows in
set_option maxRecDepth 100000 in
set_option maxHeartbeats 0 in
theorem PySem.Challenge.cw_choosersrow_k41_settled_queries_holds : PySem.Challenge.rw_choosersrow_k41_settled_queries.Holds := by
  w_on; o_law; k_head; (case hw => w_witness2)
  k_fill
  refine LW.walk (l := PySem.Challenge.rw_choosersrow_k41_settled_queries) rfl rfl (fun w h Y => PySem.W.kIn_of Y) ?F
  case F =>
    intro w mg fa h KX G hmg
    refine' LW.all_mk KX G hmg ?g_Query ?g_Row ?a0 ?l0 ?c0 ?k0 ?a1 ?l1 ?c1 ?k1 ?a2 ?l2 ?c2 ?k2 ?a3 ?l3 ?c3 ?k3 ?a4 ?l4 ?c4 ?k4 ?a5 ?l5 ?c5 ?k5 ?a6 ?l6 ?c6 ?k6 ?a7 ?l7 ?c7 ?k7 ?a8 ?l8 ?c8 ?k8 ?a9 ?l9 ?c9 ?k9 ?a10 ?l10 ?c10 ?k10 ?a11 ?l11 ?c11 ?k11 ?a12 ?l12 ?c12 ?k12 ?a13 ?l13 ?c13 ?k13 ?a14 ?i14 ?l14 ?c14 ?k14 ?a15 ?i15 ?l15 ?c15 ?k15 ?a16 ?i16 ?l16 ?dl16 ?dv16 ?dt16 ?dw16 ?dz16 ?c16 ?k16 ?a17 ?i17 ?l17 ?c17 ?k17 ?a18 ?l18 ?c18 ?k18 ?a19 ?l19 ?c19 ?k19 ?a20 ?l20 ?c20 ?k20 ?a21 ?l21 ?c21 ?k21 ?a22 ?l22 ?c22 ?k22 ?a23 ?l23 ?c23 ?k23 ?a24 ?l24 ?c24 ?k24 ?a25 ?l25 ?c25 ?k25 ?a26 ?l26 ?c26 ?k26 ?a27 ?l27 ?c27 ?k27 ?a28 ?l28 ?c28 ?k28 ?a29 ?l29 ?c29 ?k29 ?a30 ?l30 ?c30 ?k30 ?a31 ?l31 ?c31 ?k31 ?a32 ?l32 ?c32 ?k32 ?a33 ?l33 ?c33 ?k33 ?a34 ?l34 ?c34 ?k34 ?a35 ?l35 ?c35 ?k35 ?a36 ?l36 ?c36 ?k36 ?a37 ?l37 ?c37 ?k37 ?z_isinstance ?z_int ?z_bool ?z_all ?z_str ?z_len ?z_enumerate ?z_tuple ?z_sorted ?z_set ?z_min ?z_range ?z_list ?gc_LETTERS ?gc_DIGITS ?gc_LONGEST_WORD ?gc_LONGEST_NUMBER ?gc_NUMBERS_END ?gc_DEEPEST_TUPLE ?gc_MOST_OUTCOMES ?gc_MOST_WIDTHS ?gc_WIDEST ?gc_PLACES ?gc_ITEMS_BEFORE ?gc_TWO_OUTCOMES ?g_OutOfRange ?g_TooLarge ?g_InvalidQuery ?g_InvalidTerm ?x_OutOfRange ?x_TooLarge ?z_super ?opq_ ?kc_OutOfRange ?e_OutOfRange ?t_OutOfRange ?hg_OutOfRange ?hk_OutOfRange ?hd_OutOfRange ?ha_OutOfRange ?hm_OutOfRange ?s_OutOfRange_OutOfRange ?kc_TooLarge ?e_TooLarge ?t_TooLarge ?hg_TooLarge ?hk_TooLarge ?hd_TooLarge ?ha_TooLarge ?hm_TooLarge ?s_TooLarge_TooLarge ?kc_InvalidQuery ?e_InvalidQuery ?t_InvalidQuery ?hg_InvalidQuery ?hk_InvalidQuery ?hd_InvalidQuery ?ha_InvalidQuery ?hm_InvalidQuery ?s_InvalidQuery_InvalidQuery ?ic_InvalidQuery ?li_InvalidQuery ?cdi_InvalidQuery ?ti_InvalidQuery ?no_InvalidQuery ?cell_InvalidQuery ?own_InvalidQuery ?sb_InvalidQuery ?ve_InvalidQuery ?sup_InvalidQuery ?code_InvalidQuery ?cfl_InvalidQuery ?hfl_InvalidQuery ?ob_InvalidQuery ?rv_InvalidQuery ?sa_InvalidQuery ?htop_ ?q_OutOfRange ?q_TooLarge ?q_InvalidQuery ?hn_ ?ht_ ?pg_Query ?hdc_Query ?po_Query ?sac_Query ?mk_Query ?kcc_Query ?fn_Query___call__ ?na_Query_term ?na_Query_widths ?na_Query_outcomes ?rdc_Query ?rga_Query ?cv_Query_MOST_LEVELS ?cv_Query_MOST_LOOKS ?cv_Query_MOST_CHOICES ?pg_Row ?hdc_Row ?po_Row ?sac_Row ?mk_Row ?kcc_Row ?fn_Row___getitem__ ?na_Row_head ?na_Row_cycle
    (case g_Query => k_is)
    (case g_Row => k_is)
    (case a0 => k_is)
    (case l0 => k_is)
    (case c0 => k_is)
    (case k0 => k_is)
    (case a1 => k_is)
    (case l1 => k_is)
    (case c1 => k_is)
    (case k1 => k_is)
    (case a2 => k_is)
    (case l2 => k_is)
    (case c2 => k_is)
    (case k2 => k_is)
    (case a3 => k_is)
    (case l3 => k_is)
    (case c3 => k_is)
    (case k3 => k_is)
    (case a4 => k_is)
    (case l4 => k_is)
    (case c4 => k_is)
    (case k4 => k_is)
    (case a5 => k_is)
    (case l5 => k_is)
    (case c5 => k_is)
    (case k5 => k_is)
    (case a6 => k_is)
    (case l6 => k_is)
    (case c6 => k_is)
    (case k6 => k_is)
    (case a7 => k_is)
    (case l7 => k_is)
    (case c7 => k_is)
    (case k7 => k_is)
    (case a8 => k_is)
    (case l8 => k_is)
    (case c8 => k_is)
    (case k8 => k_is)
    (case a9 => k_is)
    (case l9 => k_is)
    (case c9 => k_is)
    (case k9 => k_is)
    (case a10 => k_is)
    (case l10 => k_is)
    (case c10 => k_is)
    (case k10 => k_is)
    (case a11 => k_is)
    (case l11 => k_is)
    (case c11 => k_is)
    (case k11 => k_is)
    (case a12 => k_is)
    (case l12 => k_is)
    (case c12 => k_is)
    (case k12 => k_is)
    (case a13 => k_is)
    (case l13 => k_is)
    (case c13 => k_is)
    (case k13 => k_is)
    (case a14 => k_is)
    (case i14 => k_is)
    (case l14 => k_is)
    (case c14 => k_is)
    (case k14 => k_is)
    (case a15 => k_is)
    (case i15 => k_is)
    (case l15 => k_is)
    (case c15 => k_is)
    (case k15 => k_is)
    (case a16 => k_is)
    (case i16 => k_is)
    (case l16 => k_is)
    (case dl16 => k_is)
    (case dv16 => exact .cons rfl .nil)
    (case dt16 => k_is)
    (case dw16 => exact (.cons ⟨_, rfl⟩ .nil))
    (case dz16 => decide)
    (case c16 => k_is)
    (case k16 => k_is)
    (case a17 => k_is)
    (case i17 => k_is)
    (case l17 => k_is)
    (case c17 => k_is)
    (case k17 => k_is)
    (case a18 => k_is)
    (case l18 => k_is)
    (case c18 => k_is)
    (case k18 => k_is)
    (case a19 => k_is)
    (case l19 => k_is)
    (case c19 => k_is)
    (case k19 => k_is)
    (case a20 => k_is)
    (case l20 => k_is)
    (case c20 => k_is)
    (case k20 => k_is)
    (case a21 => k_is)
    (case l21 => k_is)
    (case c21 => k_is)
    (case k21 => k_is)
    (case a22 => k_is)
    (case l22 => k_is)
    (case c22 => k_is)
    (case k22 => k_is)
    (case a23 => k_is)
    (case l23 => k_is)
    (case c23 => k_is)
    (case k23 => k_is)
    (case a24 => k_is)
    (case l24 => k_is)
    (case c24 => k_is)
    (case k24 => k_is)
    (case a25 => k_is)
    (case l25 => k_is)
    (case c25 => k_is)
    (case k25 => k_is)
    (case a26 => k_is)
    (case l26 => k_is)
    (case c26 => k_is)
    (case k26 => k_is)
    (case a27 => k_is)
    (case l27 => k_is)
    (case c27 => k_is)
    (case k27 => k_is)
    (case a28 => k_is)
    (case l28 => k_is)
    (case c28 => k_is)
    (case k28 => k_is)
    (case a29 => k_is)
    (case l29 => k_is)
    (case c29 => k_is)
    (case k29 => k_is)
    (case a30 => k_is)
    (case l30 => k_is)
    (case c30 => k_is)
    (case k30 => k_is)
    (case a31 => k_is)
    (case l31 => k_is)
    (case c31 => k_is)
    (case k31 => k_is)
    (case a32 => k_is)
    (case l32 => k_is)
    (case c32 => k_is)
    (case k32 => k_is)
    (case a33 => k_is)
    (case l33 => k_is)
    (case c33 => k_is)
    (case k33 => k_is)
    (case a34 => k_is)
    (case l34 => k_is)
    (case c34 => k_is)
    (case k34 => k_is)
    (case a35 => k_is)
    (case l35 => k_is)
    (case c35 => k_is)
    (case k35 => k_is)
    (case a36 => k_is)
    (case l36 => k_is)
    (case c36 => k_is)
    (case k36 => k_is)
    (case a37 => k_is)
    (case l37 => k_is)
    (case c37 => k_is)
    (case k37 => k_is)
    (case z_isinstance => k_is)
    (case z_int => k_is)
    (case z_bool => k_is)
    (case z_all => k_is)
    (case z_str => k_is)
    (case z_len => k_is)
    (case z_enumerate => k_is)
    (case z_tuple => k_is)
    (case z_sorted => k_is)
    (case z_set => k_is)
    (case z_min => k_is)
    (case z_range => k_is)
    (case z_list => k_is)
    (case gc_LETTERS => k_is)
    (case gc_DIGITS => k_is)
    (case gc_LONGEST_WORD => k_is)
    (case gc_LONGEST_NUMBER => k_is)
    (case gc_NUMBERS_END => k_is)
    (case gc_DEEPEST_TUPLE => k_is)
    (case gc_MOST_OUTCOMES => k_is)
    (case gc_MOST_WIDTHS => k_is)
    (case gc_WIDEST => k_is)
    (case gc_PLACES => k_is)
    (case gc_ITEMS_BEFORE => k_is)
    (case gc_TWO_OUTCOMES => k_is)
    (case g_OutOfRange => k_is)
    (case g_TooLarge => k_is)
    (case g_InvalidQuery => k_is)
    (case g_InvalidTerm => k_is)
    (case x_OutOfRange => k_exc)
    (case x_TooLarge => k_exc)
    (case z_super => k_is)
    (case opq_ => k_is)
    (case kc_OutOfRange => k_is)
    (case e_OutOfRange => k_is)
    (case t_OutOfRange => k_is)
    (case hg_OutOfRange => k_is)
    (case hk_OutOfRange => k_is)
    (case hd_OutOfRange => k_is)
    (case ha_OutOfRange => k_is)
    (case hm_OutOfRange => k_is)
    (case s_OutOfRange_OutOfRange => first | rfl | k_is)
    (case kc_TooLarge => k_is)
    (case e_TooLarge => k_is)
    (case t_TooLarge => k_is)
    (case hg_TooLarge => k_is)
    (case hk_TooLarge => k_is)
    (case hd_TooLarge => k_is)
    (case ha_TooLarge => k_is)
    (case hm_TooLarge => k_is)
    (case s_TooLarge_TooLarge => first | rfl | k_is)
    (case kc_InvalidQuery => k_is)
    (case e_InvalidQuery => k_is)
    (case t_InvalidQuery => k_is)
    (case hg_InvalidQuery => k_is)
    (case hk_InvalidQuery => k_is)
    (case hd_InvalidQuery => k_is)
    (case ha_InvalidQuery => k_is)
    (case hm_InvalidQuery => k_is)
    (case s_InvalidQuery_InvalidQuery => first | rfl | k_is)
    (case ic_InvalidQuery => k_is)
    (case li_InvalidQuery => k_is)
    (case cdi_InvalidQuery => k_is)
    (case ti_InvalidQuery => k_is)
    (case no_InvalidQuery => k_is)
    (case cell_InvalidQuery => k_is)
    (case own_InvalidQuery => k_is)
    (case sb_InvalidQuery => k_is)
    (case ve_InvalidQuery => k_is)
    (case sup_InvalidQuery => ks_is)
    (case code_InvalidQuery => k_is)
    (case cfl_InvalidQuery => rfl)
    (case hfl_InvalidQuery => first | rfl | decide +kernel)
    (case ob_InvalidQuery => k_is)
    (case rv_InvalidQuery => first | rfl | decide +kernel)
    (case sa_InvalidQuery => k_is)
    (case htop_ => first | rfl | decide +kernel)
    (case q_OutOfRange => k_is)
    (case q_TooLarge => k_is)
    (case q_InvalidQuery => k_is)
    (case hn_ => k_is)
    (case ht_ => k_is)
    (case pg_Query => k_is)
    (case hdc_Query => k_is)
    (case po_Query => k_is)
    (case sac_Query => k_is)
    (case mk_Query => k_is)
    (case kcc_Query => k_is)
    (case fn_Query___call__ => k_is)
    (case na_Query_term => k_is)
    (case na_Query_widths => k_is)
    (case na_Query_outcomes => k_is)
    (case rdc_Query => first | rfl | k_is | decide +kernel)
    (case rga_Query => first | rfl | k_is | decide +kernel)
    (case cv_Query_MOST_LEVELS => first | rfl | k_is | decide +kernel)
    (case cv_Query_MOST_LOOKS => first | rfl | k_is | decide +kernel)
    (case cv_Query_MOST_CHOICES => first | rfl | k_is | decide +kernel)
    (case pg_Row => k_is)
    (case hdc_Row => k_is)
    (case po_Row => k_is)
    (case sac_Row => k_is)
    (case mk_Row => k_is)
    (case kcc_Row => k_is)
    (case fn_Row___getitem__ => k_is)
    (case na_Row_head => k_is)
    (case na_Row_cycle => k_is)
