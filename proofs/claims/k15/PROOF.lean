import PyProof.Rows.All
import HandS.ForMost
import HandS.TupAny
import HandS.TupMul
import HandS.ForExc
import HandS.EndBits
import HandS.Wide
import HandS.WideBits
import HandS.Zip
import HandS.IsInst
import HandS.ExcIs
import HandS.Flow
import HandS.Strs
import HandS.Conv
import HandS.Style
import HandS.GenList
import HandS.ExcCtx
import HandS.Hot
import HandS.HotCalls
import HandS.WordsExc
import HandS.Text
import HandS.RaiseMore
import KE.GoesEnumKw
import HandS.Nested
import HandS.ExcInit
import KE.KSuper
import KE.KExcSuper
import HandS.ExcField
import KE.KExcIs
import HandS.FStr
import HandS.FStrTup
import PyProof.ListStr
import HandS.ExcOwn
import HandS.SetFor
import HandS.More
import HandS.Sort
import PyProof.Rows.SetFrom
import HandS.IterVal
import HandS.Iter
import PyProof.Rows.CallKwBuiltin
import KE.GoesZip
import KE.GoesMore
import KE.GoesEnum
import PyProof.P3Eq
import KE.KOpsOwn
import KE.KCallOwn
import KE.KTupSum
import HandS.Star
import PySem.Challenge.RW_choosersrow_k15_whole_brackets_of_choose
import Open.SpecLaws
import KE.OsGo
import KE.RegKSuper
set_option Elab.async false
set_option linter.all false
set_option maxRecDepth 100000
set_option maxHeartbeats 4000000
namespace DW
open PySem PySem.Spec PyProof.Rows L2
/-- the object of a new tuple -/
abbrev tupObj (its : List Value) : Obj := { cls := .type "tuple", data := .seq its.toArray }
theorem tup_okN {P : Program} {w : World} {H : Hp} {h : Heap} {xs : List V} {its : List Value} (hz : xs.length ≤ sizeLine) (r : Vals xs its) :
    ObjOk P w H (h.push (tupObj its)) h.objs.size (.frz (tupObj its) (.tup xs)) := ⟨Heap.get?_push_size _ rfl, hz, its, r, IsTup.new _ _⟩
section
variable {X : Cx} {pins : List (Addr × Obj)} {σ : L2.St} {H : Hp} {s : Shared} {Q : VK}
/-- what is wished of a new tuple -/
def NewT (H : Hp) (xs : List V) (Q : VK) : Prop := ∀ p o, o.dict = none → o.cls = .type "tuple" → H p = none → Q (.ref p) (upd H p (.frz o (.tup xs)))
theorem new_tup {xs : List V} {its : List Value} (I : Inv X pins σ H s) (hz : xs.length ≤ sizeLine) (r : Vals xs its) (q : NewT H xs Q) : EP X pins σ Q (.ref s.heap.objs.size) { s with heap := s.heap.push (tupObj its) } :=
  ⟨.ref s.heap.objs.size, _, I.laid (t' := s.toks) (fun b u e => Heap.get?_push_of_some _ e) (Nat.le_refl _) (tup_okN hz r), rfl, q _ _ rfl rfl (I.hok.fresh (Nat.le_refl _))⟩
end
def tTupN (t : TA) : TE := fun σ H Q => t σ H fun xs H1 => xs.length ≤ sizeLine ∧ NewT H1 xs Q
theorem pe_tupN {X : Cx} {es : List Expr} {x1 : Nat} {pos : Pos} {t : TA} (h : PA X es t) : PE X (.Tuple es x1 pos) (tTupN t) :=
  ⟨fun pins s σ H Q I hq => wpAny_Tuple_spliced (thn (h.run pos pins s σ H _ I hq) fun us s1 ⟨xs, H1, I1, r, z, q⟩ => ⟨by rw [← r.length]; exact z, new_tup I1 z r q⟩)⟩
/-- t + u -/
def rCatN (K : PySem.W.Frag) : R2 := fun x y H Q => ∃ a b xs ys, x = .ref a ∧ y = .ref b ∧ SqT K H a xs ∧ SqT K H b ys ∧ xs.length + ys.length ≤ sizeLine ∧
  (xs = [] → Q (.ref b) H) ∧ (xs ≠ [] → ys = [] → Q (.ref a) H) ∧ (xs ≠ [] → ys ≠ [] → NewT H (xs ++ ys) Q)
theorem op_catN {X : Cx} : OpR X (binaryOp .Add) (rCatN X.K) := by
  intro pins s σ H x y v u Q I rx ry h
  obtain ⟨a, b, xs, ys, rfl, rfl, ha, hb, hz, q0, q1, q2⟩ := h
  cases rx
  cases ry
  obtain ⟨its, r1, p1, _⟩ := I.tuple ha
  obtain ⟨its2, r2, p2, _⟩ := I.tuple hb
  by_cases hx : xs = []
  · subst hx
    cases r1
    exact cat_tup0 p1 p2 ⟨.ref b, H, I, rfl, q0 rfl⟩
  · refine HT.cat_tup p1 p2 (fun z => hx (r1.nil_iff.mp z)) (fun z => ⟨.ref a, H, I, rfl, q1 hx (r2.nil_iff.mp z)⟩) (fun z => ?_) (by rw [← r1.length, ← r2.length]; exact hz)
    exact new_tup I (by rw [List.length_append]; exact hz) (r1.append r2) (q2 hx fun w => z (r2.nil_iff.mpr w))
/-- t[lo:hi] -/
def rSlN (K : PySem.W.Frag) : V → Option Int → Option Int → Hp → VK → Prop := fun x lo hi H Q => ∃ a xs, x = .ref a ∧ SqT K H a xs ∧
  (HT.sIx xs.length 0 lo = 0 ∧ HT.sIx xs.length xs.length hi = xs.length → Q (.ref a) H) ∧ (¬ (HT.sIx xs.length 0 lo = 0 ∧ HT.sIx xs.length xs.length hi = xs.length) → NewT H (cutV xs lo hi) Q)
theorem sl_tupN {X : Cx} : SlR X (rSlN X.K) := by
  intro pins s σ H x v vl vu lo hi sl Q I rx hs pl pu h
  obtain ⟨a, xs, rfl, hx, q1, q2⟩ := h
  cases rx
  obtain ⟨its, r, ht, hz⟩ := I.tuple hx
  have many : its.toArray.size = xs.length := by rw [List.size_toArray]; exact r.length.symm
  refine ⟨"tuple", _, PyProof.Rows.slot_tuple_getitem.lookup, ht.typeIs, ?_⟩
  by_cases hw : HT.sIx xs.length 0 lo = 0 ∧ HT.sIx xs.length xs.length hi = xs.length
  · exact getItem_tuple_whole ht hs pl pu (by rw [many]; exact hw) ⟨.ref a, H, I, rfl, q1 hw⟩
  · refine HT.getItem_tuple_cut ht hs pl pu (by rw [many]; exact hw) ?_ (by rw [many]; exact hz)
    rw [many]
    exact new_tup I (Nat.le_trans (cutV_length xs lo hi) hz) ((r.drop (HT.sIx xs.length 0 lo)).take (HT.sIx xs.length xs.length hi - HT.sIx xs.length 0 lo)) (q2 hw)
/-- tuple(xs) -/
theorem call_tupleN {X : Cx} : CallR X (.type "tuple") (fun xs H Q => ∃ p ys, xs = [.ref p] ∧ ((SqL X.K H p ys ∧ NewT H ys Q) ∨ (SqT X.K H p ys ∧ Q (.ref p) H))) := by
  intro pins s σ H xs us Q I r h
  obtain ⟨p, ys, rfl, h⟩ := h
  obtain ⟨u, rfl, rx⟩ := vals1 r
  cases rx
  rcases h with ⟨hq, q⟩ | ⟨hq, q⟩
  · obtain ⟨its, r', pl, hz⟩ := I.list hq
    have many := r'.length
    refine call_tuple_list pl.isList (fun h' kp => ?_) (by simp only [List.size_toArray] <;> omega)
    have I1 : Inv X pins σ H { s with heap := h' } := I.kept (t' := s.toks) kp
    exact new_tup I1 hz r' q
  · obtain ⟨its, r', pl, hz⟩ := I.tuple hq
    exact call_tuple_same pl ⟨.ref p, H, I, rfl, q⟩
end DW
set_option Elab.async false
set_option linter.all false
set_option maxRecDepth 100000
namespace DW
open PySem PySem.Spec L2
abbrev Fg := PySem.W.Frag
/-- plain data: what a value stands for; hd: a value taken as it is (a handle, a def, a type) -/
inductive D where
  | non | bl (b : Bool) | int (i : Int) | str (x : Str)
  | tup (xs : List D) | lst (xs : List D)
  | pr (xs : List D)
  | obj (C : Addr) (ns : List Str) (ds : List D)
  | hd (v : V)
  | scr (ns : List Int)
/-- what stands at a handle's address: a list that may change, one that stands still, an instance in the making -/
inductive Cell where
  | lst (ds : List D) | frz (ds : List D) | ins (C : Addr) (ns : List Str) (ds : List D)
abbrev Sto := Addr → Option Cell
def sset (μ : Sto) (a : Addr) (c : Cell) : Sto := fun b => if b = a then some c else μ b
theorem sset_same {μ : Sto} {a : Addr} {c : Cell} : sset μ a c a = some c := by unfold sset; rw [if_pos rfl]
theorem sset_ne {μ : Sto} {a b : Addr} {c : Cell} (h : b ≠ a) : sset μ a c b = μ b := by unfold sset; rw [if_neg h]
theorem sset_sset {μ : Sto} {a : Addr} {c d : Cell} : sset (sset μ a c) a d = sset μ a d := by
  funext b; unfold sset; split <;> rfl
def still : Option Cell → Prop
  | some (.lst _) => False
  | some (.ins _ _ _) => False
  | _ => True
/-- nothing that may change stands at a -/
def NM (μ : Sto) (a : Addr) : Prop := still (μ a)
theorem NM.of {μ : Sto} {a : Addr} (h : μ a = none) : NM μ a := by unfold NM; rw [h]; exact trivial
theorem NM.frz {μ : Sto} {a : Addr} {ds : List D} (h : μ a = some (.frz ds)) : NM μ a := by unfold NM; rw [h]; exact trivial
theorem NM.notL {μ : Sto} {a : Addr} {ds : List D} (h : NM μ a) (q : μ a = some (.lst ds)) : False := by unfold NM at h; rw [q] at h; exact h
theorem NM.notI {μ : Sto} {a C : Addr} {ns : List Str} {ds : List D} (h : NM μ a) (q : μ a = some (.ins C ns ds)) : False := by unfold NM at h; rw [q] at h; exact h
def SqLw (K : Fg) (a : Addr) (xs : List V) : Prop :=
  ∃ (o : Obj) (its : Array Value) (n : Nat), K.lookup a = some o ∧ o.cls = .type "list" ∧ o.dict = none ∧ o.data = .seq its n ∧ its.size ≤ sizeLine ∧ Vals xs its.toList
def SqTw (K : Fg) (a : Addr) (xs : List V) : Prop :=
  ∃ (o : Obj) (its : Array Value) (n : Nat), K.lookup a = some o ∧ o.cls = .type "tuple" ∧ o.dict = none ∧ o.data = .seq its n ∧ its.size ≤ sizeLine ∧ Vals xs its.toList
def LstAt (μ : Sto) (H : Hp) (a : Addr) (xs : List V) : Prop := H a = some (.lst xs) ∧ NM μ a
def ScrAt (K : Fg) (μ : Sto) (H : Hp) (a : Addr) (xs : List V) : Prop := (Rd H a (.lst xs) ∧ NM μ a) ∨ SqLw K a xs
def TupAt (K : Fg) (μ : Sto) (H : Hp) (a : Addr) (xs : List V) : Prop := (∃ o : Obj, H a = some (.frz o (.tup xs)) ∧ o.dict = none ∧ o.cls = .type "tuple" ∧ NM μ a) ∨ SqTw K a xs
/-- a tuple that is taken apart at once -/
def PrAt (μ : Sto) (H : Hp) (a : Addr) (xs : List V) : Prop := Rd H a (.tup xs) ∧ NM μ a
theorem LstAt.sq {K : Fg} {μ : Sto} {H : Hp} {a : Addr} {xs : List V} (h : LstAt μ H a xs) : SqL K H a xs := .inl (.inl h.1)
theorem ScrAt.sq {K : Fg} {μ : Sto} {H : Hp} {a : Addr} {xs : List V} (h : ScrAt K μ H a xs) : SqL K H a xs := h.elim (fun q => .inl q.1) fun q => .inr q
theorem TupAt.sq {K : Fg} {μ : Sto} {H : Hp} {a : Addr} {xs : List V} (h : TupAt K μ H a xs) : SqT K H a xs := h.elim (fun ⟨o, q, _⟩ => .inl (.inr ⟨o, q⟩)) fun ⟨o, its, n, q1, q2, _, q3⟩ => .inr ⟨o, its, n, q1, q2, q3⟩
theorem PrAt.sq {K : Fg} {μ : Sto} {H : Hp} {a : Addr} {xs : List V} (h : PrAt μ H a xs) : SqT K H a xs := .inl h.1
/-- what values stand for what data -/
inductive Reps (K : Fg) (μ : Sto) (H : Hp) : List V → List D → Prop
  | nil : Reps K μ H [] []
  | non {vs ds} : Reps K μ H vs ds → Reps K μ H (.non :: vs) (.non :: ds)
  | bl {vs ds} (b : Bool) : Reps K μ H vs ds → Reps K μ H (.bl b :: vs) (.bl b :: ds)
  | int {vs ds} (i : Int) : Reps K μ H vs ds → Reps K μ H (.int i :: vs) (.int i :: ds)
  | str {vs ds} (x : Str) : Reps K μ H vs ds → Reps K μ H (.str x :: vs) (.str x :: ds)
  | hd {vs ds} (v : V) : Reps K μ H vs ds → Reps K μ H (v :: vs) (.hd v :: ds)
  | tup {vs ds a us es} : TupAt K μ H a us → Reps K μ H us es → Reps K μ H vs ds → Reps K μ H (.ref a :: vs) (.tup es :: ds)
  | pr {vs ds a us es} : PrAt μ H a us → Reps K μ H us es → Reps K μ H vs ds → Reps K μ H (.ref a :: vs) (.pr es :: ds)
  | scr {vs ds a ns} : ScrAt K μ H a (ns.map V.int) → Reps K μ H vs ds → Reps K μ H (.ref a :: vs) (.scr ns :: ds)
  | lst {vs ds a us es} : LstAt μ H a us → Reps K μ H us es → Reps K μ H vs ds → Reps K μ H (.ref a :: vs) (.lst es :: ds)
  | obj {vs ds a C dx ns us es} : H a = some (.ins C dx (ns.zip us)) → NM μ a → us.length = ns.length → Reps K μ H us es → Reps K μ H vs ds → Reps K μ H (.ref a :: vs) (.obj C ns es :: ds)
abbrev Rep (K : Fg) (μ : Sto) (H : Hp) (v : V) (d : D) : Prop := Reps K μ H [v] [d]
section
variable {K : Fg} {μ μ' μ'' : Sto} {H H' H'' : Hp} {v w : V} {d e : D} {vs us : List V} {ds es : List D}
theorem Reps.length (h : Reps K μ H vs ds) : vs.length = ds.length := by
  induction h <;> simp_all
theorem Reps.split (h : Reps K μ H (v :: vs) (d :: ds)) : Rep K μ H v d ∧ Reps K μ H vs ds := by
  cases h with
  | non r => exact ⟨.non .nil, r⟩
  | bl b r => exact ⟨.bl b .nil, r⟩
  | int i r => exact ⟨.int i .nil, r⟩
  | str x r => exact ⟨.str x .nil, r⟩
  | hd v r => exact ⟨.hd v .nil, r⟩
  | tup h1 h2 r => exact ⟨.tup h1 h2 .nil, r⟩
  | pr h1 h2 r => exact ⟨.pr h1 h2 .nil, r⟩
  | lst h1 h2 r => exact ⟨.lst h1 h2 .nil, r⟩
  | scr h1 r => exact ⟨.scr h1 .nil, r⟩
  | obj h1 h2 h3 h4 r => exact ⟨.obj h1 h2 h3 h4 .nil, r⟩
theorem Reps.cons (h : Rep K μ H v d) (r : Reps K μ H vs ds) : Reps K μ H (v :: vs) (d :: ds) := by
  cases h with
  | non _ => exact .non r
  | bl b _ => exact .bl b r
  | int i _ => exact .int i r
  | str x _ => exact .str x r
  | hd v _ => exact .hd v r
  | tup h1 h2 _ => exact .tup h1 h2 r
  | pr h1 h2 _ => exact .pr h1 h2 r
  | lst h1 h2 _ => exact .lst h1 h2 r
  | scr h1 _ => exact .scr h1 r
  | obj h1 h2 h3 h4 _ => exact .obj h1 h2 h3 h4 r
theorem Reps.get (h : Reps K μ H vs ds) : ∀ {i : Nat} {d : D}, ds[i]? = some d → ∃ v, vs[i]? = some v ∧ Rep K μ H v d := by
  intro i
  induction i generalizing vs ds with
  | zero =>
    intro d e
    cases ds with
    | nil => cases e
    | cons x r =>
      cases vs with
      | nil => have := h.length; simp at this
      | cons v vs =>
        cases e
        exact ⟨v, rfl, h.split.1⟩
  | succ i ih =>
    intro d e
    cases ds with
    | nil => cases e
    | cons x r =>
      cases vs with
      | nil => have := h.length; simp at this
      | cons v vs => exact ih h.split.2 e
theorem Reps.getV (h : Reps K μ H vs ds) {i : Nat} {v : V} (e : vs[i]? = some v) : ∃ d, ds[i]? = some d ∧ Rep K μ H v d := by
  have hi : i < ds.length := by rw [← h.length]; exact (List.getElem?_eq_some_iff.mp e).1
  obtain ⟨v', e', r⟩ := h.get (List.getElem?_eq_getElem hi)
  rw [e] at e'
  cases e'
  exact ⟨_, List.getElem?_eq_getElem hi, r⟩
theorem Reps.append (h : Reps K μ H vs ds) (r : Reps K μ H us es) : Reps K μ H (vs ++ us) (ds ++ es) := by
  induction vs generalizing ds with
  | nil => cases h; exact r
  | cons v vs ih =>
    cases ds with
    | nil => have := h.length; simp at this
    | cons d ds => exact .cons h.split.1 (ih h.split.2)
theorem Reps.take (h : Reps K μ H vs ds) : ∀ n, Reps K μ H (vs.take n) (ds.take n) := by
  intro n
  induction n generalizing vs ds with
  | zero => exact .nil
  | succ n ih =>
    cases ds with
    | nil =>
      cases vs with
      | nil => exact .nil
      | cons v vs => have := h.length; simp at this
    | cons d ds =>
      cases vs with
      | nil => have := h.length; simp at this
      | cons v vs => exact .cons h.split.1 (ih h.split.2)
theorem Reps.drop (h : Reps K μ H vs ds) : ∀ n, Reps K μ H (vs.drop n) (ds.drop n) := by
  intro n
  induction n generalizing vs ds with
  | zero => exact h
  | succ n ih =>
    cases ds with
    | nil =>
      cases vs with
      | nil => exact .nil
      | cons v vs => have := h.length; simp at this
    | cons d ds =>
      cases vs with
      | nil => have := h.length; simp at this
      | cons v vs => exact ih h.split.2
theorem Reps.set (h : Reps K μ H vs ds) (r : Rep K μ H v d) : ∀ j, Reps K μ H (vs.set j v) (ds.set j d) := by
  intro j
  induction j generalizing vs ds with
  | zero =>
    cases ds with
    | nil =>
      cases vs with
      | nil => exact .nil
      | cons v vs => have := h.length; simp at this
    | cons d ds =>
      cases vs with
      | nil => have := h.length; simp at this
      | cons v vs => exact .cons r h.split.2
  | succ n ih =>
    cases ds with
    | nil =>
      cases vs with
      | nil => exact .nil
      | cons v vs => have := h.length; simp at this
    | cons d ds =>
      cases vs with
      | nil => have := h.length; simp at this
      | cons v vs => exact .cons h.split.1 (ih h.split.2)
theorem Reps.reverse (h : Reps K μ H vs ds) : Reps K μ H vs.reverse ds.reverse := by
  induction vs generalizing ds with
  | nil => cases h; exact .nil
  | cons v vs ih =>
    cases ds with
    | nil => have := h.length; simp at this
    | cons d ds =>
      rw [List.reverse_cons, List.reverse_cons]
      exact (ih h.split.2).append (.cons h.split.1 .nil)
/-- all that stands still there, stands still here; nothing is gone -/
structure Evo (μ : Sto) (H : Hp) (μ' : Sto) (H' : Hp) : Prop where
  st : ∀ b o, H b = some o → NM μ b → H' b = some o ∧ NM μ' b
  th : ∀ b, H' b = none → H b = none
theorem Evo.refl : Evo μ H μ H := ⟨fun _ _ h n => ⟨h, n⟩, fun _ h => h⟩
theorem Evo.trans (a : Evo μ H μ' H') (b : Evo μ' H' μ'' H'') : Evo μ H μ'' H'' := ⟨fun c o h n => b.st c o (a.st c o h n).1 (a.st c o h n).2, fun c h => a.th c (b.th c h)⟩
theorem Evo.rd {a : Addr} {u : HO} (e : Evo μ H μ' H') (h : Rd H a u) (n : NM μ a) : Rd H' a u ∧ NM μ' a := by
  rcases h with h | ⟨o, h⟩
  · exact ⟨.inl (e.st a _ h n).1, (e.st a _ h n).2⟩
  · exact ⟨.inr ⟨o, (e.st a _ h n).1⟩, (e.st a _ h n).2⟩
theorem LstAt.mono {a : Addr} {xs : List V} (e : Evo μ H μ' H') (h : LstAt μ H a xs) : LstAt μ' H' a xs := e.st _ _ h.1 h.2
theorem ScrAt.mono {a : Addr} {xs : List V} (e : Evo μ H μ' H') (h : ScrAt K μ H a xs) : ScrAt K μ' H' a xs := by
  rcases h with ⟨h, n⟩ | h
  · exact .inl (e.rd h n)
  · exact .inr h
theorem TupAt.mono {a : Addr} {xs : List V} (e : Evo μ H μ' H') (h : TupAt K μ H a xs) : TupAt K μ' H' a xs := by
  rcases h with ⟨o, h, d, c, n⟩ | h
  · exact .inl ⟨o, (e.st a _ h n).1, d, c, (e.st a _ h n).2⟩
  · exact .inr h
theorem Reps.mono (e : Evo μ H μ' H') (h : Reps K μ H vs ds) : Reps K μ' H' vs ds := by
  induction h with
  | nil => exact .nil
  | non _ i => exact .non i
  | bl b _ i => exact .bl b i
  | int b _ i => exact .int b i
  | str b _ i => exact .str b i
  | hd b _ i => exact .hd b i
  | tup h1 _ _ i1 i2 => exact .tup (h1.mono e) i1 i2
  | pr h1 _ _ i1 i2 => exact .pr ⟨(e.rd h1.1 h1.2).1, (e.rd h1.1 h1.2).2⟩ i1 i2
  | lst h1 _ _ i1 i2 => exact .lst (h1.mono e) i1 i2
  | scr h1 _ i1 => exact .scr (h1.mono e) i1
  | obj h1 h2 h3 _ _ i1 i2 => exact .obj (e.st _ _ h1 h2).1 (e.st _ _ h1 h2).2 h3 i1 i2
/-- what is said of the handles holds of the heap -/
def CellOk (K : Fg) (μ : Sto) (H : Hp) (a : Addr) : Cell → Prop
  | .lst ds => ∃ vs, H a = some (.lst vs) ∧ Reps K μ H vs ds
  | .frz ds => ∃ vs, H a = some (.lst vs) ∧ Reps K μ H vs ds
  | .ins C ns ds => ∃ dx us, H a = some (.ins C dx (ns.zip us)) ∧ us.length = ns.length ∧ Reps K μ H us ds
def StoOk (K : Fg) (μ : Sto) (H : Hp) : Prop := ∀ a c, μ a = some c → CellOk K μ H a c
theorem CellOk.there {a : Addr} {c : Cell} (h : CellOk K μ H a c) : ∃ o, H a = some o := by
  cases c with
  | lst ds => obtain ⟨_, e, _⟩ := h; exact ⟨_, e⟩
  | frz ds => obtain ⟨_, e, _⟩ := h; exact ⟨_, e⟩
  | ins C ns ds => obtain ⟨_, _, e, _⟩ := h; exact ⟨_, e⟩
theorem StoOk.fresh {p : Addr} (s : StoOk K μ H) (h : H p = none) : μ p = none := by
  cases e : μ p with
  | none => rfl
  | some c =>
    obtain ⟨o, q⟩ := (s p c e).there
    rw [h] at q
    cases q
theorem CellOk.mono {a : Addr} {c : Cell} (e : Evo μ H μ' H') (hs : ∀ o, H a = some o → H' a = some o) (h : CellOk K μ H a c) : CellOk K μ' H' a c := by
  cases c with
  | lst ds => obtain ⟨vs, q, r⟩ := h; exact ⟨vs, hs _ q, r.mono e⟩
  | frz ds => obtain ⟨vs, q, r⟩ := h; exact ⟨vs, hs _ q, r.mono e⟩
  | ins C ns ds => obtain ⟨dx, us, q, l, r⟩ := h; exact ⟨dx, us, hs _ q, l, r.mono e⟩
/-- a new object -/
theorem upd_th {p : Addr} {o : HO} {b : Addr} (h : upd H p o b = none) : H b = none := by
  by_cases e : b = p
  · subst e; rw [upd_same] at h; cases h
  · rw [upd_ne e] at h; exact h
theorem Evo.new {p : Addr} {o : HO} (h : H p = none) : Evo μ H μ (upd H p o) := ⟨fun b u e n => ⟨by rw [upd_ne (ne_of_none e h)]; exact e, n⟩, fun b q => upd_th q⟩
theorem StoOk.new {p : Addr} {o : HO} (s : StoOk K μ H) (h : H p = none) : StoOk K μ (upd H p o) := fun a c e =>
  (s a c e).mono (.new h) fun u q => by rw [upd_ne (ne_of_none q h)]; exact q
theorem NM.new {p : Addr} (s : StoOk K μ H) (h : H p = none) : NM μ p := .of (s.fresh h)
/-- a new object that has a cell -/
theorem Evo.newC {p : Addr} {o : HO} {c : Cell} (s : StoOk K μ H) (h : H p = none) : Evo μ H (sset μ p c) (upd H p o) := ⟨fun b u e n => by
  have hb : b ≠ p := ne_of_none e h
  refine ⟨by rw [upd_ne hb]; exact e, ?_⟩
  unfold NM
  rw [sset_ne hb]
  exact n, fun b q => upd_th q⟩
/-- the cell at p changes; nothing else does -/
theorem Evo.cell {p : Addr} {o : HO} {c c' : Cell} (hp : μ p = some c) (hn : ¬ NM μ p) : Evo μ H (sset μ p c') (upd H p o) := ⟨fun b u e n => by
  have hb : b ≠ p := fun q => hn (q ▸ n)
  refine ⟨by rw [upd_ne hb]; exact e, ?_⟩
  unfold NM
  rw [sset_ne hb]
  exact n, fun b q => upd_th q⟩
theorem StoOk.cell {p : Addr} {o : HO} {c' : Cell} (s : StoOk K μ H) (e : Evo μ H (sset μ p c') (upd H p o)) (h : CellOk K (sset μ p c') (upd H p o) p c') : StoOk K (sset μ p c') (upd H p o) := fun a x q => by
  by_cases ha : a = p
  · subst ha
    rw [sset_same] at q
    cases q
    exact h
  · rw [sset_ne ha] at q
    exact (s a x q).mono e fun u z => by rw [upd_ne ha]; exact z
/-- a list comes to rest -/
theorem Evo.rest {p : Addr} {ds : List D} (hp : μ p = some (.lst ds)) : Evo μ H (sset μ p (.frz ds)) H := ⟨fun b u e n => by
  have hb : b ≠ p := fun q => by subst q; exact n.notL hp
  refine ⟨e, ?_⟩
  unfold NM
  rw [sset_ne hb]
  exact n, fun _ q => q⟩
theorem StoOk.rest {p : Addr} {ds : List D} (s : StoOk K μ H) (hp : μ p = some (.lst ds)) : StoOk K (sset μ p (.frz ds)) H := fun a x q => by
  by_cases ha : a = p
  · subst ha
    rw [sset_same] at q
    cases q
    exact (s a _ hp).mono (.rest hp) fun _ z => z
  · rw [sset_ne ha] at q
    exact (s a x q).mono (.rest hp) fun _ z => z
/-- fewer cells -/
def Sub (μ μ' : Sto) : Prop := ∀ a c, μ a = some c → μ' a = some c
theorem Sub.refl : Sub μ μ := fun _ _ h => h
theorem Sub.trans (a : Sub μ μ') (b : Sub μ' μ'') : Sub μ μ'' := fun c x h => b c x (a c x h)
theorem Sub.set {p : Addr} {c : Cell} (s : Sub μ μ') (h : μ p = none) : Sub μ (sset μ' p c) := fun a x e => by
  have : a ≠ p := fun q => by subst q; rw [h] at e; cases e
  rw [sset_ne this]
  exact s a x e
theorem Sub.none {p : Addr} (s : Sub μ μ') (h : μ' p = none) : μ p = none := by
  cases e : μ p with
  | none => rfl
  | some c => rw [s p c e] at h; cases h
theorem Sub.nm {a : Addr} (s : Sub μ μ') (h : NM μ' a) : NM μ a := by
  unfold NM at h ⊢
  cases e : μ a with
  | none => exact trivial
  | some c => rw [s a c e] at h; exact h
theorem Sub.evo (s : Sub μ' μ) : Evo μ H μ' H := ⟨fun b o e n => ⟨e, s.nm n⟩, fun _ q => q⟩
/-- without the cell at p -/
def sdel (μ : Sto) (p : Addr) : Sto := fun b => if b = p then none else μ b
theorem sdel_sub {p : Addr} : Sub (sdel μ p) μ := fun a c e => by
  unfold sdel at e
  split at e
  · cases e
  · exact e
theorem sdel_sset {p : Addr} {c : Cell} (h : μ p = none) : sdel (sset μ p c) p = μ := by
  funext b; unfold sdel sset; by_cases e : b = p
  · subst e; rw [if_pos rfl, h]
  · rw [if_neg e, if_neg e]
theorem sdel_same {p : Addr} : sdel μ p p = none := by unfold sdel; rw [if_pos rfl]
theorem Sub.sto (s : Sub μ' μ) (h : StoOk K μ H) : StoOk K μ' H := fun a c e => (h a c (s a c e)).mono s.evo fun _ z => z
/-- the names' values -/
abbrev DEnv := List (Option D)
structure EnvOk (K : Fg) (μ : Sto) (H : Hp) (σ : St) (δ : DEnv) : Prop where
  len : σ.length = δ.length
  at_ : ∀ (i : Nat) (d : D), δ[i]? = some (some d) → ∃ v, σ[i]? = some (some v) ∧ Rep K μ H v d
theorem EnvOk.mono {σ : St} {δ : DEnv} (e : Evo μ H μ' H') (h : EnvOk K μ H σ δ) : EnvOk K μ' H' σ δ := ⟨h.len, fun i d q => by
  obtain ⟨v, a, b⟩ := h.at_ i d q
  exact ⟨v, a, b.mono e⟩⟩
theorem EnvOk.set {σ : St} {δ : DEnv} (h : EnvOk K μ H σ δ) (r : Rep K μ H v d) (j : Nat) : EnvOk K μ H (σ.set j (some v)) (δ.set j (some d)) := ⟨by rw [List.length_set, List.length_set]; exact h.len, fun i x q => by
  rw [List.getElem?_set] at q
  rw [List.getElem?_set]
  by_cases hj : j = i
  · rw [if_pos hj] at q ⊢
    rw [h.len]
    by_cases hl : j < δ.length
    · rw [if_pos hl] at q ⊢
      cases q
      exact ⟨v, rfl, r⟩
    · rw [if_neg hl] at q
      cases q
  · rw [if_neg hj] at q ⊢
    exact h.at_ i x q⟩
/-- what is known where one stands -/
structure Sm (K : Fg) (H0 : Hp) (μ0 : Sto) (σ : St) (H : Hp) (δ : DEnv) (μ : Sto) : Prop where
  evo : Evo μ0 H0 μ H
  sto : StoOk K μ H
  env : EnvOk K μ H σ δ
theorem Sm.step {H0 : Hp} {μ0 : Sto} {σ : St} {δ : DEnv} (S : Sm K H0 μ0 σ H δ μ) (e : Evo μ H μ' H') (s : StoOk K μ' H') : Sm K H0 μ0 σ H' δ μ' := ⟨S.evo.trans e, s, S.env.mono e⟩
theorem Sm.set {H0 : Hp} {μ0 : Sto} {σ : St} {δ : DEnv} (S : Sm K H0 μ0 σ H δ μ) (r : Rep K μ H v d) (j : Nat) : Sm K H0 μ0 (σ.set j (some v)) H (δ.set j (some d)) μ := ⟨S.evo, S.sto, S.env.set r j⟩
end
end DW
set_option Elab.async false
set_option linter.all false
set_option maxRecDepth 100000
namespace DW
open PySem PySem.Spec L2
/-- an exception that is on its way: its class, its own fields -/
inductive XD where
  | mk (C : Addr) (fs : Option (List Str × List D))
abbrev XP := XD → DEnv → Sto → Prop
abbrev DK := D → Sto → Prop
def RepX (K : Fg) (μ : Sto) (H : Hp) (cls : Value) (dd : Option Addr) : XD → Prop
  | .mk C none => cls = .ref C ∧ dd = none
  | .mk C (some (ns, ds)) => cls = .ref C ∧ ∃ d us, dd = some d ∧ H d = some (.xd (ns.zip us)) ∧ NM μ d ∧ us.length = ns.length ∧ Reps K μ H us ds
/-- where a piece of code stands: the written part, the heap and the handles at the entry, what is wished of exceptions -/
structure Bx (K : Fg) where
  H0 : Hp
  μ0 : Sto
  W : WX
  Ψ : XP
  hW : ∀ cls dd σ H x δ μ, Sm K H0 μ0 σ H δ μ → RepX K μ H cls dd x → Ψ x δ μ → W cls dd σ H
/-- the same, from a later moment on -/
abbrev Bx.re {K : Fg} (B : Bx K) (H1 : Hp) (μ1 : Sto) (e : Evo B.μ0 B.H0 μ1 H1) : Bx K := ⟨H1, μ1, B.W, B.Ψ, fun cls dd σ H x δ μ S => B.hW cls dd σ H x δ μ ⟨e.trans S.evo, S.sto, S.env⟩⟩
abbrev DE := XP → DEnv → Sto → DK → Prop
abbrev DA := XP → DEnv → Sto → (List D → Sto → Prop) → Prop
abbrev DT := XP → DEnv → Sto → (Bool → Sto → Prop) → Prop
structure DEnds where
  nx : DEnv → Sto → Prop
  rt : D → Sto → Prop
  bk : DEnv → Sto → Prop
  ct : DEnv → Sto → Prop
abbrev DSt := XP → DEnds → DEnv → Sto → Prop
section
variable {K : Fg} (B : Bx K)
abbrev Bx.S {K : Fg} (B : Bx K) (σ : L2.St) (H : Hp) (δ : DEnv) (μ : Sto) : Prop := Sm K B.H0 B.μ0 σ H δ μ
/-- the reading te follows from the data's reading φ -/
def SE (te : TE) (φ : DE) : Prop := ∀ (σ : L2.St) (H : Hp) (δ : DEnv) (μ : Sto) (Φ : DK) (Q : VK), B.S σ H δ μ → φ B.Ψ δ μ Φ →
  (∀ v H' d μ', B.S σ H' δ μ' → Evo μ H μ' H' → Rep K μ' H' v d → Φ d μ' → Q v H') → te σ H Q
def SA (ta : TA) (φ : DA) : Prop := ∀ (σ : L2.St) (H : Hp) (δ : DEnv) (μ : Sto) (Φ : List D → Sto → Prop) (Q : List V → Hp → Prop), B.S σ H δ μ → φ B.Ψ δ μ Φ →
  (∀ vs H' ds μ', B.S σ H' δ μ' → Evo μ H μ' H' → Reps K μ' H' vs ds → Φ ds μ' → Q vs H') → ta σ H Q
def ST (tt : TT) (φ : DT) : Prop := ∀ (σ : L2.St) (H : Hp) (δ : DEnv) (μ : Sto) (Φ : Bool → Sto → Prop) (Q : Bool → Hp → Prop), B.S σ H δ μ → φ B.Ψ δ μ Φ →
  (∀ b H' μ', B.S σ H' δ μ' → Evo μ H μ' H' → Φ b μ' → Q b H') → tt σ H Q
structure EO (D : Ends) (Δ : DEnds) : Prop where
  nx : ∀ σ H δ μ, B.S σ H δ μ → Δ.nx δ μ → D.nx σ H
  rt : ∀ v H d μ σ δ, B.S σ H δ μ → Rep K μ H v d → Δ.rt d μ → D.rt v H
  bk : ∀ σ H δ μ, B.S σ H δ μ → Δ.bk δ μ → D.bk σ H
  ct : ∀ σ H δ μ, B.S σ H δ μ → Δ.ct δ μ → D.ct σ H
def SS (ts : TS) (φ : DSt) : Prop := ∀ (D : Ends) (Δ : DEnds) (σ : L2.St) (H : Hp) (δ : DEnv) (μ : Sto), EO B D Δ → B.S σ H δ μ → φ B.Ψ Δ δ μ → ts D σ H
end
section
variable {K : Fg} {B : Bx K} {te ta tb tc : TE} {φ φa φb φc : DE} {tt tu : TT} {θ ϑ : DT} {tas : TA} {ψ : DA} {ts tz : TS} {ω ζ : DSt}
def dVar (i : Nat) : DE := fun _ δ μ Φ => ∃ d, δ[i]? = some (some d) ∧ Φ d μ
theorem sVar {i : Nat} : SE B (tVar i) (dVar i) := fun σ H δ μ Φ Q S h k => by
  obtain ⟨d, e, h⟩ := h
  obtain ⟨v, ev, r⟩ := S.env.at_ i d e
  exact ⟨v, ev, k v H d μ S .refl r h⟩
/-- a name that holds a list's handle, read as the list: it changes no more -/
def dRest (i : Nat) : DE := fun _ δ μ Φ => ∃ a ds, δ[i]? = some (some (.hd (.ref a))) ∧ μ a = some (.lst ds) ∧ Φ (.lst ds) (sset μ a (.frz ds))
theorem Rep.hd_inv {K : Fg} {μ : Sto} {H : Hp} {v w : V} (h : Rep K μ H v (.hd w)) : v = w := by cases h; rfl
theorem sRest {i : Nat} : SE B (tVar i) (dRest i) := fun σ H δ μ Φ Q S h k => by
  obtain ⟨a, ds, e, hm, h⟩ := h
  obtain ⟨v, ev, r⟩ := S.env.at_ i _ e
  obtain rfl := Rep.hd_inv r
  have ev2 : Evo μ H (sset μ a (.frz ds)) H := .rest hm
  have st2 := S.sto.rest hm
  obtain ⟨vs, q1, q2⟩ := st2 a _ sset_same
  exact ⟨_, ev, k _ H _ _ (S.step ev2 st2) ev2 (.lst ⟨q1, .frz sset_same⟩ q2 .nil) h⟩
def dC (d : D) : DE := fun _ _ μ Φ => Φ d μ
theorem sC {v : V} {d : D} (r : ∀ K μ H, Rep K μ H v d) : SE B (tC v) (dC d) := fun σ H δ μ Φ Q S h k => k v H d μ S .refl (r _ _ _) h
theorem sInt {i : Int} : SE B (tC (.int i)) (dC (.int i)) := sC fun _ _ _ => .int i .nil
theorem sStr {x : Str} : SE B (tC (.str x)) (dC (.str x)) := sC fun _ _ _ => .str x .nil
theorem sBl {b : Bool} : SE B (tC (.bl b)) (dC (.bl b)) := sC fun _ _ _ => .bl b .nil
theorem sNon : SE B (tC .non) (dC .non) := sC fun _ _ _ => .non .nil
theorem sHd {v : V} : SE B (tC v) (dC (.hd v)) := sC fun _ _ _ => .hd v .nil
/-- an operator by data -/
abbrev DO := D → D → Sto → DK → Prop
def RO (K : Fg) (r : R2) (ρ : DO) : Prop := ∀ (H : Hp) (μ : Sto) (v w : V) (d e : D) (Φ : DK) (Q : VK), StoOk K μ H → Rep K μ H v d → Rep K μ H w e → ρ d e μ Φ →
  (∀ z H' c μ', Evo μ H μ' H' → StoOk K μ' H' → Rep K μ' H' z c → Φ c μ' → Q z H') → r v w H Q
def dOp (ρ : DO) (φa φb : DE) : DE := fun Ψ δ μ Φ => φa Ψ δ μ fun x μ1 => φb Ψ δ μ1 fun y μ2 => ρ x y μ2 Φ
theorem sOp {r : R2} {ρ : DO} (h : RO K r ρ) (a : SE B ta φa) (b : SE B tb φb) : SE B (tOp r ta tb) (dOp ρ φa φb) := fun σ H δ μ Φ Q S q k =>
  a σ H δ μ _ _ S q fun v H1 x μ1 S1 e1 r1 q1 => b σ H1 δ μ1 _ _ S1 q1 fun w H2 y μ2 S2 e2 r2 q2 =>
    h H2 μ2 v w x y Φ Q S2.sto (Reps.mono e2 r1) r2 q2 fun z H3 c μ3 e3 s3 r3 p => k z H3 c μ3 (S2.step e3 s3) ((e1.trans e2).trans e3) r3 p
abbrev DU := D → Sto → DK → Prop
def RU (K : Fg) (r : V → Hp → VK → Prop) (ρ : DU) : Prop := ∀ (H : Hp) (μ : Sto) (v : V) (d : D) (Φ : DK) (Q : VK), StoOk K μ H → Rep K μ H v d → ρ d μ Φ →
  (∀ z H' c μ', Evo μ H μ' H' → StoOk K μ' H' → Rep K μ' H' z c → Φ c μ' → Q z H') → r v H Q
def dUn (ρ : DU) (φa : DE) : DE := fun Ψ δ μ Φ => φa Ψ δ μ fun x μ1 => ρ x μ1 Φ
theorem sUn {r : V → Hp → VK → Prop} {ρ : DU} (h : RU K r ρ) (a : SE B ta φa) : SE B (tUn r ta) (dUn ρ φa) := fun σ H δ μ Φ Q S q k =>
  a σ H δ μ _ _ S q fun v H1 x μ1 S1 e1 r1 q1 => h H1 μ1 v x Φ Q S1.sto r1 q1 fun z H3 c μ3 e3 s3 r3 p => k z H3 c μ3 (S1.step e3 s3) (e1.trans e3) r3 p
def dTest (φ : DE) : DT := fun Ψ δ μ Φ => φ Ψ δ μ fun x μ1 => ∃ b, x = .bl b ∧ Φ b μ1
theorem Rep.bl_inv {K : Fg} {μ : Sto} {H : Hp} {v : V} {b : Bool} (h : Rep K μ H v (.bl b)) : v = .bl b := by cases h; rfl
theorem Rep.int_inv {K : Fg} {μ : Sto} {H : Hp} {v : V} {b : Int} (h : Rep K μ H v (.int b)) : v = .int b := by cases h; rfl
theorem Rep.non_inv {K : Fg} {μ : Sto} {H : Hp} {v : V} (h : Rep K μ H v .non) : v = .non := by cases h; rfl
theorem sTest (a : SE B ta φa) : ST B (tTest ta) (dTest φa) := fun σ H δ μ Φ Q S q k =>
  a σ H δ μ _ _ S q fun v H1 x μ1 S1 e1 r1 q1 => by
    obtain ⟨b, rfl, q2⟩ := q1
    obtain rfl := Rep.bl_inv r1
    exact ⟨b, rfl, k b H1 μ1 S1 e1 q2⟩
theorem sB (a : SE B ta φa) : ST B (tB ta) (dTest φa) := fun σ H δ μ Φ Q S q k =>
  a σ H δ μ _ _ S q fun v H1 x μ1 S1 e1 r1 q1 => by
    obtain ⟨b, rfl, q2⟩ := q1
    obtain rfl := Rep.bl_inv r1
    exact ⟨b, rfl, k b H1 μ1 S1 e1 q2⟩
def dAnd (θ ϑ : DT) : DT := fun Ψ δ μ Φ => θ Ψ δ μ fun b μ1 => (b = true → ϑ Ψ δ μ1 Φ) ∧ (b = false → Φ false μ1)
def dOr (θ ϑ : DT) : DT := fun Ψ δ μ Φ => θ Ψ δ μ fun b μ1 => (b = true → Φ true μ1) ∧ (b = false → ϑ Ψ δ μ1 Φ)
def dNot (θ : DT) : DT := fun Ψ δ μ Φ => θ Ψ δ μ fun b μ1 => Φ (!b) μ1
theorem sAnd (a : ST B tt θ) (b : ST B tu ϑ) : ST B (tAnd tt tu) (dAnd θ ϑ) := fun σ H δ μ Φ Q S q k =>
  a σ H δ μ _ _ S q fun v H1 μ1 S1 e1 q1 => by
    cases v with
    | true => exact b σ H1 δ μ1 _ _ S1 (q1.1 rfl) fun w H2 μ2 S2 e2 q2 => k w H2 μ2 S2 (e1.trans e2) q2
    | false => exact k false H1 μ1 S1 e1 (q1.2 rfl)
theorem sOr (a : ST B tt θ) (b : ST B tu ϑ) : ST B (tOr tt tu) (dOr θ ϑ) := fun σ H δ μ Φ Q S q k =>
  a σ H δ μ _ _ S q fun v H1 μ1 S1 e1 q1 => by
    cases v with
    | true => exact k true H1 μ1 S1 e1 (q1.1 rfl)
    | false => exact b σ H1 δ μ1 _ _ S1 (q1.2 rfl) fun w H2 μ2 S2 e2 q2 => k w H2 μ2 S2 (e1.trans e2) q2
theorem sNot (a : ST B tt θ) : ST B (tNot tt) (dNot θ) := fun σ H δ μ Φ Q S q k =>
  a σ H δ μ _ _ S q fun v H1 μ1 S1 e1 q1 => k (!v) H1 μ1 S1 e1 q1
def dAndV (φa φb : DE) : DE := fun Ψ δ μ Φ => φa Ψ δ μ fun x μ1 => ∃ b, x = .bl b ∧ (b = true → φb Ψ δ μ1 Φ) ∧ (b = false → Φ (.bl false) μ1)
def dOrV (φa φb : DE) : DE := fun Ψ δ μ Φ => φa Ψ δ μ fun x μ1 => ∃ b, x = .bl b ∧ (b = true → Φ (.bl true) μ1) ∧ (b = false → φb Ψ δ μ1 Φ)
def dNotV (φa : DE) : DE := fun Ψ δ μ Φ => φa Ψ δ μ fun x μ1 => ∃ b, x = .bl b ∧ Φ (.bl (!b)) μ1
theorem sAndV (a : SE B ta φa) (b : SE B tb φb) : SE B (tAndV ta tb) (dAndV φa φb) := fun σ H δ μ Φ Q S q k =>
  a σ H δ μ _ _ S q fun v H1 x μ1 S1 e1 r1 q1 => by
    obtain ⟨c, rfl, q2, q3⟩ := q1
    obtain rfl := Rep.bl_inv r1
    refine ⟨c, rfl, ?_⟩
    cases c with
    | true => exact b σ H1 δ μ1 _ _ S1 (q2 rfl) fun w H2 y μ2 S2 e2 r2 p => k w H2 y μ2 S2 (e1.trans e2) r2 p
    | false => exact k _ H1 _ μ1 S1 e1 (.bl false .nil) (q3 rfl)
theorem sNotV (a : SE B ta φa) : SE B (tNotV ta) (dNotV φa) := fun σ H δ μ Φ Q S q k =>
  a σ H δ μ _ _ S q fun v H1 x μ1 S1 e1 r1 q1 => by
    obtain ⟨c, rfl, q2⟩ := q1
    obtain rfl := Rep.bl_inv r1
    exact ⟨c, rfl, k _ H1 _ μ1 S1 e1 (.bl _ .nil) q2⟩
def dIf (θ : DT) (φa φb : DE) : DE := fun Ψ δ μ Φ => θ Ψ δ μ fun b μ1 => (b = true → φa Ψ δ μ1 Φ) ∧ (b = false → φb Ψ δ μ1 Φ)
theorem sIf (c : ST B tt θ) (a : SE B ta φa) (b : SE B tb φb) : SE B (tIf tt ta tb) (dIf θ φa φb) := fun σ H δ μ Φ Q S q k =>
  c σ H δ μ _ _ S q fun v H1 μ1 S1 e1 q1 => by
    cases v with
    | true => exact a σ H1 δ μ1 _ _ S1 (q1.1 rfl) fun w H2 y μ2 S2 e2 r2 p => k w H2 y μ2 S2 (e1.trans e2) r2 p
    | false => exact b σ H1 δ μ1 _ _ S1 (q1.2 rfl) fun w H2 y μ2 S2 e2 r2 p => k w H2 y μ2 S2 (e1.trans e2) r2 p
/-- a comparison of three -/
def dChain (ρ ρ' : DO) (φa φb φc : DE) : DE := fun Ψ δ μ Φ => φa Ψ δ μ fun x μ1 => φb Ψ δ μ1 fun y μ2 => ρ x y μ2 fun z μ3 => ∃ b, z = .bl b ∧ (b = true → φc Ψ δ μ3 fun u μ4 => ρ' y u μ4 Φ) ∧ (b = false → Φ (.bl false) μ3)
theorem sChain {r r' : R2} {ρ ρ' : DO} (h : RO K r ρ) (h' : RO K r' ρ') (a : SE B ta φa) (b : SE B tb φb) (c : SE B tc φc) : SE B (tChain r r' ta tb tc) (dChain ρ ρ' φa φb φc) := fun σ H δ μ Φ Q S q k =>
  a σ H δ μ _ _ S q fun v H1 x μ1 S1 e1 r1 q1 => b σ H1 δ μ1 _ _ S1 q1 fun w H2 y μ2 S2 e2 r2 q2 =>
    h H2 μ2 v w x y _ _ S2.sto (Reps.mono e2 r1) r2 q2 fun z H3 d μ3 e3 s3 r3 p => by
      obtain ⟨i, rfl, p1, p2⟩ := p
      obtain rfl := Rep.bl_inv r3
      refine ⟨i, rfl, ?_⟩
      have S3 := S2.step e3 s3
      cases i with
      | true =>
        exact c σ H3 δ μ3 _ _ S3 (p1 rfl) fun w4 H4 y4 μ4 S4 e4 r4 p4 =>
          h' H4 μ4 w w4 y y4 _ _ S4.sto (Reps.mono (e3.trans e4) r2) r4 p4 fun z5 H5 d5 μ5 e5 s5 r5 p5 => k z5 H5 d5 μ5 (S4.step e5 s5) (((e1.trans e2).trans e3).trans (e4.trans e5)) r5 p5
      | false => exact k _ H3 _ μ3 S3 ((e1.trans e2).trans e3) (.bl false .nil) (p2 rfl)
def dNil : DA := fun _ _ μ Φ => Φ [] μ
def dCons (φ : DE) (ψ : DA) : DA := fun Ψ δ μ Φ => φ Ψ δ μ fun x μ1 => ψ Ψ δ μ1 fun xs μ2 => Φ (x :: xs) μ2
theorem sNil : SA B tNil dNil := fun σ H δ μ Φ Q S q k => k [] H [] μ S .refl .nil q
theorem sCons (a : SE B ta φa) (b : SA B tas ψ) : SA B (tCons ta tas) (dCons φa ψ) := fun σ H δ μ Φ Q S q k =>
  a σ H δ μ _ _ S q fun v H1 x μ1 S1 e1 r1 q1 => b σ H1 δ μ1 _ _ S1 q1 fun vs H2 xs μ2 S2 e2 r2 q2 => k _ H2 _ μ2 S2 (e1.trans e2) (.cons (Reps.mono e2 r1) r2) q2
def dTup (ψ : DA) : DE := fun Ψ δ μ Φ => ψ Ψ δ μ fun xs μ1 => xs.length ≤ 100000 ∧ Φ (.tup xs) μ1
theorem rep_tup {K : Fg} {μ : Sto} {H : Hp} {p : Addr} {vs : List V} {ds : List D} (s : StoOk K μ H) (hp : H p = none) (r : Reps K μ H vs ds) : Rep K μ (upd H p (.tup vs)) (.ref p) (.pr ds) :=
  .pr ⟨.inl upd_same, .new s hp⟩ (r.mono (.new hp)) .nil
theorem rep_tupN {K : Fg} {μ : Sto} {H : Hp} {p : Addr} {o : Obj} {vs : List V} {ds : List D} (s : StoOk K μ H) (hp : H p = none) (ho : o.dict = none) (hc : o.cls = .type "tuple") (r : Reps K μ H vs ds) : Rep K μ (upd H p (.frz o (.tup vs))) (.ref p) (.tup ds) :=
  .tup (.inl ⟨o, upd_same, ho, hc, .new s hp⟩) (r.mono (.new hp)) .nil
theorem rep_lst {K : Fg} {μ : Sto} {H : Hp} {p : Addr} {vs : List V} {ds : List D} (s : StoOk K μ H) (hp : H p = none) (r : Reps K μ H vs ds) : Rep K μ (upd H p (.lst vs)) (.ref p) (.lst ds) :=
  .lst ⟨upd_same, .new s hp⟩ (r.mono (.new hp)) .nil
theorem sz {n : Nat} (h : n ≤ 100000) : n ≤ sizeLine := Nat.le_trans h (by decide)
theorem sTup (b : SA B tas ψ) : SE B (tTupN tas) (dTup ψ) := fun σ H δ μ Φ Q S q k =>
  b σ H δ μ _ _ S q fun vs H1 xs μ1 S1 e1 r1 q1 => ⟨sz (by rw [r1.length]; exact q1.1), fun p o ho hc hp => k _ _ _ μ1 (S1.step (.new hp) (S1.sto.new hp)) (e1.trans (.new hp)) (rep_tupN S1.sto hp ho hc r1) q1.2⟩
def dLst (ψ : DA) : DE := fun Ψ δ μ Φ => ψ Ψ δ μ fun xs μ1 => xs.length ≤ 100000 ∧ Φ (.lst xs) μ1
theorem sLst (b : SA B tas ψ) : SE B (tLst tas) (dLst ψ) := fun σ H δ μ Φ Q S q k =>
  b σ H δ μ _ _ S q fun vs H1 xs μ1 S1 e1 r1 q1 => ⟨sz (by rw [r1.length]; exact q1.1), fun p hp => k _ _ _ μ1 (S1.step (.new hp) (S1.sto.new hp)) (e1.trans (.new hp)) (rep_lst S1.sto hp r1) q1.2⟩
/-- a list that will change: its handle -/
def dOwn (ψ : DA) : DE := fun Ψ δ μ Φ => ψ Ψ δ μ fun xs μ1 => xs.length ≤ 100000 ∧ ∀ p, μ1 p = none → Φ (.hd (.ref p)) (sset μ1 p (.lst xs))
theorem sto_own {K : Fg} {μ : Sto} {H : Hp} {p : Addr} {vs : List V} {ds : List D} (s : StoOk K μ H) (hp : H p = none) (r : Reps K μ H vs ds) : StoOk K (sset μ p (.lst ds)) (upd H p (.lst vs)) :=
  s.cell (.newC s hp) ⟨vs, upd_same, r.mono (.newC s hp)⟩
theorem sOwn (b : SA B tas ψ) : SE B (tLst tas) (dOwn ψ) := fun σ H δ μ Φ Q S q k =>
  b σ H δ μ _ _ S q fun vs H1 xs μ1 S1 e1 r1 q1 => ⟨sz (by rw [r1.length]; exact q1.1), fun p hp =>
    k _ _ _ _ (S1.step (.newC S1.sto hp) (sto_own S1.sto hp r1)) (e1.trans (.newC S1.sto hp)) (.hd _ .nil) (q1.2 p (S1.sto.fresh hp))⟩
def dSeq (ω ζ : DSt) : DSt := fun Ψ Δ δ μ => ω Ψ { Δ with nx := ζ Ψ Δ } δ μ
theorem sSeq (a : SS B ts ω) (b : SS B tz ζ) : SS B (tSeq ts tz) (dSeq ω ζ) := fun D Δ σ H δ μ E S q =>
  a { D with nx := tz D } { Δ with nx := ζ B.Ψ Δ } σ H δ μ ⟨fun σ' H' δ' μ' S' q' => b D Δ σ' H' δ' μ' E S' q', E.rt, E.bk, E.ct⟩ S q
def dNext : DSt := fun _ Δ δ μ => Δ.nx δ μ
theorem sNext : SS B tNext dNext := fun D Δ σ H δ μ E S q => E.nx σ H δ μ S q
def dBreak : DSt := fun _ Δ δ μ => Δ.bk δ μ
def dCont : DSt := fun _ Δ δ μ => Δ.ct δ μ
def dDrop (φ : DE) : DSt := fun Ψ Δ δ μ => φ Ψ δ μ fun _ μ1 => Δ.nx δ μ1
theorem sDrop (a : SE B ta φa) : SS B (tDrop ta) (dDrop φa) := fun D Δ σ H δ μ E S q => a σ H δ μ _ _ S q fun v H1 x μ1 S1 e1 r1 q1 => E.nx σ H1 δ μ1 S1 q1
def dRet (φ : DE) : DSt := fun Ψ Δ δ μ => φ Ψ δ μ Δ.rt
theorem sRet (a : SE B ta φa) : SS B (tRet ta) (dRet φa) := fun D Δ σ H δ μ E S q => a σ H δ μ _ _ S q fun v H1 x μ1 S1 e1 r1 q1 => E.rt v H1 x μ1 σ δ S1 r1 q1
def dRetN : DSt := fun _ Δ δ μ => Δ.rt .non μ
def dIfS (θ : DT) (ω ζ : DSt) : DSt := fun Ψ Δ δ μ => θ Ψ δ μ fun b μ1 => (b = true → ω Ψ Δ δ μ1) ∧ (b = false → ζ Ψ Δ δ μ1)
theorem sIfS (c : ST B tt θ) (a : SS B ts ω) (b : SS B tz ζ) : SS B (tIfS tt ts tz) (dIfS θ ω ζ) := fun D Δ σ H δ μ E S q =>
  c σ H δ μ _ _ S q fun v H1 μ1 S1 e1 q1 => by
    cases v with
    | true => exact a D Δ σ H1 δ μ1 E S1 (q1.1 rfl)
    | false => exact b D Δ σ H1 δ μ1 E S1 (q1.2 rfl)
/-- targets -/
abbrev DG := D → DEnv → Sto → (DEnv → Sto → Prop) → Prop
def SG {K : Fg} (B : Bx K) (g : TG) (γ : DG) : Prop := ∀ (v : V) (d : D) (σ : L2.St) (H : Hp) (δ : DEnv) (μ : Sto) (Φ : DEnv → Sto → Prop) (Q : L2.St → Hp → Prop), B.S σ H δ μ → Rep K μ H v d → γ d δ μ Φ →
  (∀ σ' H' δ' μ', B.S σ' H' δ' μ' → Evo μ H μ' H' → Φ δ' μ' → Q σ' H') → g v σ H Q
def SGs {K : Fg} (B : Bx K) (g : TGs) (γ : List D → DEnv → Sto → (DEnv → Sto → Prop) → Prop) : Prop := ∀ (v : List V) (d : List D) (σ : L2.St) (H : Hp) (δ : DEnv) (μ : Sto) (Φ : DEnv → Sto → Prop) (Q : L2.St → Hp → Prop), B.S σ H δ μ → Reps K μ H v d → γ d δ μ Φ →
  (∀ σ' H' δ' μ', B.S σ' H' δ' μ' → Evo μ H μ' H' → Φ δ' μ' → Q σ' H') → g v σ H Q
def eName (i : Nat) : DG := fun d δ μ Φ => Φ (δ.set i (some d)) μ
theorem sName {i : Nat} : SG B (gName i) (eName i) := fun v d σ H δ μ Φ Q S r q k => k _ H _ μ (S.set r i) .refl q
def eNil : List D → DEnv → Sto → (DEnv → Sto → Prop) → Prop := fun ds δ μ Φ => ds = [] ∧ Φ δ μ
def eCons (γ : DG) (η : List D → DEnv → Sto → (DEnv → Sto → Prop) → Prop) : List D → DEnv → Sto → (DEnv → Sto → Prop) → Prop := fun ds δ μ Φ => ∃ d r, ds = d :: r ∧ γ d δ μ fun δ' μ' => η r δ' μ' Φ
theorem sgNil : SGs B gNil eNil := fun v d σ H δ μ Φ Q S r q k => by
  obtain ⟨rfl, q⟩ := q
  cases r
  exact ⟨rfl, k σ H δ μ S .refl q⟩
theorem sgCons {g : TG} {gs : TGs} {γ : DG} {η : List D → DEnv → Sto → (DEnv → Sto → Prop) → Prop} (a : SG B g γ) (b : SGs B gs η) : SGs B (gCons g gs) (eCons γ η) := fun v d σ H δ μ Φ Q S r q k => by
  obtain ⟨x, xs, rfl, q⟩ := q
  cases v with
  | nil => have := r.length; simp at this
  | cons v vs =>
    exact ⟨v, vs, rfl, a v x σ H δ μ _ _ S r.split.1 q fun σ1 H1 δ1 μ1 S1 e1 q1 => b vs xs σ1 H1 δ1 μ1 _ _ S1 (r.split.2.mono e1) q1 fun σ2 H2 δ2 μ2 S2 e2 q2 => k σ2 H2 δ2 μ2 S2 (e1.trans e2) q2⟩
def tpl : D → Option (List D)
  | .tup ds => some ds
  | .pr ds => some ds
  | _ => none
def eTup (n : Nat) (η : List D → DEnv → Sto → (DEnv → Sto → Prop) → Prop) : DG := fun d δ μ Φ => ∃ ds, tpl d = some ds ∧ ds.length = n ∧ η ds δ μ Φ
theorem Rep.tup_inv {K : Fg} {μ : Sto} {H : Hp} {v : V} {ds : List D} (h : Rep K μ H v (.tup ds)) : ∃ a vs, v = .ref a ∧ TupAt K μ H a vs ∧ Reps K μ H vs ds := by
  cases h with
  | tup h1 h2 _ => exact ⟨_, _, rfl, h1, h2⟩
theorem Rep.lst_inv {K : Fg} {μ : Sto} {H : Hp} {v : V} {ds : List D} (h : Rep K μ H v (.lst ds)) : ∃ a vs, v = .ref a ∧ LstAt μ H a vs ∧ Reps K μ H vs ds := by
  cases h with
  | lst h1 h2 _ => exact ⟨_, _, rfl, h1, h2⟩
theorem Rep.tpl_inv {K : Fg} {μ : Sto} {H : Hp} {v : V} {d : D} {ds : List D} (h : Rep K μ H v d) (e : tpl d = some ds) : ∃ a vs, v = .ref a ∧ SqT K H a vs ∧ Reps K μ H vs ds := by
  cases h with
  | tup h1 h2 _ => cases e; exact ⟨_, _, rfl, h1.sq, h2⟩
  | pr h1 h2 _ => cases e; exact ⟨_, _, rfl, h1.sq, h2⟩
  | _ => cases e
theorem sgTup {n : Nat} {gs : TGs} {η : List D → DEnv → Sto → (DEnv → Sto → Prop) → Prop} (b : SGs B gs η) : SG B (gTup K n gs) (eTup n η) := fun v d σ H δ μ Φ Q S r q k => by
  obtain ⟨ds, ed, hn, q⟩ := q
  obtain ⟨a, vs, rfl, ht, hr⟩ := Rep.tpl_inv r ed
  exact ⟨a, vs, rfl, ht, by rw [hr.length]; exact hn, b vs ds σ H δ μ Φ Q S hr q k⟩
def dAsg (φ : DE) (γ : DG) : DSt := fun Ψ Δ δ μ => φ Ψ δ μ fun x μ1 => γ x δ μ1 Δ.nx
theorem sAsg {g : TG} {γ : DG} (a : SE B ta φa) (b : SG B g γ) : SS B (tAsg ta g) (dAsg φa γ) := fun D Δ σ H δ μ E S q =>
  a σ H δ μ _ _ S q fun v H1 x μ1 S1 e1 r1 q1 => b v x σ H1 δ μ1 _ _ S1 r1 q1 fun σ2 H2 δ2 μ2 S2 e2 q2 => E.nx σ2 H2 δ2 μ2 S2 q2
/-- x += e -/
def dAug (i : Nat) (φ : DE) (ρ : DO) : DSt := fun Ψ Δ δ μ => ∃ x, δ[i]? = some (some x) ∧ φ Ψ δ μ fun y μ1 => ρ x y μ1 fun z μ2 => Δ.nx (δ.set i (some z)) μ2
/-- while, by a word and a number that falls -/
def dWhile (θ : DT) (ω : DSt) : DSt := fun Ψ Δ δ μ => ∃ W : Nat → DEnv → Sto → Prop, (∃ m, W m δ μ) ∧ ∀ m δ μ, W m δ μ → θ Ψ δ μ fun b μ1 =>
  (b = true → ω Ψ { Δ with nx := fun δ' μ' => ∃ m', m' < m ∧ W m' δ' μ', ct := fun δ' μ' => ∃ m', m' < m ∧ W m' δ' μ', bk := Δ.nx } δ μ1) ∧ (b = false → Δ.nx δ μ1)
end
end DW
set_option Elab.async false
set_option linter.all false
set_option maxRecDepth 100000
namespace DW
open PySem PySem.Spec L2
section
variable {K : Fg}
def oI (C : Int → Int → Prop) (g : Int → Int → D) : DO := fun x y μ Φ => ∃ i j, x = .int i ∧ y = .int j ∧ C i j ∧ Φ (g i j) μ
def oI0 (g : Int → Int → D) : DO := fun x y μ Φ => ∃ i j, x = .int i ∧ y = .int j ∧ Φ (g i j) μ
theorem roI {C : Int → Int → Prop} {g : Int → Int → V} {g' : Int → Int → D} (hg : ∀ i j μ H, Rep K μ H (g i j) (g' i j)) : RO K (rI C g) (oI C g') := fun H μ v w d e Φ Q s r1 r2 q k => by
  obtain ⟨i, j, rfl, rfl, hc, q⟩ := q
  exact ⟨i, j, Rep.int_inv r1, Rep.int_inv r2, hc, k _ H _ μ .refl s (hg i j μ H) q⟩
theorem roI0 {g : Int → Int → V} {g' : Int → Int → D} (hg : ∀ i j μ H, Rep K μ H (g i j) (g' i j)) : RO K (rI0 g) (oI0 g') := fun H μ v w d e Φ Q s r1 r2 q k => by
  obtain ⟨i, j, rfl, rfl, q⟩ := q
  exact ⟨i, j, Rep.int_inv r1, Rep.int_inv r2, k _ H _ μ .refl s (hg i j μ H) q⟩
theorem roInt {C : Int → Int → Prop} {g : Int → Int → Int} : RO K (rI C fun i j => .int (g i j)) (oI C fun i j => .int (g i j)) := roI fun _ _ _ _ => .int _ .nil
theorem roInt0 {g : Int → Int → Int} : RO K (rI0 fun i j => .int (g i j)) (oI0 fun i j => .int (g i j)) := roI0 fun _ _ _ _ => .int _ .nil
theorem roBl0 {g : Int → Int → Bool} : RO K (rI0 fun i j => .bl (g i j)) (oI0 fun i j => .bl (g i j)) := roI0 fun _ _ _ _ => .bl _ .nil
def uI (g : Int → Int) : DU := fun x μ Φ => ∃ i, x = .int i ∧ Φ (.int (g i)) μ
theorem ruInt {g : Int → Int} : RU K (rU fun i => .int (g i)) (uI g) := fun H μ v d Φ Q s r q k => by
  obtain ⟨i, rfl, q⟩ := q
  exact ⟨i, Rep.int_inv r, k _ H _ μ .refl s (.int _ .nil) q⟩
def sEq : D → D → Option Bool
  | .int i, .int j => some (decide (i = j))
  | .str i, .str j => some (decide (i = j))
  | .bl i, .bl j => some (decide (i = j))
  | .non, .non => some true
  | .non, .int _ => some false
  | .int _, .non => some false
  | .non, .bl _ => some false
  | .bl _, .non => some false
  | .non, .str _ => some false
  | .str _, .non => some false
  | .int _, .str _ => some false
  | .str _, .int _ => some false
  | .bl _, .str _ => some false
  | .str _, .bl _ => some false
  | _, _ => none
theorem sEq_ok {μ : Sto} {H : Hp} {v w : V} {d e : D} {b : Bool} (r1 : Rep K μ H v d) (r2 : Rep K μ H w e) (h : sEq d e = some b) : scal v w = true ∧ decide (v = w) = b := by
  cases d <;> cases e <;> (first | (unfold sEq at h; cases h; done) | skip) <;> cases r1 <;> cases r2 <;> (injection h with h; subst h; first | exact ⟨rfl, by simp⟩ | exact ⟨rfl, rfl⟩)
def oEq : DO := fun x y μ Φ => ∃ b, sEq x y = some b ∧ Φ (.bl b) μ
def oNe : DO := fun x y μ Φ => ∃ b, sEq x y = some b ∧ Φ (.bl (!b)) μ
theorem roEq : RO K rEq oEq := fun H μ v w d e Φ Q s r1 r2 q k => by
  obtain ⟨b, hb, q⟩ := q
  obtain ⟨h1, h2⟩ := sEq_ok r1 r2 hb
  exact ⟨h1, by rw [h2]; exact k _ H _ μ .refl s (.bl _ .nil) q⟩
theorem roNe : RO K rNe oNe := fun H μ v w d e Φ Q s r1 r2 q k => by
  obtain ⟨b, hb, q⟩ := q
  obtain ⟨h1, h2⟩ := sEq_ok r1 r2 hb
  exact ⟨h1, by rw [h2]; exact k _ H _ μ .refl s (.bl _ .nil) q⟩
def isNone : D → Option Bool
  | .non => some true
  | .bl _ => some false
  | .int _ => some false
  | .str _ => some false
  | .tup _ => some false
  | .lst _ => some false
  | .obj _ _ _ => some false
  | _ => none
theorem isNone_ok {μ : Sto} {H : Hp} {v : V} {d : D} {b : Bool} (r1 : Rep K μ H v d) (h : isNone d = some b) : decide (v = .non) = b := by
  cases d <;> unfold isNone at h <;> first | (cases h; done) | (cases h; cases r1; rfl) | (cases h; cases r1; simp)
def oIsN : DO := fun x y μ Φ => y = .non ∧ ∃ b, isNone x = some b ∧ Φ (.bl b) μ
def oNotN : DO := fun x y μ Φ => y = .non ∧ ∃ b, isNone x = some b ∧ Φ (.bl (!b)) μ
theorem roIsN : RO K (fun x y H Q => y = .non ∧ Q (.bl (decide (x = .non))) H) oIsN := fun H μ v w d e Φ Q s r1 r2 q k => by
  obtain ⟨rfl, b, hb, q⟩ := q
  exact ⟨Rep.non_inv r2, by rw [isNone_ok r1 hb]; exact k _ H _ μ .refl s (.bl _ .nil) q⟩
theorem roNotN : RO K (fun x y H Q => y = .non ∧ Q (.bl (!decide (x = .non))) H) oNotN := fun H μ v w d e Φ Q s r1 r2 q k => by
  obtain ⟨rfl, b, hb, q⟩ := q
  exact ⟨Rep.non_inv r2, by rw [isNone_ok r1 hb]; exact k _ H _ μ .refl s (.bl _ .nil) q⟩
def flatD : D → Bool
  | .non => true
  | .bl _ => true
  | .int _ => true
  | .str _ => true
  | _ => false
def eqF : D → D → Bool
  | .non, .non => true
  | .bl a, .bl b => a == b
  | .bl a, .int b => (if a then 1 else 0) == b
  | .int a, .bl b => a == (if b then 1 else 0)
  | .int a, .int b => a == b
  | .str a, .str b => a == b
  | _, _ => false
theorem flatD_ok {μ : Sto} {H : Hp} {v : V} {d : D} (r : Rep K μ H v d) (h : flatD d = true) : flatV v = true := by
  cases d <;> (first | (exact absurd h Bool.false_ne_true) | skip) <;> cases r <;> rfl
theorem eqF_ok {μ : Sto} {H : Hp} {v w : V} {d e : D} (r1 : Rep K μ H v d) (r2 : Rep K μ H w e) (f1 : flatD d = true) (f2 : flatD e = true) : eqV v w = eqF d e := by
  cases d <;> (first | (exact absurd f1 Bool.false_ne_true) | skip) <;> cases r1 <;> cases e <;> (first | (exact absurd f2 Bool.false_ne_true) | skip) <;> cases r2 <;> rfl
theorem flatAll_ok {μ : Sto} {H : Hp} : ∀ {vs : List V} {ds : List D}, Reps K μ H vs ds → ds.all flatD = true → vs.all flatV = true
  | [], [], _, _ => rfl
  | [], _ :: _, r, _ => by have := r.length; simp at this
  | _ :: _, [], r, _ => by have := r.length; simp at this
  | v :: vs, d :: ds, r, h => by
    rw [List.all_cons, Bool.and_eq_true] at h ⊢
    exact ⟨flatD_ok r.split.1 h.1, flatAll_ok r.split.2 h.2⟩
/-- the items of a tuple, of a list, of a handle's list -/
inductive Items (μ : Sto) : D → List D → Prop
  | tup (ds) : Items μ (.tup ds) ds
  | lst (ds) : Items μ (.lst ds) ds
  | own {a ds} : μ a = some (.lst ds) → Items μ (.hd (.ref a)) ds
  | frz {a ds} : μ a = some (.frz ds) → Items μ (.hd (.ref a)) ds
  | scr (ns) : Items μ (.scr ns) (ns.map .int)
theorem reps_ints {μ : Sto} {H : Hp} : ∀ (ns : List Int), Reps K μ H (ns.map V.int) (ns.map D.int)
  | [] => .nil
  | n :: ns => .int n (reps_ints ns)
theorem Items.ok {μ : Sto} {H : Hp} {v : V} {d : D} {ds : List D} (s : StoOk K μ H) (r : Rep K μ H v d) (h : Items μ d ds) : ∃ a vs, v = .ref a ∧ (SqL K H a vs ∨ SqT K H a vs) ∧ Reps K μ H vs ds := by
  cases h with
  | tup => obtain ⟨a, vs, rfl, h1, h2⟩ := Rep.tup_inv r; exact ⟨a, vs, rfl, .inr h1.sq, h2⟩
  | lst => obtain ⟨a, vs, rfl, h1, h2⟩ := Rep.lst_inv r; exact ⟨a, vs, rfl, .inl h1.sq, h2⟩
  | own h => obtain rfl := Rep.hd_inv r; obtain ⟨vs, h1, h2⟩ := s _ _ h; exact ⟨_, vs, rfl, .inl (.of h1), h2⟩
  | frz h => obtain rfl := Rep.hd_inv r; obtain ⟨vs, h1, h2⟩ := s _ _ h; exact ⟨_, vs, rfl, .inl (.of h1), h2⟩
  | scr ns =>
    cases r with
    | scr h1 _ => exact ⟨_, _, rfl, .inl h1.sq, reps_ints ns⟩
theorem atI_reps {μ : Sto} {H : Hp} {vs : List V} {ds : List D} (r : Reps K μ H vs ds) {i : Int} {d : D} (h : atI ds i = some d) : ∃ v, atI vs i = some v ∧ Rep K μ H v d := by
  unfold atI at h ⊢
  rw [r.length]
  cases e : ixN ds.length i with
  | none => rw [e] at h; cases h
  | some j => rw [e] at h; exact r.get h
def isTup : D → Bool
  | .tup _ => true
  | _ => false
def oIxT : DO := fun x y μ Φ => ∃ ds i d, x = .tup ds ∧ y = .int i ∧ atI ds i = some d ∧ Φ d μ
theorem roIxT : RO K (rIxT K) oIxT := fun H μ v w d e Φ Q s r1 r2 q k => by
  obtain ⟨ds, i, c, rfl, rfl, hi, q⟩ := q
  obtain ⟨a, vs, rfl, h1, h2⟩ := Rep.tup_inv r1
  obtain ⟨z, hz, rz⟩ := atI_reps h2 hi
  exact ⟨a, vs, i, z, rfl, Rep.int_inv r2, h1.sq, hz, k _ H _ μ .refl s rz q⟩
def oIxL : DO := fun x y μ Φ => ∃ ds i d, Items μ x ds ∧ isTup x = false ∧ y = .int i ∧ atI ds i = some d ∧ Φ d μ
theorem Items.okL {μ : Sto} {H : Hp} {v : V} {d : D} {ds : List D} (s : StoOk K μ H) (r : Rep K μ H v d) (h : Items μ d ds) (n : isTup d = false) : ∃ a vs, v = .ref a ∧ SqL K H a vs ∧ Reps K μ H vs ds := by
  cases h with
  | tup => cases n
  | lst => obtain ⟨a, vs, rfl, h1, h2⟩ := Rep.lst_inv r; exact ⟨a, vs, rfl, h1.sq, h2⟩
  | own h => obtain rfl := Rep.hd_inv r; obtain ⟨vs, h1, h2⟩ := s _ _ h; exact ⟨_, vs, rfl, .of h1, h2⟩
  | frz h => obtain rfl := Rep.hd_inv r; obtain ⟨vs, h1, h2⟩ := s _ _ h; exact ⟨_, vs, rfl, .of h1, h2⟩
  | scr ns =>
    cases r with
    | scr h1 _ => exact ⟨_, _, rfl, h1.sq, reps_ints ns⟩
theorem roIxL : RO K (rIxL K) oIxL := fun H μ v w d e Φ Q s r1 r2 q k => by
  obtain ⟨ds, i, c, hi, hn, rfl, ha, q⟩ := q
  obtain ⟨a, vs, rfl, h1, h2⟩ := hi.okL s r1 hn
  obtain ⟨z, hz, rz⟩ := atI_reps h2 ha
  exact ⟨a, vs, i, z, rfl, Rep.int_inv r2, h1, hz, k _ H _ μ .refl s rz q⟩
/-- t + u, tuples -/
def oCatT : DO := fun x y μ Φ => ∃ xs ys, x = .tup xs ∧ y = .tup ys ∧ xs.length + ys.length ≤ 100000 ∧ Φ (.tup (xs ++ ys)) μ
theorem roCatT : RO K (rCatN K) oCatT := fun H μ v w d e Φ Q s r1 r2 q k => by
  obtain ⟨xs, ys, rfl, rfl, hz, q⟩ := q
  obtain ⟨a, vs, rfl, h1, h2⟩ := Rep.tup_inv r1
  obtain ⟨b, us, rfl, h3, h4⟩ := Rep.tup_inv r2
  refine ⟨a, b, vs, us, rfl, rfl, h1.sq, h3.sq, sz (by rw [h2.length, h4.length]; exact hz), fun e => ?_, fun _ e => ?_, fun _ _ p o ho hc hp => ?_⟩
  · subst e
    have ex : xs = [] := List.eq_nil_of_length_eq_zero (by rw [← h2.length]; rfl)
    subst ex
    exact k _ H _ μ .refl s r2 q
  · subst e
    have ex : ys = [] := List.eq_nil_of_length_eq_zero (by rw [← h4.length]; rfl)
    subst ex
    rw [List.append_nil] at q
    exact k _ H _ μ .refl s r1 q
  · exact k _ _ _ μ (.new hp) (s.new hp) (rep_tupN s hp ho hc (h2.append h4)) q
/-- xs + ys, lists -/
def oCatL : DO := fun x y μ Φ => ∃ xs ys, x = .lst xs ∧ y = .lst ys ∧ xs.length + ys.length ≤ 100000 ∧ Φ (.lst (xs ++ ys)) μ
theorem roCatL : RO K rCat oCatL := fun H μ v w d e Φ Q s r1 r2 q k => by
  obtain ⟨xs, ys, rfl, rfl, hz, q⟩ := q
  obtain ⟨a, vs, rfl, h1, h2⟩ := Rep.lst_inv r1
  obtain ⟨b, us, rfl, h3, h4⟩ := Rep.lst_inv r2
  exact ⟨a, b, vs, us, rfl, rfl, h1.1, h3.1, sz (by rw [h2.length, h4.length]; exact hz), fun p hp => k _ _ _ μ (.new hp) (s.new hp) (rep_lst s hp (h2.append h4)) q⟩
/-- t * k for k of two or more -/
theorem reps_rep {μ : Sto} {H : Hp} {vs : List V} {ds : List D} (r : Reps K μ H vs ds) : ∀ n, Reps K μ H (List.replicate n vs).flatten (List.replicate n ds).flatten
  | 0 => .nil
  | n + 1 => by
    rw [List.replicate_succ, List.replicate_succ, List.flatten_cons, List.flatten_cons]
    exact r.append (reps_rep r n)
def dNoPart : XP → DEnv → Sto → (Option Int → Sto → Prop) → Prop := fun _ _ μ Φ => Φ none μ
def dPart (φ : DE) : XP → DEnv → Sto → (Option Int → Sto → Prop) → Prop := fun Ψ δ μ Φ => φ Ψ δ μ fun x μ1 => ∃ i, x = .int i ∧ Φ (some i) μ1
def SO (B : Bx K) (to : TO) (φ : XP → DEnv → Sto → (Option Int → Sto → Prop) → Prop) : Prop := ∀ (σ : L2.St) (H : Hp) (δ : DEnv) (μ : Sto) (Φ : Option Int → Sto → Prop) (Q : Option Int → Hp → Prop), B.S σ H δ μ → φ B.Ψ δ μ Φ →
  (∀ o H' μ', B.S σ H' δ μ' → Evo μ H μ' H' → Φ o μ' → Q o H') → to σ H Q
theorem sNoPart {B : Bx K} : SO B tNoPart dNoPart := fun σ H δ μ Φ Q S q k => k none H μ S .refl q
theorem sPart {B : Bx K} {te : TE} {φ : DE} (a : SE B te φ) : SO B (tPart te) (dPart φ) := fun σ H δ μ Φ Q S q k =>
  a σ H δ μ _ _ S q fun v H1 x μ1 S1 e1 r1 q1 => by
    obtain ⟨i, rfl, q2⟩ := q1
    obtain rfl := Rep.int_inv r1
    exact ⟨i, rfl, k (some i) H1 μ1 S1 e1 q2⟩
def cutD (xs : List D) (lo hi : Option Int) : List D := (xs.drop (HT.sIx xs.length 0 lo)).take (HT.sIx xs.length xs.length hi - HT.sIx xs.length 0 lo)
theorem cut_reps {μ : Sto} {H : Hp} {vs : List V} {ds : List D} (r : Reps K μ H vs ds) (lo hi : Option Int) : Reps K μ H (cutV vs lo hi) (cutD ds lo hi) := by
  unfold cutV cutD
  rw [r.length]
  exact (r.drop _).take _
def dSlT (φ : DE) (ol oh : XP → DEnv → Sto → (Option Int → Sto → Prop) → Prop) : DE := fun Ψ δ μ Φ => φ Ψ δ μ fun x μ1 => ol Ψ δ μ1 fun lo μ2 => oh Ψ δ μ2 fun hi μ3 => ∃ ds, x = .tup ds ∧ Φ (.tup (cutD ds lo hi)) μ3
theorem cutD_whole {ds : List D} {lo hi : Option Int} (h : HT.sIx ds.length 0 lo = 0 ∧ HT.sIx ds.length ds.length hi = ds.length) : cutD ds lo hi = ds := by
  unfold cutD
  rw [h.1, h.2, List.drop_zero, Nat.sub_zero, List.take_length]
theorem sSlT {B : Bx K} {te : TE} {tl th : TO} {φ : DE} {ol oh : XP → DEnv → Sto → (Option Int → Sto → Prop) → Prop} (a : SE B te φ) (b : SO B tl ol) (c : SO B th oh) : SE B (tSl (rSlN K) te tl th) (dSlT φ ol oh) := fun σ H δ μ Φ Q S q k =>
  a σ H δ μ _ _ S q fun v H1 x μ1 S1 e1 r1 q1 => b σ H1 δ μ1 _ _ S1 q1 fun lo H2 μ2 S2 e2 q2 => c σ H2 δ μ2 _ _ S2 q2 fun hi H3 μ3 S3 e3 q3 => by
    obtain ⟨ds, rfl, q3⟩ := q3
    obtain ⟨p, vs, rfl, h1, h2⟩ := Rep.tup_inv ((r1.mono e2).mono e3)
    refine ⟨p, vs, rfl, h1.sq, fun w => ?_, fun w o ob hd hc ho => ?_⟩
    · rw [h2.length] at w
      rw [cutD_whole w] at q3
      exact k _ H3 _ μ3 S3 ((e1.trans e2).trans e3) (.tup h1 h2 .nil) q3
    · exact k _ _ _ μ3 (S3.step (.new ho) (S3.sto.new ho)) (((e1.trans e2).trans e3).trans (.new ho)) (rep_tupN S3.sto ho hd hc (cut_reps h2 lo hi)) q3
def dSlL (φ : DE) (ol oh : XP → DEnv → Sto → (Option Int → Sto → Prop) → Prop) : DE := fun Ψ δ μ Φ => φ Ψ δ μ fun x μ1 => ol Ψ δ μ1 fun lo μ2 => oh Ψ δ μ2 fun hi μ3 => ∃ ds, Items μ3 x ds ∧ isTup x = false ∧ Φ (.lst (cutD ds lo hi)) μ3
theorem sSlL {B : Bx K} {te : TE} {tl th : TO} {φ : DE} {ol oh : XP → DEnv → Sto → (Option Int → Sto → Prop) → Prop} (a : SE B te φ) (b : SO B tl ol) (c : SO B th oh) : SE B (tSl (rSlL K) te tl th) (dSlL φ ol oh) := fun σ H δ μ Φ Q S q k =>
  a σ H δ μ _ _ S q fun v H1 x μ1 S1 e1 r1 q1 => b σ H1 δ μ1 _ _ S1 q1 fun lo H2 μ2 S2 e2 q2 => c σ H2 δ μ2 _ _ S2 q2 fun hi H3 μ3 S3 e3 q3 => by
    obtain ⟨ds, hi', hn, q3⟩ := q3
    obtain ⟨p, vs, rfl, h1, h2⟩ := hi'.okL S3.sto ((r1.mono e2).mono e3) hn
    exact ⟨p, vs, rfl, h1, fun o ho => k _ _ _ μ3 (S3.step (.new ho) (S3.sto.new ho)) (((e1.trans e2).trans e3).trans (.new ho)) (rep_lst S3.sto ho (cut_reps h2 lo hi)) q3⟩
/-- xs[::-1], lists -/
def dRevL (φ : DE) : DE := fun Ψ δ μ Φ => φ Ψ δ μ fun x μ1 => ∃ ds, Items μ1 x ds ∧ isTup x = false ∧ Φ (.lst ds.reverse) μ1
abbrev DC := List D → Sto → DK → Prop
def RC (K : Fg) (r : List V → Hp → VK → Prop) (ρ : DC) : Prop := ∀ (H : Hp) (μ : Sto) (vs : List V) (ds : List D) (Φ : DK) (Q : VK), StoOk K μ H → Reps K μ H vs ds → ρ ds μ Φ →
  (∀ z H' c μ', Evo μ H μ' H' → StoOk K μ' H' → Rep K μ' H' z c → Φ c μ' → Q z H') → r vs H Q
def dCB (ρ : DC) (ψ : DA) : DE := fun Ψ δ μ Φ => ψ Ψ δ μ fun xs μ1 => ρ xs μ1 Φ
theorem sCB {B : Bx K} {r : List V → Hp → VK → Prop} {ρ : DC} {tas : TA} {ψ : DA} (h : RC K r ρ) (a : SA B tas ψ) : SE B (tCB r tas) (dCB ρ ψ) := fun σ H δ μ Φ Q S q k =>
  a σ H δ μ _ _ S q fun vs H1 xs μ1 S1 e1 r1 q1 => h H1 μ1 vs xs Φ Q S1.sto r1 q1 fun z H3 c μ3 e3 s3 r3 p => k z H3 c μ3 (S1.step e3 s3) (e1.trans e3) r3 p
theorem reps1 {μ : Sto} {H : Hp} {vs : List V} {d : D} (r : Reps K μ H vs [d]) : ∃ v, vs = [v] ∧ Rep K μ H v d := by
  cases vs with
  | nil => have := r.length; simp at this
  | cons v vs =>
    cases vs with
    | nil => exact ⟨v, rfl, r⟩
    | cons w vs => have := r.length; simp at this
theorem reps2 {μ : Sto} {H : Hp} {vs : List V} {d e : D} (r : Reps K μ H vs [d, e]) : ∃ v w, vs = [v, w] ∧ Rep K μ H v d ∧ Rep K μ H w e := by
  cases vs with
  | nil => have := r.length; simp at this
  | cons v vs =>
    obtain ⟨w, rfl, r2⟩ := reps1 r.split.2
    exact ⟨v, w, rfl, r.split.1, r2⟩
def cLen : DC := fun xs μ Φ => ∃ x ds, xs = [x] ∧ Items μ x ds ∧ Φ (.int ds.length) μ
theorem rcLen : RC K (fun xs H Q => ∃ p ys, xs = [.ref p] ∧ (SqL K H p ys ∨ SqT K H p ys) ∧ Q (.int ys.length) H) cLen := fun H μ vs ds Φ Q s r q k => by
  obtain ⟨x, es, rfl, hi, q⟩ := q
  obtain ⟨v, rfl, r⟩ := reps1 r
  obtain ⟨a, us, rfl, h1, h2⟩ := hi.ok s r
  refine ⟨a, us, rfl, h1, ?_⟩
  rw [h2.length]
  exact k _ H _ μ .refl s (.int _ .nil) q
/-- list(..) of a list or tuple -/
def cList : DC := fun xs μ Φ => ∃ x ds, xs = [x] ∧ Items μ x ds ∧ Φ (.lst ds) μ
theorem rcList : RC K (fun xs H Q => ∃ p ys, xs = [.ref p] ∧ (SqL K H p ys ∨ SqT K H p ys) ∧ ∀ l, H l = none → Q (.ref l) (upd H l (.lst ys))) cList := fun H μ vs ds Φ Q s r q k => by
  obtain ⟨x, es, rfl, hi, q⟩ := q
  obtain ⟨v, rfl, r⟩ := reps1 r
  obtain ⟨a, us, rfl, h1, h2⟩ := hi.ok s r
  exact ⟨a, us, rfl, h1, fun p hp => k _ _ _ μ (.new hp) (s.new hp) (rep_lst s hp h2) q⟩
/-- the same, a handle -/
def cListOwn : DC := fun xs μ Φ => ∃ x ds, xs = [x] ∧ Items μ x ds ∧ ∀ p, μ p = none → Φ (.hd (.ref p)) (sset μ p (.lst ds))
def cTuple : DC := fun xs μ Φ => ∃ x ds, xs = [x] ∧ Items μ x ds ∧ Φ (.tup ds) μ
theorem rcTuple : RC K (fun xs H Q => ∃ p ys, xs = [.ref p] ∧ ((SqL K H p ys ∧ NewT H ys Q) ∨ (SqT K H p ys ∧ Q (.ref p) H))) cTuple := fun H μ vs ds Φ Q s r q k => by
  obtain ⟨x, es, rfl, hi, q⟩ := q
  obtain ⟨v, rfl, r⟩ := reps1 r
  cases hi with
  | tup => obtain ⟨a, us, rfl, h1, h2⟩ := Rep.tup_inv r; exact ⟨a, us, rfl, .inr ⟨h1.sq, k _ H _ μ .refl s r q⟩⟩
  | lst => obtain ⟨a, us, rfl, h1, h2⟩ := (Items.lst es).okL s r rfl; exact ⟨a, us, rfl, .inl ⟨h1, fun p o ho hc hp => k _ _ _ μ (.new hp) (s.new hp) (rep_tupN s hp ho hc h2) q⟩⟩
  | own h => obtain ⟨a, us, rfl, h1, h2⟩ := (Items.own h).okL s r rfl; exact ⟨a, us, rfl, .inl ⟨h1, fun p o ho hc hp => k _ _ _ μ (.new hp) (s.new hp) (rep_tupN s hp ho hc h2) q⟩⟩
  | frz h => obtain ⟨a, us, rfl, h1, h2⟩ := (Items.frz h).okL s r rfl; exact ⟨a, us, rfl, .inl ⟨h1, fun p o ho hc hp => k _ _ _ μ (.new hp) (s.new hp) (rep_tupN s hp ho hc h2) q⟩⟩
  | scr ns => obtain ⟨a, us, rfl, h1, h2⟩ := (Items.scr ns).okL s r rfl; exact ⟨a, us, rfl, .inl ⟨h1, fun p o ho hc hp => k _ _ _ μ (.new hp) (s.new hp) (rep_tupN s hp ho hc h2) q⟩⟩
def cInt : DC := fun xs μ Φ => ∃ i, xs = [.int i] ∧ Φ (.int i) μ ∨ ∃ b, xs = [.bl b] ∧ Φ (.int (if b then 1 else 0)) μ
theorem rcInt : RC K (fun xs H Q => (∃ i, xs = [.int i] ∧ Q (.int i) H) ∨ ∃ k, xs = [.bl k] ∧ Q (.int (if k then 1 else 0)) H) cInt := fun H μ vs ds Φ Q s r q k => by
  obtain ⟨i, q⟩ := q
  rcases q with ⟨rfl, q⟩ | ⟨b, rfl, q⟩
  · obtain ⟨v, rfl, r⟩ := reps1 r
    obtain rfl := Rep.int_inv r
    exact .inl ⟨i, rfl, k _ H _ μ .refl s r q⟩
  · obtain ⟨v, rfl, r⟩ := reps1 r
    obtain rfl := Rep.bl_inv r
    exact .inr ⟨b, rfl, k _ H _ μ .refl s (.int _ .nil) q⟩
theorem reps_bls {μ : Sto} {H : Hp} : ∀ {vs : List V} {bs : List Bool}, Reps K μ H vs (bs.map .bl) → vs = bs.map .bl
  | [], [], _ => rfl
  | [], _ :: _, r => by have := r.length; simp at this
  | _ :: _, [], r => by have := r.length; simp at this
  | v :: vs, b :: bs, r => by
    have e := Rep.bl_inv r.split.1
    have ih := reps_bls r.split.2
    rw [e, ih, List.map_cons]
theorem reps_intsV {μ : Sto} {H : Hp} : ∀ {vs : List V} {ns : List Int}, Reps K μ H vs (ns.map .int) → vs = ns.map .int
  | [], [], _ => rfl
  | [], _ :: _, r => by have := r.length; simp at this
  | _ :: _, [], r => by have := r.length; simp at this
  | v :: vs, b :: bs, r => by
    have e := Rep.int_inv r.split.1
    have ih := reps_intsV r.split.2
    rw [e, ih, List.map_cons]
def cAll : DC := fun xs μ Φ => ∃ bs : List Bool, xs = [.lst (bs.map .bl)] ∧ Φ (.bl (bs.all id)) μ
def cAny : DC := fun xs μ Φ => ∃ bs : List Bool, xs = [.lst (bs.map .bl)] ∧ Φ (.bl (bs.any id)) μ
theorem rcAll : RC K (rAll K) cAll := fun H μ vs ds Φ Q s r q k => by
  obtain ⟨bs, rfl, q⟩ := q
  obtain ⟨v, rfl, r⟩ := reps1 r
  obtain ⟨a, us, rfl, h1, h2⟩ := Rep.lst_inv r
  have e := reps_bls h2
  subst e
  exact ⟨a, bs, rfl, h1.sq, k _ H _ μ .refl s (.bl _ .nil) q⟩
theorem rcAny : RC K (rAny K) cAny := fun H μ vs ds Φ Q s r q k => by
  obtain ⟨bs, rfl, q⟩ := q
  obtain ⟨v, rfl, r⟩ := reps1 r
  obtain ⟨a, us, rfl, h1, h2⟩ := Rep.lst_inv r
  have e := reps_bls h2
  subst e
  exact ⟨a, bs, rfl, h1.sq, k _ H _ μ .refl s (.bl _ .nil) q⟩
def cMin2 : DC := fun xs μ Φ => ∃ i j, xs = [.int i, .int j] ∧ Φ (.int (if j < i then j else i)) μ
theorem rcMin2 : RC K (fun xs H Q => ∃ i j, xs = [.int i, .int j] ∧ Q (.int (if j < i then j else i)) H) cMin2 := fun H μ vs ds Φ Q s r q k => by
  obtain ⟨i, j, rfl, q⟩ := q
  obtain ⟨v, w, rfl, r1, r2⟩ := reps2 r
  obtain rfl := Rep.int_inv r1
  obtain rfl := Rep.int_inv r2
  exact ⟨i, j, rfl, k _ H _ μ .refl s (.int _ .nil) q⟩
def cMax2 : DC := fun xs μ Φ => ∃ i j, xs = [.int i, .int j] ∧ Φ (.int (if j > i then j else i)) μ
theorem rcMax2 : RC K (fun xs H Q => ∃ i j, xs = [.int i, .int j] ∧ Q (.int (if j > i then j else i)) H) cMax2 := fun H μ vs ds Φ Q s r q k => by
  obtain ⟨i, j, rfl, q⟩ := q
  obtain ⟨v, w, rfl, r1, r2⟩ := reps2 r
  obtain rfl := Rep.int_inv r1
  obtain rfl := Rep.int_inv r2
  exact ⟨i, j, rfl, k _ H _ μ .refl s (.int _ .nil) q⟩
def cDivmod : DC := fun xs μ Φ => ∃ i j, xs = [.int i, .int j] ∧ CDivP i j ∧ Φ (.pr [.int (i / j), .int (i % j)]) μ
def tyD : D → Option String
  | .non => some "NoneType"
  | .bl _ => some "bool"
  | .int _ => some "int"
  | .str _ => some "str"
  | .tup _ => some "tuple"
  | .lst _ => some "list"
  | _ => none
theorem tyD_ok {μ : Sto} {H : Hp} {v : V} {d : D} {n : String} (r : Rep K μ H v d) (h : tyD d = some n) : TyX K H v (.type n) := by
  cases d with
  | non => cases h; cases r; exact .base .non
  | bl b => cases h; cases r; exact .base (.bl b)
  | int i => cases h; cases r; exact .base (.int i)
  | str i => cases h; cases r; exact .base (.str i)
  | tup ds =>
    cases h
    obtain ⟨a, vs, rfl, h1, h2⟩ := Rep.tup_inv r
    rcases h1 with ⟨o, h1, _⟩ | ⟨o, its, n, h1, h3, _⟩
    · exact .fTuple h1
    · exact .kTuple h1 h3
  | lst ds =>
    cases h
    obtain ⟨a, vs, rfl, h1, h2⟩ := Rep.lst_inv r
    exact .base (.lst h1.1)
  | obj C ns ds => cases h
  | hd v => cases h
  | scr ns => cases h
  | pr ns => cases h
def instB : D → String → Option Bool
  | .non, "int" => some false | .non, "bool" => some false | .non, "str" => some false | .non, "tuple" => some false | .non, "list" => some false
  | .int _, "int" => some true | .int _, "bool" => some false | .int _, "str" => some false | .int _, "tuple" => some false | .int _, "list" => some false
  | .bl _, "int" => some true | .bl _, "bool" => some true | .bl _, "str" => some false | .bl _, "tuple" => some false | .bl _, "list" => some false
  | .str _, "int" => some false | .str _, "bool" => some false | .str _, "str" => some true | .str _, "tuple" => some false | .str _, "list" => some false
  | .tup _, "int" => some false | .tup _, "bool" => some false | .tup _, "str" => some false | .tup _, "tuple" => some true | .tup _, "list" => some false
  | .lst _, "int" => some false | .lst _, "bool" => some false | .lst _, "str" => some false | .lst _, "tuple" => some false | .lst _, "list" => some true
  | _, _ => none
theorem instB_ok {d : D} {T : String} {b : Bool} (h : instB d T = some b) : ∃ n, tyD d = some n ∧ kitB n T = some b := by
  unfold instB at h
  split at h <;> first | (cases h; done) | (cases h; exact ⟨_, rfl, by decide +kernel⟩)
def cIsi (T : String) : DC := fun xs μ Φ => ∃ x b, xs = [x, .hd (.ty T)] ∧ instB x T = some b ∧ Φ (.bl b) μ
theorem rcIsi {T : String} : RC K (rIsi K) (cIsi T) := fun H μ vs ds Φ Q s r q k => by
  obtain ⟨x, b, rfl, hi, q⟩ := q
  obtain ⟨n, hn, hk⟩ := instB_ok hi
  obtain ⟨v, w, rfl, r1, r2⟩ := reps2 r
  obtain rfl := Rep.hd_inv r2
  exact ⟨v, _, _, _, b, rfl, .ty T, tyD_ok r1 hn, kit_ty hk, k _ H _ μ .refl s (.bl _ .nil) q⟩
def dApp (φa φb : DE) : DE := fun Ψ δ μ Φ => φa Ψ δ μ fun x μ1 => ∃ a ds, x = .hd (.ref a) ∧ μ1 a = some (.lst ds) ∧ φb Ψ δ μ1 fun y μ2 => ∃ es, μ2 a = some (.lst es) ∧ es.length ≤ 100000 ∧ Φ .non (sset μ2 a (.lst (es ++ [y])))
theorem own_upd {μ : Sto} {H : Hp} {a : Addr} {ds es : List D} {us : List V} (s : StoOk K μ H) (h : μ a = some (.lst ds)) (r : Reps K (sset μ a (.lst es)) (upd H a (.lst us)) us es) : Evo μ H (sset μ a (.lst es)) (upd H a (.lst us)) ∧ StoOk K (sset μ a (.lst es)) (upd H a (.lst us)) := by
  have e : Evo μ H (sset μ a (.lst es)) (upd H a (.lst us)) := .cell h fun n => n.notL h
  exact ⟨e, s.cell e ⟨us, upd_same, r⟩⟩
theorem own_evo {μ : Sto} {H : Hp} {a : Addr} {ds es : List D} {us : List V} (h : μ a = some (.lst ds)) : Evo μ H (sset μ a (.lst es)) (upd H a (.lst us)) := .cell h fun n => n.notL h
theorem sApp {B : Bx K} {ta tb : TE} {φa φb : DE} (a : SE B ta φa) (b : SE B tb φb) : SE B (tBM K "list" rAppend ta (tCons tb tNil)) (dApp φa φb) := fun σ H δ μ Φ Q S q k =>
  a σ H δ μ _ _ S q fun v H1 x μ1 S1 e1 r1 q1 => by
    obtain ⟨p, ds, rfl, hp, q1⟩ := q1
    obtain rfl := Rep.hd_inv r1
    obtain ⟨us, h1, h2⟩ := S1.sto _ _ hp
    refine ⟨.inl ⟨rfl, us, .of h1⟩, b σ H1 δ μ1 _ _ S1 q1 fun w H2 y μ2 S2 e2 r2 q2 => ?_⟩
    obtain ⟨es, hp2, hz, q2⟩ := q2
    obtain ⟨ws, h3, h4⟩ := S2.sto _ _ hp2
    refine ⟨p, ws, w, rfl, rfl, h3, Nat.lt_of_le_of_lt (by rw [h4.length]; exact hz) (by decide), ?_⟩
    have e3 : Evo μ2 H2 (sset μ2 p (.lst (es ++ [y]))) (upd H2 p (.lst (ws ++ [w]))) := own_evo hp2
    obtain ⟨e4, s4⟩ := own_upd S2.sto hp2 ((h4.append r2).mono e3)
    exact k _ _ _ _ (S2.step e4 s4) ((e1.trans e2).trans e4) (.non .nil) q2
/-- o[i] = e, o a handle of a list -/
def eSub (φo φi : DE) : XP → D → DEnv → Sto → (DEnv → Sto → Prop) → Prop := fun Ψ d δ μ Φ => φo Ψ δ μ fun x μ1 => φi Ψ δ μ1 fun y μ2 => ∃ a ds i j, x = .hd (.ref a) ∧ y = .int i ∧ μ2 a = some (.lst ds) ∧ ixN ds.length i = some j ∧ Φ δ (sset μ2 a (.lst (ds.set j d)))
theorem sSub {B : Bx K} {ta tb : TE} {φa φb : DE} (a : SE B ta φa) (b : SE B tb φb) : SG B (gSub ta tb rSetL) (eSub φa φb B.Ψ) := fun v d σ H δ μ Φ Q S r q k =>
  a σ H δ μ _ _ S q fun o H1 x μ1 S1 e1 r1 q1 => b σ H1 δ μ1 _ _ S1 q1 fun i H2 y μ2 S2 e2 r2 q2 => by
    obtain ⟨p, ds, i, j, rfl, rfl, hp, hj, q2⟩ := q2
    obtain rfl := Rep.hd_inv r1
    obtain rfl := Rep.int_inv r2
    obtain ⟨us, h1, h2⟩ := S2.sto _ _ hp
    refine ⟨p, us, i, j, rfl, rfl, h1, by rw [h2.length]; exact hj, ?_⟩
    have e3 : Evo μ2 H2 (sset μ2 p (.lst (ds.set j d))) (upd H2 p (.lst (us.set j v))) := own_evo hp
    obtain ⟨e4, s4⟩ := own_upd S2.sto hp ((h2.set ((r.mono e1).mono e2) j).mono e3)
    exact k σ _ δ _ (S2.step e4 s4) ((e1.trans e2).trans e4) q2
def dAsgS (φ φo φi : DE) : DSt := fun Ψ Δ δ μ => φ Ψ δ μ fun x μ1 => eSub φo φi Ψ x δ μ1 Δ.nx
theorem sAsgS {B : Bx K} {te ta tb : TE} {φ φa φb : DE} (e : SE B te φ) (a : SE B ta φa) (b : SE B tb φb) : SS B (tAsg te (gSub ta tb rSetL)) (dAsgS φ φa φb) := fun D Δ σ H δ μ E S q =>
  e σ H δ μ _ _ S q fun v H1 x μ1 S1 e1 r1 q1 => sSub a b v x σ H1 δ μ1 _ _ S1 r1 q1 fun σ2 H2 δ2 μ2 S2 e2 q2 => E.nx σ2 H2 δ2 μ2 S2 q2
end
end DW
set_option Elab.async false
set_option linter.all false
set_option maxRecDepth 100000
namespace DW
open PySem PySem.Spec L2
section
variable {K : Fg} {B : Bx K}
abbrev DI := XP → DEnv → Sto → (List D → Sto → Prop) → Prop
/-- the iterator hands out the items, as long as what stood still stands -/
def IterOk (K : Fg) (μ1 : Sto) (H1 : Hp) (J : It) (xs : List D) : Prop := ∀ (i : Nat) (H : Hp) (μ : Sto), StoOk K μ H → Evo μ1 H1 μ H →
  (i < xs.length → J.go i H ∧ ∀ x H', J.yld i H x H' → ∃ d, xs[i]? = some d ∧ StoOk K μ H' ∧ Evo μ H μ H' ∧ Rep K μ H' x d) ∧ (xs.length ≤ i → J.stop i H)
def SI (B : Bx K) (wi : TI) (ι : DI) : Prop := ∀ (σ : L2.St) (H : Hp) (δ : DEnv) (μ : Sto) (Φ : List D → Sto → Prop) (R : It → Hp → Prop), B.S σ H δ μ → ι B.Ψ δ μ Φ →
  (∀ xs J H' μ', B.S σ H' δ μ' → Evo μ H μ' H' → IterOk K μ' H' J xs → Φ xs μ' → R J H') → wi σ H R
def iSeqT (φ : DE) : DI := fun Ψ δ μ Φ => φ Ψ δ μ fun x μ1 => ∃ ds, x = .tup ds ∧ Φ ds μ1
def iSeqL (φ : DE) : DI := fun Ψ δ μ Φ => φ Ψ δ μ fun x μ1 => ∃ ds, x = .lst ds ∧ Φ ds μ1
theorem siT {te : TE} {φ : DE} (a : SE B te φ) : SI B (iTup K te) (iSeqT φ) := fun σ H δ μ Φ R S q k =>
  a σ H δ μ _ _ S q fun v H1 x μ1 S1 e1 r1 q1 => by
    obtain ⟨ds, rfl, q2⟩ := q1
    obtain ⟨p, vs, rfl, h1, h2⟩ := Rep.tup_inv r1
    refine ⟨p, rfl, ⟨vs, h1.sq⟩, k ds _ H1 μ1 S1 e1 (fun i H2 μ2 s2 e2 => ⟨fun hi => ?_, fun hi => ⟨vs, (h1.mono e2).sq, by rw [h2.length]; exact hi⟩⟩) q2⟩
    have hv : i < vs.length := by rw [h2.length]; exact hi
    refine ⟨⟨vs, vs[i], (h1.mono e2).sq, List.getElem?_eq_getElem hv⟩, fun x H' ⟨eH, hy⟩ => ?_⟩
    subst eH
    obtain ⟨d, hd, rd⟩ := (h2.mono e2).getV (hy vs (h1.mono e2).sq)
    exact ⟨d, hd, s2, .refl, rd⟩
theorem siL {te : TE} {φ : DE} (a : SE B te φ) : SI B (iList K te) (iSeqL φ) := fun σ H δ μ Φ R S q k =>
  a σ H δ μ _ _ S q fun v H1 x μ1 S1 e1 r1 q1 => by
    obtain ⟨ds, rfl, q2⟩ := q1
    obtain ⟨p, vs, rfl, h1, h2⟩ := Rep.lst_inv r1
    refine ⟨p, rfl, ⟨vs, h1.sq⟩, k ds _ H1 μ1 S1 e1 (fun i H2 μ2 s2 e2 => ⟨fun hi => ?_, fun hi => ⟨vs, (h1.mono e2).sq, by rw [h2.length]; exact hi⟩⟩) q2⟩
    have hv : i < vs.length := by rw [h2.length]; exact hi
    refine ⟨⟨vs, vs[i], (h1.mono e2).sq, List.getElem?_eq_getElem hv⟩, fun x H' ⟨eH, hy⟩ => ?_⟩
    subst eH
    obtain ⟨d, hd, rd⟩ := (h2.mono e2).getV (hy vs (h1.mono e2).sq)
    exact ⟨d, hd, s2, .refl, rd⟩
def rngD (lo : Int) (n : Nat) : List D := (List.range n).map fun (i : Nat) => .int (lo + (i : Int))
theorem rngD_len {lo : Int} {n : Nat} : (rngD lo n).length = n := by unfold rngD; rw [List.length_map, List.length_range]
theorem rngD_at {lo : Int} {n i : Nat} (h : i < n) : (rngD lo n)[i]? = some (.int (lo + (i : Int))) := by
  unfold rngD
  rw [List.getElem?_map, List.getElem?_range h]
  rfl
theorem iter_rng {μ : Sto} {H : Hp} {lo : Int} {n : Nat} : IterOk K μ H (Itr lo n) (rngD lo n) := fun i H2 μ2 s2 e2 => by
  rw [rngD_len]
  refine ⟨fun hi => ⟨hi, fun x H' ⟨eH, hy⟩ => ?_⟩, fun hi => hi⟩
  subst eH hy
  exact ⟨_, rngD_at hi, s2, .refl, .int _ .nil⟩
def iR1 (φ : DE) : DI := fun Ψ δ μ Φ => φ Ψ δ μ fun x μ1 => ∃ j, x = .int j ∧ j < 4611686018427387904 ∧ -4611686018427387904 ≤ j ∧ Φ (rngD 0 j.toNat) μ1
theorem siR1 {te : TE} {φ : DE} (a : SE B te φ) : SI B (iRng1 (tCons te tNil)) (iR1 φ) := fun σ H δ μ Φ R S q k =>
  a σ H δ μ _ _ S q fun v H1 x μ1 S1 e1 r1 q1 => by
    obtain ⟨j, rfl, h1, h2, q2⟩ := q1
    obtain rfl := Rep.int_inv r1
    exact ⟨j, rfl, by omega, by omega, k _ _ H1 μ1 S1 e1 iter_rng q2⟩
def iR2 (φ φ' : DE) : DI := fun Ψ δ μ Φ => φ Ψ δ μ fun x μ1 => φ' Ψ δ μ1 fun y μ2 => ∃ i j, x = .int i ∧ y = .int j ∧ (-4611686018427387904 ≤ i ∧ i < 4611686018427387904 ∧ -4611686018427387904 ≤ j ∧ j < 4611686018427387904) ∧ Φ (rngD i (j - i).toNat) μ2
theorem siR2 {te tf : TE} {φ φ' : DE} (a : SE B te φ) (b : SE B tf φ') : SI B (iRng2 (tCons te (tCons tf tNil))) (iR2 φ φ') := fun σ H δ μ Φ R S q k =>
  a σ H δ μ _ _ S q fun v H1 x μ1 S1 e1 r1 q1 => b σ H1 δ μ1 _ _ S1 q1 fun w H2 y μ2 S2 e2 r2 q2 => by
    obtain ⟨i, j, rfl, rfl, h, q2⟩ := q2
    obtain rfl := Rep.int_inv r1
    obtain rfl := Rep.int_inv r2
    exact ⟨i, j, rfl, by omega, k _ _ H2 μ2 S2 (e1.trans e2) iter_rng q2⟩
/-- zip of two tuples -/
def iZipT (φ φ' : DE) : DI := fun Ψ δ μ Φ => φ Ψ δ μ fun x μ1 => φ' Ψ δ μ1 fun y μ2 => ∃ xs ys, x = .tup xs ∧ y = .tup ys ∧ Φ ((xs.zip ys).map fun p => .pr [p.1, p.2]) μ2
theorem siZipT {te tf : TE} {φ φ' : DE} (a : SE B te φ) (b : SE B tf φ') : SI B (RZ.iZipA K (tCons te (tCons tf tNil))) (iZipT φ φ') := fun σ H δ μ Φ R S q k =>
  a σ H δ μ _ _ S q fun v H1 x μ1 S1 e1 r1 q1 => b σ H1 δ μ1 _ _ S1 q1 fun w H2 y μ2 S2 e2 r2 q2 => by
    obtain ⟨xs, ys, rfl, rfl, q2⟩ := q2
    obtain ⟨p, vs, rfl, h1, h2⟩ := Rep.tup_inv (r1.mono e2)
    obtain ⟨p', us, rfl, h3, h4⟩ := Rep.tup_inv r2
    refine ⟨p, p', vs, us, rfl, .inr ⟨h1.sq, h3.sq, k _ _ H2 μ2 S2 (e1.trans e2) (fun i H3 μ3 s3 e3 => ?_) q2⟩⟩
    rw [List.length_map, List.length_zip]
    have l1 := h2.length
    have l2 := h4.length
    refine ⟨fun hi => ?_, fun hi => ⟨vs, us, (h1.mono e3).sq, (h3.mono e3).sq, by omega⟩⟩
    have hv : i < vs.length := by omega
    have hu : i < us.length := by omega
    refine ⟨⟨vs, us, vs[i], us[i], (h1.mono e3).sq, (h3.mono e3).sq, List.getElem?_eq_getElem hv, List.getElem?_eq_getElem hu⟩, fun z H' ⟨T, v1, v2, ez, hT, eH, hy1, hy2⟩ => ?_⟩
    subst ez eH
    obtain ⟨d1, hd1, rd1⟩ := (h2.mono e3).getV (hy1 vs (h1.mono e3).sq)
    obtain ⟨d2, hd2, rd2⟩ := (h4.mono e3).getV (hy2 us (h3.mono e3).sq)
    refine ⟨.pr [d1, d2], ?_, s3.new hT, .new hT, rep_tup s3 hT (.cons rd1 (.cons rd2 .nil))⟩
    rw [List.getElem?_map, (List.getElem?_zip_eq_some (z := (d1, d2))).mpr ⟨hd1, hd2⟩]
    rfl
/-- a text, sign by sign -/
def iText (φ : DE) : DI := fun Ψ δ μ Φ => φ Ψ δ μ fun x μ1 => ∃ s, x = .str s ∧ Φ (s.cps.toList.map fun c => .str ⟨#[c]⟩) μ1
/-- a loop -/
def dFor (ι : DI) (γ : DG) (ω : DSt) : DSt := fun Ψ Δ δ μ => ι Ψ δ μ fun xs μ1 => ∃ W : Nat → DEnv → Sto → Prop, W 0 δ μ1 ∧
  (∀ i d δ' μ', xs[i]? = some d → W i δ' μ' → γ d δ' μ' fun δ2 μ2 => ω Ψ { Δ with nx := W (i + 1), ct := W (i + 1), bk := Δ.nx } δ2 μ2) ∧ ∀ δ' μ', W xs.length δ' μ' → Δ.nx δ' μ'
theorem sFor {wi : TI} {g : TG} {tb : TS} {ι : DI} {γ : DG} {ω : DSt} (a : SI B wi ι) (b : ∀ H1 μ1 e, SG (B.re H1 μ1 e) g γ) (c : ∀ H1 μ1 e, SS (B.re H1 μ1 e) tb ω) : SS B (tFor wi g tb) (dFor ι γ ω) := fun D Δ σ H δ μ E S q =>
  a σ H δ μ _ _ S q fun xs J H1 μ1 S1 e1 it q1 => by
    obtain ⟨W, w0, ws, wd⟩ := q1
    refine ⟨fun i m σ' H' => m = xs.length - i ∧ i ≤ xs.length ∧ ∃ δ' μ', (B.re H1 μ1 S1.evo).S σ' H' δ' μ' ∧ W i δ' μ', ⟨xs.length, by simp, Nat.zero_le _, δ, μ1, ⟨.refl, S1.sto, S1.env⟩, w0⟩, ?_⟩
    rintro i m σ' H' ⟨rfl, hi, δ', μ', S', w⟩
    by_cases hlt : i < xs.length
    · obtain ⟨hgo, hy⟩ := (it i H' μ' S'.sto S'.evo).1 hlt
      refine .inr ⟨hgo, fun σ2 H2 => ∃ δ2 μ2, (B.re H1 μ1 S1.evo).S σ2 H2 δ2 μ2 ∧ W (i + 1) δ2 μ2, fun σ2 H2 ⟨δ2, μ2, S2, w2⟩ => ⟨xs.length - (i + 1), by omega, rfl, by omega, δ2, μ2, S2, w2⟩, fun x H2 y => ?_⟩
      obtain ⟨d, hd, s2, e2, r2⟩ := hy x H2 y
      refine b H1 μ1 S1.evo x d σ' H2 δ' μ' _ _ (S'.step e2 s2) r2 (ws i d δ' μ' hd w) fun σ3 H3 δ3 μ3 S3 e3 q3 => ?_
      exact c H1 μ1 S1.evo _ { Δ with nx := W (i + 1), ct := W (i + 1), bk := Δ.nx } σ3 H3 δ3 μ3 ⟨fun σ4 H4 δ4 μ4 S4 q4 => ⟨δ4, μ4, S4, q4⟩, fun v4 H4 d4 μ4 σ4 δ4 S4 r4 q4 => E.rt v4 H4 d4 μ4 σ4 δ4 ⟨S1.evo.trans S4.evo, S4.sto, S4.env⟩ r4 q4, fun σ4 H4 δ4 μ4 S4 q4 => E.nx σ4 H4 δ4 μ4 ⟨S1.evo.trans S4.evo, S4.sto, S4.env⟩ q4, fun σ4 H4 δ4 μ4 S4 q4 => ⟨δ4, μ4, S4, q4⟩⟩ S3 q3
    · have e : i = xs.length := by omega
      subst e
      exact .inl ⟨(it _ H' μ' S'.sto S'.evo).2 (Nat.le_refl _), E.nx σ' H' δ' μ' ⟨S1.evo.trans S'.evo, S'.sto, S'.env⟩ (wd δ' μ' w)⟩
def dwipe (δ : DEnv) : List Nat → DEnv
  | [] => δ
  | v :: vs => (dwipe δ vs).set v none
theorem EnvOk.unset {μ : Sto} {H : Hp} {σ : L2.St} {δ : DEnv} (h : EnvOk K μ H σ δ) (j : Nat) : EnvOk K μ H (σ.set j none) (δ.set j none) := ⟨by rw [List.length_set, List.length_set]; exact h.len, fun i x q => by
  rw [List.getElem?_set] at q
  by_cases hj : j = i
  · rw [if_pos hj] at q
    split at q <;> cases q
  · rw [if_neg hj] at q
    obtain ⟨v, e, r⟩ := h.at_ i x q
    exact ⟨v, by rw [List.getElem?_set, if_neg hj]; exact e, r⟩⟩
theorem EnvOk.wipe {μ : Sto} {H : Hp} {σ : L2.St} {δ : DEnv} (h : EnvOk K μ H σ δ) : ∀ vs, EnvOk K μ H (L2.wipe σ vs) (dwipe δ vs)
  | [] => h
  | v :: vs => (EnvOk.wipe h vs).unset v
theorem wipe_get (σ : L2.St) : ∀ (vs : List Nat) (i : Nat), (L2.wipe σ vs)[i]? = if i ∈ vs ∧ i < σ.length then some none else σ[i]?
  | [], i => by simp [L2.wipe]
  | v :: vs, i => by
    have ih := wipe_get σ vs i
    show ((L2.wipe σ vs).set v none)[i]? = _
    rw [List.getElem?_set, L2.wipe_length, ih]
    by_cases h : v = i
    · subst h
      rw [if_pos rfl]
      by_cases hl : v < σ.length
      · rw [if_pos hl, if_pos ⟨List.mem_cons_self, hl⟩]
      · rw [if_neg hl, if_neg fun z => hl z.2, List.getElem?_eq_none (by omega)]
    · rw [if_neg h]
      have : (i ∈ v :: vs ∧ i < σ.length) ↔ (i ∈ vs ∧ i < σ.length) := by
        constructor
        · rintro ⟨a, b⟩
          rcases List.mem_cons.mp a with e | e
          · exact absurd e.symm h
          · exact ⟨e, b⟩
        · rintro ⟨a, b⟩
          exact ⟨List.mem_cons_of_mem _ a, b⟩
      simp only [this]
theorem wipe_set {σ : L2.St} {vs : List Nat} {j : Nat} {x : Option V} (h : j ∈ vs) : L2.wipe (σ.set j x) vs = L2.wipe σ vs := by
  apply List.ext_getElem?
  intro i
  rw [wipe_get, wipe_get, List.length_set, List.getElem?_set]
  by_cases hi : i ∈ vs ∧ i < σ.length
  · rw [if_pos hi, if_pos hi]
  · rw [if_neg hi, if_neg hi]
    by_cases e : j = i
    · subst e
      rw [if_pos rfl, if_neg (fun z => hi ⟨h, z⟩), List.getElem?_eq_none (Nat.le_of_not_lt fun z => hi ⟨h, z⟩)]
    · rw [if_neg e]
theorem wipe_wipe {σ : L2.St} {vs : List Nat} : L2.wipe (L2.wipe σ vs) vs = L2.wipe σ vs := by
  apply List.ext_getElem?
  intro i
  rw [wipe_get, L2.wipe_length, wipe_get]
  split <;> rfl
/-- a target stores nothing but own names -/
def GW (vs : List Nat) (g : TG) : Prop := ∀ (v : V) (σ W : L2.St) (H : Hp) (Q : L2.St → Hp → Prop), L2.wipe σ vs = W → g v σ H Q → g v σ H fun σ2 H2 => L2.wipe σ2 vs = W ∧ Q σ2 H2
def GWs (vs : List Nat) (g : TGs) : Prop := ∀ (v : List V) (σ W : L2.St) (H : Hp) (Q : L2.St → Hp → Prop), L2.wipe σ vs = W → g v σ H Q → g v σ H fun σ2 H2 => L2.wipe σ2 vs = W ∧ Q σ2 H2
theorem gwName {vs : List Nat} {j : Nat} (h : j ∈ vs) : GW vs (gName j) := fun v σ W H Q e q => ⟨by rw [wipe_set h]; exact e, q⟩
theorem gwNil {vs : List Nat} : GWs vs gNil := fun v σ W H Q e q => ⟨q.1, e, q.2⟩
theorem gwCons {vs : List Nat} {g : TG} {gs : TGs} (mono : ∀ v σ H (Q Q' : L2.St → Hp → Prop), (∀ a b, Q a b → Q' a b) → g v σ H Q → g v σ H Q') (a : GW vs g) (b : GWs vs gs) : GWs vs (gCons g gs) := fun v σ W H Q e q => by
  obtain ⟨x, r, rfl, q⟩ := q
  exact ⟨x, r, rfl, mono _ _ _ _ _ (fun σ2 H2 ⟨e2, q2⟩ => b r σ2 W H2 Q e2 q2) (a x σ W H _ e q)⟩
theorem gwConsN {vs : List Nat} {j : Nat} {gs : TGs} (h : j ∈ vs) (b : GWs vs gs) : GWs vs (gCons (gName j) gs) := gwCons (fun _ _ _ _ _ f q => f _ _ q) (gwName h) b
theorem gwTup {vs : List Nat} {n : Nat} {gs : TGs} (b : GWs vs gs) : GW vs (gTup K n gs) := fun v σ W H Q e q => by
  obtain ⟨a, xs, rfl, h1, h2, q⟩ := q
  exact ⟨a, xs, rfl, h1, h2, b xs σ W H Q e q⟩
def dLc (ι : DI) (γ : DG) (θ : DT) (φ : DE) (vs : List Nat) : DE := fun Ψ δ μ Φ => ι Ψ δ μ fun xs μ1 => ∀ p, μ1 p = none → ∃ W : Nat → Sto → Prop, W 0 (sset μ1 p (.lst [])) ∧
  (∀ i d μ2, xs[i]? = some d → W i μ2 → γ d (dwipe δ vs) μ2 fun δ3 μ3 => θ Ψ δ3 μ3 fun b μ4 =>
    (b = true → φ Ψ δ3 μ4 fun y μ5 => ∃ acc, μ5 p = some (.lst acc) ∧ acc.length ≤ 100000 ∧ W (i + 1) (sset μ5 p (.lst (acc ++ [y])))) ∧ (b = false → W (i + 1) μ4)) ∧
  ∀ μ2, W xs.length μ2 → ∃ acc, μ2 p = some (.lst acc) ∧ Φ (.lst acc) (sdel μ2 p)
theorem sLc {wi : TI} {g : TG} {tt : TT} {te : TE} {vs : List Nat} {ι : DI} {γ : DG} {θ : DT} {φ : DE} (a : SI B wi ι) (w : GW vs g) (b : ∀ H1 μ1 e, SG (B.re H1 μ1 e) g γ) (c : ∀ H1 μ1 e, ST (B.re H1 μ1 e) tt θ) (d : ∀ H1 μ1 e, SE (B.re H1 μ1 e) te φ) :
    SE B (tLc wi g tt te vs) (dLc ι γ θ φ vs) := fun σ H δ μ Φ Q S q k =>
  a σ H δ μ _ _ S q fun xs J H1 μ1 S1 e1 it q1 => fun p hp => by
    have hμp : μ1 p = none := S1.sto.fresh hp
    obtain ⟨W, w0, ws, wd⟩ := q1 p hμp
    refine ⟨fun i m H' => m = xs.length - i ∧ i ≤ xs.length ∧ ∃ μ', Evo μ1 H1 μ' H' ∧ StoOk K μ' H' ∧ W i μ', ⟨xs.length, by simp, Nat.zero_le _, _, .newC S1.sto hp, sto_own S1.sto hp .nil, w0⟩, ?_⟩
    rintro i m H' ⟨rfl, hi, μ', e', s', wi'⟩
    by_cases hlt : i < xs.length
    · obtain ⟨hgo, hy⟩ := (it i H' μ' s' e').1 hlt
      refine .inr ⟨hgo, fun H2 => ∃ μ2, Evo μ1 H1 μ2 H2 ∧ StoOk K μ2 H2 ∧ W (i + 1) μ2, fun H2 ⟨μ2, e2, s2, w2⟩ => ⟨xs.length - (i + 1), by omega, rfl, by omega, μ2, e2, s2, w2⟩, fun x H2 y => ?_⟩
      obtain ⟨dd, hd, s2, e2, r2⟩ := hy x H2 y
      have S2 : (B.re H1 μ1 S1.evo).S (L2.wipe σ vs) H2 (dwipe δ vs) μ' := ⟨e'.trans e2, s2, ((S1.env.mono e').mono e2).wipe vs⟩
      refine w x (L2.wipe σ vs) (L2.wipe σ vs) H2 _ wipe_wipe ?_
      refine b H1 μ1 S1.evo x dd (L2.wipe σ vs) H2 (dwipe δ vs) μ' _ _ S2 r2 (ws i dd μ' hd wi') fun σ3 H3 δ3 μ3 S3 e3 q3 => ?_
      refine c H1 μ1 S1.evo σ3 H3 δ3 μ3 _ _ S3 q3 fun b4 H4 μ4 S4 e4 q4 => ?_
      cases b4 with
      | true =>
        rw [if_pos rfl]
        refine d H1 μ1 S1.evo σ3 H4 δ3 μ4 _ _ S4 (q4.1 rfl) fun v5 H5 y5 μ5 S5 e5 r5 q5 => ?_
        obtain ⟨acc, hacc, hz, w5⟩ := q5
        obtain ⟨us, h5, hr5⟩ := S5.sto _ _ hacc
        have e6 : Evo μ5 H5 (sset μ5 p (.lst (acc ++ [y5]))) (upd H5 p (.lst (us ++ [v5]))) := own_evo hacc
        obtain ⟨e7, s7⟩ := own_upd S5.sto hacc ((hr5.append r5).mono e6)
        exact ⟨us, h5, Nat.lt_of_le_of_lt (by rw [hr5.length]; exact hz) (by decide), _, S5.evo.trans e7, s7, w5⟩
      | false =>
        rw [if_neg Bool.false_ne_true]
        exact ⟨μ4, S4.evo, S4.sto, q4.2 rfl⟩
    · have e : i = xs.length := by omega
      subst e
      obtain ⟨acc, hacc, q2⟩ := wd μ' wi'
      obtain ⟨us, h5, hr5⟩ := s' _ _ hacc
      refine .inl ⟨(it _ H' μ' s' e').2 (Nat.le_refl _), ?_⟩
      have e8 : Evo μ1 H1 (sdel μ' p) H' := e'.trans sdel_sub.evo
      exact k (.ref p) H' (.lst acc) (sdel μ' p) (S1.step e8 (sdel_sub.sto s')) (e1.trans e8) (.lst ⟨h5, .of sdel_same⟩ (hr5.mono sdel_sub.evo) .nil) q2
def dYes : DT := fun _ _ μ Φ => Φ true μ
theorem sYes : ST B tYes dYes := fun σ H δ μ Φ Q S q k => k true H μ S .refl q
abbrev Con := List D → Sto → DK → (XD → Sto → Prop) → Prop
def spOf (K : Fg) (c : Con) : Sp := fun vs H Q E => ∃ μ ds Φ Ψ, StoOk K μ H ∧ Reps K μ H vs ds ∧ c ds μ Φ Ψ ∧
  (∀ v H' d μ', Evo μ H μ' H' → StoOk K μ' H' → Rep K μ' H' v d → Φ d μ' → Q v H') ∧
  ∀ cls dd H' x μ', Evo μ H μ' H' → StoOk K μ' H' → RepX K μ' H' cls dd x → Ψ x μ' → E cls dd H'
/-- a call that raises nothing -/
def dCall (c : Con) (ψ : DA) : DE := fun Ψ δ μ Φ => ψ Ψ δ μ fun xs μ1 => c xs μ1 Φ fun _ _ => False
theorem sCall {c : Con} {tas : TA} {ψ : DA} (a : SA B tas ψ) : SE B (tCall (spOf K c) [] E0 tas) (dCall c ψ) := fun σ H δ μ Φ Q S q k =>
  a σ H δ μ _ _ S q fun vs H1 xs μ1 S1 e1 r1 q1 => by
    rw [List.append_nil]
    exact ⟨μ1, xs, Φ, fun _ _ => False, S1.sto, r1, q1, fun v H2 d μ2 e2 s2 r2 q2 => k v H2 d μ2 (S1.step e2 s2) (e1.trans e2) r2 q2, fun _ _ _ _ _ _ _ _ z => z⟩
/-- a call that may raise -/
def dCallS (c : Con) (ψ : DA) : DE := fun Ψ δ μ Φ => ψ Ψ δ μ fun xs μ1 => c xs μ1 Φ fun x μ2 => Ψ x δ μ2
theorem sCallS {c : Con} {tas : TA} {ψ : DA} (a : SA B tas ψ) : SE B (tCallS (spOf K c) (WE B.W) tas) (dCallS c ψ) := fun σ H δ μ Φ Q S q k =>
  a σ H δ μ _ _ S q fun vs H1 xs μ1 S1 e1 r1 q1 =>
    ⟨μ1, xs, Φ, fun x μ2 => B.Ψ x δ μ2, S1.sto, r1, q1, fun v H2 d μ2 e2 s2 r2 q2 => k v H2 d μ2 (S1.step e2 s2) (e1.trans e2) r2 q2, fun cls dd H2 x μ2 e2 s2 r2 q2 => B.hW cls dd σ H2 x δ μ2 (S1.step e2 s2) r2 q2⟩
/-- raise C('..'), a class without own fields -/
def dRaise0 (C : Addr) : DSt := fun Ψ _ δ μ => Ψ (.mk C none) δ μ
theorem sRaise0 {C : Addr} : SS B (fun _ σ H => (fun (_ : L2.St) (H : Hp) (Q : XK) => Q (.ref C) none H) σ H fun cls d H' => B.W cls d σ H') (dRaise0 C) := fun D Δ σ H δ μ E S q => B.hW _ _ σ H (.mk C none) δ μ S ⟨rfl, rfl⟩ q
def dstart (N : List Str) (ds : List D) : DEnv := ds.map some ++ List.replicate (N.length - ds.length) none
theorem env_start {μ : Sto} {H : Hp} {N : List Str} {vs : List V} {ds : List D} (r : Reps K μ H vs ds) : EnvOk K μ H (L2.start N vs) (dstart N ds) := by
  have hl := r.length
  refine ⟨by unfold L2.start dstart; simp [hl], fun i d q => ?_⟩
  unfold dstart at q
  unfold L2.start
  by_cases h : i < ds.length
  · rw [List.getElem?_append_left (by simpa using h), List.getElem?_map] at q
    cases e : ds[i]? with
    | none => rw [e] at q; cases q
    | some y =>
      rw [e] at q
      cases q
      obtain ⟨v, ev, rv⟩ := r.get e
      exact ⟨v, by rw [List.getElem?_append_left (by simpa [hl] using h), List.getElem?_map, ev]; rfl, rv⟩
  · rw [List.getElem?_append_right (by simpa using h), List.getElem?_replicate] at q
    split at q <;> cases q
/-- what a def's body must bring about -/
abbrev goalE (Φ : DK) : DEnds := ⟨fun _ μ' => ∃ μ2, Sub μ2 μ' ∧ Φ .non μ2, fun d μ' => ∃ μ2, Sub μ2 μ' ∧ Φ d μ2, fun _ _ => False, fun _ _ => False⟩
abbrev goalX (Ψ : XD → Sto → Prop) : XP := fun x _ μ' => ∃ μ2, Sub μ2 μ' ∧ Ψ x μ2
theorem RepX.mono {μ μ' : Sto} {H H' : Hp} {cls : Value} {dd : Option Addr} {x : XD} (e : Evo μ H μ' H') (h : RepX K μ H cls dd x) : RepX K μ' H' cls dd x := by
  obtain ⟨C, fs⟩ := x
  cases fs with
  | none => exact h
  | some f =>
    obtain ⟨ns, ds⟩ := f
    obtain ⟨h1, d, us, h2, h3, h4, h5, h6⟩ := h
    exact ⟨h1, d, us, h2, (e.st _ _ h3 h4).1, (e.st _ _ h3 h4).2, h5, h6.mono e⟩
end
end DW
set_option Elab.async false
set_option linter.all false
set_option maxRecDepth 100000
namespace DW
open PySem PySem.Spec L2
section
variable {α : Type} {μ μ' : Sto} {Φ : DK} {i j : Int} {x y : D} {xs ys ds : List D} {δ : DEnv} {Ψ : XP} {Δ : DEnds} {b : Bool} {s t : Str}
theorem ex_some {a : α} {P : α → Prop} : (∃ d, some (some a) = some (some d) ∧ P d) = P a := propext ⟨fun ⟨d, e, p⟩ => by cases e; exact p, fun p => ⟨a, rfl, p⟩⟩
theorem w_I0 {g : Int → Int → D} : oI0 g (.int i) (.int j) μ Φ = Φ (g i j) μ := propext ⟨fun ⟨a, b, e1, e2, q⟩ => by cases e1; cases e2; exact q, fun q => ⟨i, j, rfl, rfl, q⟩⟩
theorem w_I {C : Int → Int → Prop} {g : Int → Int → D} : oI C g (.int i) (.int j) μ Φ = (C i j ∧ Φ (g i j) μ) := propext ⟨fun ⟨a, b, e1, e2, q⟩ => by cases e1; cases e2; exact q, fun q => ⟨i, j, rfl, rfl, q⟩⟩
theorem w_uI {g : Int → Int} : uI g (.int i) μ Φ = Φ (.int (g i)) μ := propext ⟨fun ⟨a, e1, q⟩ => by cases e1; exact q, fun q => ⟨i, rfl, q⟩⟩
theorem w_int : cInt [.int i] μ Φ = Φ (.int i) μ := propext (Iff.intro (by
  rintro ⟨a, q⟩
  rcases q with ⟨e, q⟩ | ⟨_, e, q⟩
  · cases e; exact q
  · cases e) (fun q => ⟨i, .inl ⟨rfl, q⟩⟩))
theorem w_bl {P : Bool → Prop} : (∃ c, D.bl b = .bl c ∧ P c) = P b := propext ⟨fun ⟨c, e, q⟩ => by cases e; exact q, fun q => ⟨b, rfl, q⟩⟩
theorem w_isi {T : String} : cIsi T [x, .hd (.ty T)] μ Φ = ∃ b, instB x T = some b ∧ Φ (.bl b) μ := propext ⟨fun ⟨y, b, e, q⟩ => by cases e; exact ⟨b, q⟩, fun ⟨b, q⟩ => ⟨x, b, rfl, q⟩⟩
theorem w_someb {P : Bool → Prop} : (∃ c, some b = some c ∧ P c) = P b := propext ⟨fun ⟨c, e, q⟩ => by cases e; exact q, fun q => ⟨b, rfl, q⟩⟩
theorem w_eqI : oEq (.int i) (.int j) μ Φ = Φ (.bl (decide (i = j))) μ := w_someb
theorem w_neI : oNe (.int i) (.int j) μ Φ = Φ (.bl (!decide (i = j))) μ := w_someb
theorem w_eqS : oEq (.str s) (.str t) μ Φ = Φ (.bl (decide (s = t))) μ := w_someb
theorem w_neS : oNe (.str s) (.str t) μ Φ = Φ (.bl (!decide (s = t))) μ := w_someb
theorem w_lenT : cLen [.tup ds] μ Φ = Φ (.int ds.length) μ := propext ⟨fun ⟨x, es, e, h, q⟩ => by cases e; cases h; exact q, fun q => ⟨_, _, rfl, .tup ds, q⟩⟩
theorem w_lenL : cLen [.lst ds] μ Φ = Φ (.int ds.length) μ := propext ⟨fun ⟨x, es, e, h, q⟩ => by cases e; cases h; exact q, fun q => ⟨_, _, rfl, .lst ds, q⟩⟩
theorem w_lenS {ns : List Int} : cLen [.scr ns] μ Φ = Φ (.int ns.length) μ := propext ⟨fun ⟨x, es, e, h, q⟩ => by cases e; cases h; rw [List.length_map] at q; exact q, fun q => ⟨_, _, rfl, .scr ns, by rw [List.length_map]; exact q⟩⟩
theorem w_tupL : cTuple [.lst ds] μ Φ = Φ (.tup ds) μ := propext ⟨fun ⟨x, es, e, h, q⟩ => by cases e; cases h; exact q, fun q => ⟨_, _, rfl, .lst ds, q⟩⟩
theorem w_tupT : cTuple [.tup ds] μ Φ = Φ (.tup ds) μ := propext ⟨fun ⟨x, es, e, h, q⟩ => by cases e; cases h; exact q, fun q => ⟨_, _, rfl, .tup ds, q⟩⟩
theorem w_ixT : oIxT (.tup ds) (.int i) μ Φ = ∃ d, atI ds i = some d ∧ Φ d μ := propext ⟨fun ⟨x, es, d, e1, e2, q⟩ => by cases e1; cases e2; exact ⟨d, q⟩, fun ⟨d, q⟩ => ⟨_, _, d, rfl, rfl, q⟩⟩
theorem w_ixL : oIxL (.lst ds) (.int i) μ Φ = ∃ d, atI ds i = some d ∧ Φ d μ := propext ⟨fun ⟨x, es, d, e1, _, e2, q⟩ => by cases e1; cases e2; exact ⟨d, q⟩, fun ⟨d, q⟩ => ⟨_, _, d, .lst ds, rfl, rfl, q⟩⟩
theorem w_ixS {ns : List Int} : oIxL (.scr ns) (.int i) μ Φ = ∃ d, atI (ns.map D.int) i = some d ∧ Φ d μ := propext ⟨fun ⟨x, es, d, e1, _, e2, q⟩ => by cases e1; cases e2; exact ⟨d, q⟩, fun ⟨d, q⟩ => ⟨_, _, d, .scr ns, rfl, rfl, q⟩⟩
theorem w_catT : oCatT (.tup xs) (.tup ys) μ Φ = (xs.length + ys.length ≤ 100000 ∧ Φ (.tup (xs ++ ys)) μ) := propext ⟨fun ⟨x, es, e1, e2, q⟩ => by cases e1; cases e2; exact q, fun q => ⟨_, _, rfl, rfl, q⟩⟩
theorem w_catL : oCatL (.lst xs) (.lst ys) μ Φ = (xs.length + ys.length ≤ 100000 ∧ Φ (.lst (xs ++ ys)) μ) := propext ⟨fun ⟨x, es, e1, e2, q⟩ => by cases e1; cases e2; exact q, fun q => ⟨_, _, rfl, rfl, q⟩⟩
theorem w_all {bs : List Bool} : cAll [.lst (bs.map .bl)] μ Φ = Φ (.bl (bs.all id)) μ := propext (Iff.intro (by
  rintro ⟨cs, e, q⟩
  have e2 : bs = cs := by
    injection e with e _
    injection e with e
    exact (List.map_inj_right (fun _ _ z => by cases z; rfl)).mp e
  subst e2
  exact q) (fun q => ⟨bs, rfl, q⟩))
theorem w_any {bs : List Bool} : cAny [.lst (bs.map .bl)] μ Φ = Φ (.bl (bs.any id)) μ := propext (Iff.intro (by
  rintro ⟨cs, e, q⟩
  have e2 : bs = cs := by
    injection e with e _
    injection e with e
    exact (List.map_inj_right (fun _ _ z => by cases z; rfl)).mp e
  subst e2
  exact q) (fun q => ⟨bs, rfl, q⟩))
theorem w_min2 : cMin2 [.int i, .int j] μ Φ = Φ (.int (if j < i then j else i)) μ := propext ⟨fun ⟨a, b, e, q⟩ => by cases e; exact q, fun q => ⟨_, _, rfl, q⟩⟩
theorem w_divmod : cDivmod [.int i, .int j] μ Φ = (CDivP i j ∧ Φ (.pr [.int (i / j), .int (i % j)]) μ) := propext ⟨fun ⟨a, b, e, q⟩ => by cases e; exact q, fun q => ⟨_, _, rfl, q⟩⟩
theorem w_listS {ns : List Int} : cList [.scr ns] μ Φ = Φ (.lst (ns.map .int)) μ := propext ⟨fun ⟨x, es, e, h, q⟩ => by cases e; cases h; exact q, fun q => ⟨_, _, rfl, .scr ns, q⟩⟩
theorem w_listL : cList [.lst ds] μ Φ = Φ (.lst ds) μ := propext ⟨fun ⟨x, es, e, h, q⟩ => by cases e; cases h; exact q, fun q => ⟨_, _, rfl, .lst ds, q⟩⟩
theorem w_listT : cList [.tup ds] μ Φ = Φ (.lst ds) μ := propext ⟨fun ⟨x, es, e, h, q⟩ => by cases e; cases h; exact q, fun q => ⟨_, _, rfl, .tup ds, q⟩⟩
theorem w_isN {x : D} : oIsN x .non μ Φ = ∃ b, isNone x = some b ∧ Φ (.bl b) μ := propext ⟨fun ⟨_, q⟩ => q, fun q => ⟨rfl, q⟩⟩
theorem w_notN {x : D} : oNotN x .non μ Φ = ∃ b, isNone x = some b ∧ Φ (.bl (!b)) μ := propext ⟨fun ⟨_, q⟩ => q, fun q => ⟨rfl, q⟩⟩
section
variable {φ φa φb φc : DE} {γ : DG} {ω ζ : DSt} {θ ϑ : DT} {ψ : DA} {ρ ρ' : DO} {σ : DU} {κ : DC} {c : Con} {n : Nat} {C : Addr} {d : D} {Th : Bool → Sto → Prop} {Ls : List D → Sto → Prop} {Pn : DEnv → Sto → Prop} {η : List D → DEnv → Sto → (DEnv → Sto → Prop) → Prop} {ol oh : XP → DEnv → Sto → (Option Int → Sto → Prop) → Prop} {Xo : Option Int → Sto → Prop}
theorem u_seq : dSeq ω ζ Ψ Δ δ μ = ω Ψ { Δ with nx := ζ Ψ Δ } δ μ := rfl
theorem u_asg : dAsg φ γ Ψ Δ δ μ = φ Ψ δ μ fun x μ1 => γ x δ μ1 Δ.nx := rfl
theorem u_asgS : dAsgS φ φa φb Ψ Δ δ μ = φ Ψ δ μ fun x μ1 => eSub φa φb Ψ x δ μ1 Δ.nx := rfl
theorem u_ret : dRet φ Ψ Δ δ μ = φ Ψ δ μ Δ.rt := rfl
theorem u_retN : dRetN Ψ Δ δ μ = Δ.rt .non μ := rfl
theorem u_if : dIfS θ ω ζ Ψ Δ δ μ = θ Ψ δ μ fun b μ1 => (b = true → ω Ψ Δ δ μ1) ∧ (b = false → ζ Ψ Δ δ μ1) := rfl
theorem u_next : dNext Ψ Δ δ μ = Δ.nx δ μ := rfl
theorem u_break : dBreak Ψ Δ δ μ = Δ.bk δ μ := rfl
theorem u_cont : dCont Ψ Δ δ μ = Δ.ct δ μ := rfl
theorem u_drop : dDrop φ Ψ Δ δ μ = φ Ψ δ μ fun _ μ1 => Δ.nx δ μ1 := rfl
theorem u_raise : dRaise0 C Ψ Δ δ μ = Ψ (.mk C none) δ μ := rfl
theorem u_aug : dAug n φ ρ Ψ Δ δ μ = ∃ x, δ[n]? = some (some x) ∧ φ Ψ δ μ fun y μ1 => ρ x y μ1 fun z μ2 => Δ.nx (δ.set n (some z)) μ2 := rfl
theorem u_var : dVar n Ψ δ μ Φ = ∃ d, δ[n]? = some (some d) ∧ Φ d μ := rfl
theorem u_rest : dRest n Ψ δ μ Φ = ∃ a ds, δ[n]? = some (some (.hd (.ref a))) ∧ μ a = some (.lst ds) ∧ Φ (.lst ds) (sset μ a (.frz ds)) := rfl
theorem u_c : dC d Ψ δ μ Φ = Φ d μ := rfl
theorem u_op : dOp ρ φa φb Ψ δ μ Φ = φa Ψ δ μ fun x μ1 => φb Ψ δ μ1 fun y μ2 => ρ x y μ2 Φ := rfl
theorem u_un : dUn σ φa Ψ δ μ Φ = φa Ψ δ μ fun x μ1 => σ x μ1 Φ := rfl
theorem u_test : dTest φ Ψ δ μ Th = φ Ψ δ μ fun x μ1 => ∃ b, x = .bl b ∧ Th b μ1 := rfl
theorem u_and : dAnd θ ϑ Ψ δ μ Th = θ Ψ δ μ fun b μ1 => (b = true → ϑ Ψ δ μ1 Th) ∧ (b = false → Th false μ1) := rfl
theorem u_or : dOr θ ϑ Ψ δ μ Th = θ Ψ δ μ fun b μ1 => (b = true → Th true μ1) ∧ (b = false → ϑ Ψ δ μ1 Th) := rfl
theorem u_not : dNot θ Ψ δ μ Th = θ Ψ δ μ fun b μ1 => Th (!b) μ1 := rfl
theorem u_yes : dYes Ψ δ μ Th = Th true μ := rfl
theorem u_andV : dAndV φa φb Ψ δ μ Φ = φa Ψ δ μ fun x μ1 => ∃ b, x = .bl b ∧ (b = true → φb Ψ δ μ1 Φ) ∧ (b = false → Φ (.bl false) μ1) := rfl
theorem u_orV : dOrV φa φb Ψ δ μ Φ = φa Ψ δ μ fun x μ1 => ∃ b, x = .bl b ∧ (b = true → Φ (.bl true) μ1) ∧ (b = false → φb Ψ δ μ1 Φ) := rfl
theorem u_notV : dNotV φa Ψ δ μ Φ = φa Ψ δ μ fun x μ1 => ∃ b, x = .bl b ∧ Φ (.bl (!b)) μ1 := rfl
theorem u_ifE : dIf θ φa φb Ψ δ μ Φ = θ Ψ δ μ fun b μ1 => (b = true → φa Ψ δ μ1 Φ) ∧ (b = false → φb Ψ δ μ1 Φ) := rfl
theorem u_chain : dChain ρ ρ' φa φb φc Ψ δ μ Φ = φa Ψ δ μ fun x μ1 => φb Ψ δ μ1 fun y μ2 => ρ x y μ2 fun z μ3 => ∃ b, z = .bl b ∧ (b = true → φc Ψ δ μ3 fun u μ4 => ρ' y u μ4 Φ) ∧ (b = false → Φ (.bl false) μ3) := rfl
theorem u_nil : dNil Ψ δ μ Ls = Ls [] μ := rfl
theorem u_cons : dCons φ ψ Ψ δ μ Ls = φ Ψ δ μ fun x μ1 => ψ Ψ δ μ1 fun xs μ2 => Ls (x :: xs) μ2 := rfl
theorem u_tup : dTup ψ Ψ δ μ Φ = ψ Ψ δ μ fun xs μ1 => xs.length ≤ 100000 ∧ Φ (.tup xs) μ1 := rfl
theorem u_lst : dLst ψ Ψ δ μ Φ = ψ Ψ δ μ fun xs μ1 => xs.length ≤ 100000 ∧ Φ (.lst xs) μ1 := rfl
theorem u_own : dOwn ψ Ψ δ μ Φ = ψ Ψ δ μ fun xs μ1 => xs.length ≤ 100000 ∧ ∀ p, μ1 p = none → Φ (.hd (.ref p)) (sset μ1 p (.lst xs)) := rfl
theorem u_cb : dCB κ ψ Ψ δ μ Φ = ψ Ψ δ μ fun xs μ1 => κ xs μ1 Φ := rfl
theorem u_call : dCall c ψ Ψ δ μ Φ = ψ Ψ δ μ fun xs μ1 => c xs μ1 Φ fun _ _ => False := rfl
theorem u_callS : dCallS c ψ Ψ δ μ Φ = ψ Ψ δ μ fun xs μ1 => c xs μ1 Φ fun x μ2 => Ψ x δ μ2 := rfl
theorem u_name : eName n d δ μ Pn = Pn (δ.set n (some d)) μ := rfl
theorem u_etup : eTup n η d δ μ Pn = ∃ ds, tpl d = some ds ∧ ds.length = n ∧ η ds δ μ Pn := rfl
theorem w_tplT {P : List D → Prop} : (∃ es, tpl (.tup ds) = some es ∧ P es) = P ds := propext ⟨fun ⟨c, e, q⟩ => by cases e; exact q, fun q => ⟨ds, rfl, q⟩⟩
theorem w_tplP {P : List D → Prop} : (∃ es, tpl (.pr ds) = some es ∧ P es) = P ds := propext ⟨fun ⟨c, e, q⟩ => by cases e; exact q, fun q => ⟨ds, rfl, q⟩⟩
theorem u_enil : eNil xs δ μ Pn = (xs = [] ∧ Pn δ μ) := rfl
theorem u_econs : eCons γ η xs δ μ Pn = ∃ d r, xs = d :: r ∧ γ d δ μ fun δ' μ' => η r δ' μ' Pn := rfl
theorem u_sub : eSub φa φb Ψ d δ μ Pn = φa Ψ δ μ fun x μ1 => φb Ψ δ μ1 fun y μ2 => ∃ a ds i j, x = .hd (.ref a) ∧ y = .int i ∧ μ2 a = some (.lst ds) ∧ ixN ds.length i = some j ∧ Pn δ (sset μ2 a (.lst (ds.set j d))) := rfl
theorem u_app : dApp φa φb Ψ δ μ Φ = φa Ψ δ μ fun x μ1 => ∃ a ds, x = .hd (.ref a) ∧ μ1 a = some (.lst ds) ∧ φb Ψ δ μ1 fun y μ2 => ∃ es, μ2 a = some (.lst es) ∧ es.length ≤ 100000 ∧ Φ .non (sset μ2 a (.lst (es ++ [y]))) := rfl
theorem u_slT : dSlT φ ol oh Ψ δ μ Φ = φ Ψ δ μ fun x μ1 => ol Ψ δ μ1 fun lo μ2 => oh Ψ δ μ2 fun hi μ3 => ∃ ds, x = .tup ds ∧ Φ (.tup (cutD ds lo hi)) μ3 := rfl
theorem u_slL : dSlL φ ol oh Ψ δ μ Φ = φ Ψ δ μ fun x μ1 => ol Ψ δ μ1 fun lo μ2 => oh Ψ δ μ2 fun hi μ3 => ∃ ds, Items μ3 x ds ∧ isTup x = false ∧ Φ (.lst (cutD ds lo hi)) μ3 := rfl
theorem u_noPart : dNoPart Ψ δ μ Xo = Xo none μ := rfl
theorem u_part : dPart φ Ψ δ μ Xo = φ Ψ δ μ fun x μ1 => ∃ i, x = .int i ∧ Xo (some i) μ1 := rfl
theorem u_revL : dRevL φ Ψ δ μ Φ = φ Ψ δ μ fun x μ1 => ∃ ds, Items μ1 x ds ∧ isTup x = false ∧ Φ (.lst ds.reverse) μ1 := rfl
end
theorem w_tupE {P : List D → Prop} : (∃ es, D.tup ds = .tup es ∧ P es) = P ds := propext ⟨fun ⟨c, e, q⟩ => by cases e; exact q, fun q => ⟨ds, rfl, q⟩⟩
theorem w_intE {P : Int → Prop} : (∃ j, D.int i = .int j ∧ P j) = P i := propext ⟨fun ⟨c, e, q⟩ => by cases e; exact q, fun q => ⟨i, rfl, q⟩⟩
theorem w_consE {P : D → List D → Prop} : (∃ d r, x :: xs = d :: r ∧ P d r) = P x xs := propext ⟨fun ⟨c, r, e, q⟩ => by cases e; exact q, fun q => ⟨x, xs, rfl, q⟩⟩
theorem w_hdE {a : Addr} {P : Addr → List D → Prop} : (∃ b es, D.hd (.ref a) = .hd (.ref b) ∧ P b es) = ∃ es, P a es := propext ⟨fun ⟨b, es, e, q⟩ => by cases e; exact ⟨es, q⟩, fun ⟨es, q⟩ => ⟨a, es, rfl, q⟩⟩
theorem w_cell {a : Addr} {P : List D → Prop} (h : μ a = some (.lst ds)) : (∃ es, μ a = some (.lst es) ∧ P es) = P ds := propext ⟨fun ⟨es, e, q⟩ => by rw [h] at e; cases e; exact q, fun q => ⟨ds, h, q⟩⟩
theorem w_cellS {a : Addr} {P : List D → Prop} : (∃ es, sset μ a (.lst ds) a = some (.lst es) ∧ P es) = P ds := w_cell sset_same
theorem w_set {a : Addr} {P' : Addr → List D → Nat → Prop} : (∃ b es k j, D.hd (.ref a) = .hd (.ref b) ∧ D.int i = .int k ∧ μ b = some (.lst es) ∧ ixN es.length k = some j ∧ P' b es j) = (∃ es, μ a = some (.lst es) ∧ ∃ j, ixN es.length i = some j ∧ P' a es j) := propext ⟨fun ⟨b, es, k, j, e1, e2, q1, q2⟩ => by cases e1; cases e2; exact ⟨es, q1, j, q2⟩, fun ⟨es, q1, j, q2⟩ => ⟨a, es, i, j, rfl, rfl, q1, q2⟩⟩
theorem at0 {P : D → Prop} {x0 : D} : (∃ d, atI (x0 :: xs) 0 = some d ∧ P d) = P x0 := propext ⟨fun ⟨d, e, q⟩ => by rw [show (0 : Int) = ((0 : Nat) : Int) from rfl, atI_nat (j := 0) rfl] at e; cases e; exact q, fun q => ⟨x0, atI_nat (j := 0) rfl, q⟩⟩
theorem at1 {P : D → Prop} {x0 x1 : D} : (∃ d, atI (x0 :: x1 :: xs) 1 = some d ∧ P d) = P x1 := propext ⟨fun ⟨d, e, q⟩ => by rw [show (1 : Int) = ((1 : Nat) : Int) from rfl, atI_nat (j := 1) rfl] at e; cases e; exact q, fun q => ⟨x1, atI_nat (j := 1) rfl, q⟩⟩
theorem at2 {P : D → Prop} {x0 x1 x2 : D} : (∃ d, atI (x0 :: x1 :: x2 :: xs) 2 = some d ∧ P d) = P x2 := propext ⟨fun ⟨d, e, q⟩ => by rw [show (2 : Int) = ((2 : Nat) : Int) from rfl, atI_nat (j := 2) rfl] at e; cases e; exact q, fun q => ⟨x2, atI_nat (j := 2) rfl, q⟩⟩
theorem at3 {P : D → Prop} {x0 x1 x2 x3 : D} : (∃ d, atI (x0 :: x1 :: x2 :: x3 :: xs) 3 = some d ∧ P d) = P x3 := propext ⟨fun ⟨d, e, q⟩ => by rw [show (3 : Int) = ((3 : Nat) : Int) from rfl, atI_nat (j := 3) rfl] at e; cases e; exact q, fun q => ⟨x3, atI_nat (j := 3) rfl, q⟩⟩
theorem ix40 {P : Nat → Prop} : (∃ j, ixN 4 0 = some j ∧ P j) = P 0 := propext ⟨fun ⟨j, e, q⟩ => by cases e; exact q, fun q => ⟨0, rfl, q⟩⟩
theorem ix42 {P : Nat → Prop} : (∃ j, ixN 4 2 = some j ∧ P j) = P 2 := propext ⟨fun ⟨j, e, q⟩ => by cases e; exact q, fun q => ⟨2, rfl, q⟩⟩
theorem ix43 {P : Nat → Prop} : (∃ j, ixN 4 3 = some j ∧ P j) = P 3 := propext ⟨fun ⟨j, e, q⟩ => by cases e; exact q, fun q => ⟨3, rfl, q⟩⟩
theorem mapI_get {ws : List Int} {i : Nat} {d : D} (h : (ws.map D.int)[i]? = some d) : ∃ z, ws[i]? = some z ∧ d = .int z := by
  rw [List.getElem?_map] at h
  cases e : ws[i]? with
  | none => rw [e] at h; cases h
  | some z => rw [e] at h; cases h; exact ⟨z, rfl, rfl⟩
theorem v_ixH {a : Addr} : oIxL (.hd (.ref a)) (.int i) μ Φ = ((∃ es, μ a = some (.lst es) ∧ ∃ d, atI es i = some d ∧ Φ d μ) ∨ (∃ es, μ a = some (.frz es) ∧ ∃ d, atI es i = some d ∧ Φ d μ)) := propext (Iff.intro (by
  rintro ⟨es, k, d, hi, _, e, q⟩
  cases e
  cases hi with
  | own h => exact .inl ⟨es, h, d, q⟩
  | frz h => exact .inr ⟨es, h, d, q⟩) (by
  rintro (⟨es, h, d, q⟩ | ⟨es, h, d, q⟩)
  · exact ⟨es, i, d, .own h, rfl, rfl, q⟩
  · exact ⟨es, i, d, .frz h, rfl, rfl, q⟩))
theorem v_items {a : Addr} {P : List D → Prop} : (∃ es, Items μ (.hd (.ref a)) es ∧ P es) = ((∃ es, μ a = some (.lst es) ∧ P es) ∨ (∃ es, μ a = some (.frz es) ∧ P es)) := propext (Iff.intro (by
  rintro ⟨es, hi, q⟩
  cases hi with
  | own h => exact .inl ⟨es, h, q⟩
  | frz h => exact .inr ⟨es, h, q⟩) (by
  rintro (⟨es, h, q⟩ | ⟨es, h, q⟩)
  · exact ⟨es, .own h, q⟩
  · exact ⟨es, .frz h, q⟩))
theorem v_itemsT {P : List D → Prop} : (∃ es, Items μ (.tup ds) es ∧ P es) = P ds := propext ⟨fun ⟨es, h, q⟩ => by cases h; exact q, fun q => ⟨ds, .tup ds, q⟩⟩
theorem v_itemsL {P : List D → Prop} : (∃ es, Items μ (.lst ds) es ∧ P es) = P ds := propext ⟨fun ⟨es, h, q⟩ => by cases h; exact q, fun q => ⟨ds, .lst ds, q⟩⟩
theorem v_itemsS {ns : List Int} {P : List D → Prop} : (∃ es, Items μ (.scr ns) es ∧ P es) = P (ns.map .int) := propext ⟨fun ⟨es, h, q⟩ => by cases h; exact q, fun q => ⟨_, .scr ns, q⟩⟩
theorem v_len : cLen [x] μ Φ = ∃ es, Items μ x es ∧ Φ (.int es.length) μ := propext ⟨fun ⟨y, es, e, h, q⟩ => by cases e; exact ⟨es, h, q⟩, fun ⟨es, h, q⟩ => ⟨x, es, rfl, h, q⟩⟩
theorem v_tuple : cTuple [x] μ Φ = ∃ es, Items μ x es ∧ Φ (.tup es) μ := propext ⟨fun ⟨y, es, e, h, q⟩ => by cases e; exact ⟨es, h, q⟩, fun ⟨es, h, q⟩ => ⟨x, es, rfl, h, q⟩⟩
theorem v_list : cList [x] μ Φ = ∃ es, Items μ x es ∧ Φ (.lst es) μ := propext ⟨fun ⟨y, es, e, h, q⟩ => by cases e; exact ⟨es, h, q⟩, fun ⟨es, h, q⟩ => ⟨x, es, rfl, h, q⟩⟩
theorem v_listOwn : cListOwn [x] μ Φ = ∃ es, Items μ x es ∧ ∀ p, μ p = none → Φ (.hd (.ref p)) (sset μ p (.lst es)) := propext ⟨fun ⟨y, es, e, h, q⟩ => by cases e; exact ⟨es, h, q⟩, fun ⟨es, h, q⟩ => ⟨x, es, rfl, h, q⟩⟩
section
variable {T : String}
theorem i_tT : instB (.tup xs) "tuple" = some true := rfl
theorem i_tI : instB (.tup xs) "int" = some false := rfl
theorem i_tB : instB (.tup xs) "bool" = some false := rfl
theorem i_tS : instB (.tup xs) "str" = some false := rfl
theorem i_nT : instB .non "tuple" = some false := rfl
theorem i_nI : instB .non "int" = some false := rfl
theorem i_nB : instB .non "bool" = some false := rfl
theorem i_nS : instB .non "str" = some false := rfl
theorem i_iT : instB (.int i) "tuple" = some false := rfl
theorem i_iI : instB (.int i) "int" = some true := rfl
theorem i_iB : instB (.int i) "bool" = some false := rfl
theorem i_iS : instB (.int i) "str" = some false := rfl
theorem i_bT : instB (.bl b) "tuple" = some false := rfl
theorem i_bI : instB (.bl b) "int" = some true := rfl
theorem i_bB : instB (.bl b) "bool" = some true := rfl
theorem i_bS : instB (.bl b) "str" = some false := rfl
theorem i_sT : instB (.str s) "tuple" = some false := rfl
theorem i_sI : instB (.str s) "int" = some false := rfl
theorem i_sB : instB (.str s) "bool" = some false := rfl
theorem i_sS : instB (.str s) "str" = some true := rfl
end
theorem w_eqB {c : Bool} : oEq (.bl b) (.bl c) μ Φ = Φ (.bl (decide (b = c))) μ := w_someb
/-- the turns of a comprehension that changes nothing -/
def givenD (n : Nat) (f : Nat → Bool) (v : Nat → D) : List D := ((List.range n).filter f).map v
theorem givenD_yes {n : Nat} {f : Nat → Bool} {v : Nat → D} (h : f n = true) : givenD (n + 1) f v = givenD n f v ++ [v n] := by
  unfold givenD
  rw [List.range_succ, List.filter_append, List.map_append, List.filter_cons, if_pos h] <;> rfl
theorem givenD_no {n : Nat} {f : Nat → Bool} {v : Nat → D} (h : f n = false) : givenD (n + 1) f v = givenD n f v := by
  unfold givenD
  rw [List.range_succ, List.filter_append, List.map_append, List.filter_cons, if_neg (by rw [h]; decide)]
  exact List.append_nil _
theorem givenD_len (n : Nat) (f : Nat → Bool) (v : Nat → D) : (givenD n f v).length ≤ n := by
  unfold givenD
  rw [List.length_map]
  have h := List.length_filter_le f (List.range n)
  rw [List.length_range] at h
  exact h
theorem givenD_all (n : Nat) (v : Nat → D) : givenD n (fun _ => true) v = (List.range n).map v := by
  unfold givenD
  rw [List.filter_eq_self.mpr fun _ _ => rfl]
theorem lc_go {γ : DG} {θ : DT} {φ : DE} {δw : DEnv} {μ1 : Sto} {xs : List D} (f : Nat → Bool) (v : Nat → D) (hz : xs.length ≤ 100000)
    (hs : ∀ (i : Nat) (d : D) (μ2 : Sto) (X : DK) (Y : Sto → Prop), xs[i]? = some d → Sub μ1 μ2 → (f i = true → X (v i) μ2) → (f i = false → Y μ2) →
      γ d δw μ2 fun δ3 μ3 => θ Ψ δ3 μ3 fun b μ4 => (b = true → φ Ψ δ3 μ4 X) ∧ (b = false → Y μ4))
    (hd : Φ (.lst (givenD xs.length f v)) μ1) : ∀ p, μ1 p = none → ∃ W : Nat → Sto → Prop, W 0 (sset μ1 p (.lst [])) ∧
  (∀ i d μ2, xs[i]? = some d → W i μ2 → γ d δw μ2 fun δ3 μ3 => θ Ψ δ3 μ3 fun b μ4 =>
    (b = true → φ Ψ δ3 μ4 fun y μ5 => ∃ acc, μ5 p = some (.lst acc) ∧ acc.length ≤ 100000 ∧ W (i + 1) (sset μ5 p (.lst (acc ++ [y])))) ∧ (b = false → W (i + 1) μ4)) ∧
  ∀ μ2, W xs.length μ2 → ∃ acc, μ2 p = some (.lst acc) ∧ Φ (.lst acc) (sdel μ2 p) := fun p hp => by
  refine ⟨fun i μ' => μ' = sset μ1 p (.lst (givenD i f v)), rfl, fun i d μ2 hi e => ?_, fun μ2 e => ?_⟩
  · subst e
    have hl : i < xs.length := (List.getElem?_eq_some_iff.mp hi).1
    refine hs i d _ _ _ hi (.set Sub.refl hp) (fun hf => ⟨_, sset_same, ?_, ?_⟩) fun hf => ?_
    · have := givenD_len i f v; omega
    · show sset (sset μ1 p (.lst (givenD i f v))) p (.lst (givenD i f v ++ [v i])) = sset μ1 p (.lst (givenD (i + 1) f v))
      rw [sset_sset, givenD_yes hf]
    · show sset μ1 p (.lst (givenD i f v)) = sset μ1 p (.lst (givenD (i + 1) f v))
      rw [givenD_no hf]
  · subst e
    refine ⟨_, sset_same, ?_⟩
    rw [sdel_sset hp]
    exact hd
/-- the list of a comprehension -/
def LcG (γ : DG) (θ : DT) (φ : DE) (δw : DEnv) (Ψ : XP) (xs : List D) (μ1 : Sto) (Φ : DK) : Prop := ∀ p, μ1 p = none → ∃ W : Nat → Sto → Prop, W 0 (sset μ1 p (.lst [])) ∧
  (∀ i d μ2, xs[i]? = some d → W i μ2 → γ d δw μ2 fun δ3 μ3 => θ Ψ δ3 μ3 fun b μ4 =>
    (b = true → φ Ψ δ3 μ4 fun y μ5 => ∃ acc, μ5 p = some (.lst acc) ∧ acc.length ≤ 100000 ∧ W (i + 1) (sset μ5 p (.lst (acc ++ [y])))) ∧ (b = false → W (i + 1) μ4)) ∧
  ∀ μ2, W xs.length μ2 → ∃ acc, μ2 p = some (.lst acc) ∧ Φ (.lst acc) (sdel μ2 p)
theorem u_lc {ι : DI} {γ : DG} {θ : DT} {φ : DE} {vs : List Nat} : dLc ι γ θ φ vs Ψ δ μ Φ = ι Ψ δ μ fun xs μ1 => LcG γ θ φ (dwipe δ vs) Ψ xs μ1 Φ := rfl
theorem lcG_pure {γ : DG} {θ : DT} {φ : DE} {δw : DEnv} {μ1 : Sto} {xs : List D} (f : Nat → Bool) (v : Nat → D) (hz : xs.length ≤ 100000)
    (hs : ∀ (i : Nat) (d : D) (μ2 : Sto) (X : DK) (Y : Sto → Prop), xs[i]? = some d → Sub μ1 μ2 → (f i = true → X (v i) μ2) → (f i = false → Y μ2) →
      γ d δw μ2 fun δ3 μ3 => θ Ψ δ3 μ3 fun b μ4 => (b = true → φ Ψ δ3 μ4 X) ∧ (b = false → Y μ4))
    (hd : Φ (.lst (givenD xs.length f v)) μ1) : LcG γ θ φ δw Ψ xs μ1 Φ := lc_go f v hz hs hd
/-- each item gives one -/
theorem lcG_map {γ : DG} {φ : DE} {δw : DEnv} {μ1 : Sto} {xs : List D} (v : Nat → D) (hz : xs.length ≤ 100000)
    (hs : ∀ (i : Nat) (d : D) (μ2 : Sto) (X : DK), xs[i]? = some d → Sub μ1 μ2 → X (v i) μ2 → γ d δw μ2 fun δ3 μ3 => φ Ψ δ3 μ3 X)
    (hd : Φ (.lst ((List.range xs.length).map v)) μ1) (mono : ∀ d δ μ (P Q : DEnv → Sto → Prop), (∀ a b, P a b → Q a b) → γ d δ μ P → γ d δ μ Q) : LcG γ dYes φ δw Ψ xs μ1 Φ := by
  refine lcG_pure (fun _ => true) v hz (fun i d μ2 X Y hi hsub hx hy => ?_) (by rw [givenD_all]; exact hd)
  exact mono _ _ _ _ _ (fun δ3 μ3 h => ⟨fun _ => h, fun z => nomatch z⟩) (hs i d μ2 X hi hsub (hx rfl))
theorem lcG_mapN {n : Nat} {φ : DE} {δw : DEnv} {μ1 : Sto} {xs : List D} (v : Nat → D) (hz : xs.length ≤ 100000)
    (hs : ∀ (i : Nat) (d : D) (μ2 : Sto) (X : DK), xs[i]? = some d → Sub μ1 μ2 → X (v i) μ2 → φ Ψ (δw.set n (some d)) μ2 X)
    (hd : Φ (.lst ((List.range xs.length).map v)) μ1) : LcG (eName n) dYes φ δw Ψ xs μ1 Φ :=
  lcG_map v hz hs hd fun d δ μ P Q h q => h _ _ q
theorem u_for {ι : DI} {γ : DG} {ω : DSt} : dFor ι γ ω Ψ Δ δ μ = ι Ψ δ μ fun xs μ1 => ∃ W : Nat → DEnv → Sto → Prop, W 0 δ μ1 ∧
  (∀ i d δ' μ', xs[i]? = some d → W i δ' μ' → γ d δ' μ' fun δ2 μ2 => ω Ψ { Δ with nx := W (i + 1), ct := W (i + 1), bk := Δ.nx } δ2 μ2) ∧ ∀ δ' μ', W xs.length δ' μ' → Δ.nx δ' μ' := rfl
section
variable {φ φ' : DE} {Ls : List D → Sto → Prop}
theorem u_iT : iSeqT φ Ψ δ μ Ls = φ Ψ δ μ fun x μ1 => ∃ ds, x = .tup ds ∧ Ls ds μ1 := rfl
theorem u_iL : iSeqL φ Ψ δ μ Ls = φ Ψ δ μ fun x μ1 => ∃ ds, x = .lst ds ∧ Ls ds μ1 := rfl
theorem u_iR1 : iR1 φ Ψ δ μ Ls = φ Ψ δ μ fun x μ1 => ∃ j, x = .int j ∧ j < 4611686018427387904 ∧ -4611686018427387904 ≤ j ∧ Ls (rngD 0 j.toNat) μ1 := rfl
theorem u_iR2 : iR2 φ φ' Ψ δ μ Ls = φ Ψ δ μ fun x μ1 => φ' Ψ δ μ1 fun y μ2 => ∃ i j, x = .int i ∧ y = .int j ∧ (-4611686018427387904 ≤ i ∧ i < 4611686018427387904 ∧ -4611686018427387904 ≤ j ∧ j < 4611686018427387904) ∧ Ls (rngD i (j - i).toNat) μ2 := rfl
theorem u_iZ : iZipT φ φ' Ψ δ μ Ls = φ Ψ δ μ fun x μ1 => φ' Ψ δ μ1 fun y μ2 => ∃ xs ys, x = .tup xs ∧ y = .tup ys ∧ Ls ((xs.zip ys).map fun p => .pr [p.1, p.2]) μ2 := rfl
theorem u_iS : iText φ Ψ δ μ Ls = φ Ψ δ μ fun x μ1 => ∃ s, x = .str s ∧ Ls (s.cps.toList.map fun c => .str ⟨#[c]⟩) μ1 := rfl
end
theorem w_lstE {P : List D → Prop} : (∃ es, D.lst ds = .lst es ∧ P es) = P ds := propext ⟨fun ⟨c, e, q⟩ => by cases e; exact q, fun q => ⟨ds, rfl, q⟩⟩
theorem rngD_get {lo : Int} {n i : Nat} {d : D} (h : (rngD lo n)[i]? = some d) : i < n ∧ d = .int (lo + (i : Int)) := by
  have hl := (List.getElem?_eq_some_iff.mp h).1
  rw [rngD_len] at hl
  rw [rngD_at hl] at h
  cases h
  exact ⟨hl, rfl⟩
theorem w_allB {P : List Bool} (e : ds = P.map .bl) (h : Φ (.bl (P.all id)) μ) : cAll [.lst ds] μ Φ := ⟨P, by rw [e], h⟩
/-- one statement, what follows named -/
theorem q_seq {ω ζ : DSt} (h : ∀ nx, nx = ζ Ψ Δ → ω Ψ ⟨nx, Δ.rt, Δ.bk, Δ.ct⟩ δ μ) : dSeq ω ζ Ψ Δ δ μ := h _ rfl
theorem atI_n {α : Type} {xs : List α} {j : Nat} {v : α} (h : xs[j]? = some v) : atI xs (j : Int) = some v := atI_nat h
theorem ret_same {Φ : DK} {d : D} {μ : Sto} (h : Φ d μ) : ∃ μ2, Sub μ2 μ ∧ Φ d μ2 := ⟨μ, Sub.refl, h⟩
theorem mulx (a b : Nat) (h1 : i.natAbs < 2 ^ a) (h2 : j.natAbs < 2 ^ b) (h : a + b ≤ 134217728) : CMulX i j := mulx_ok h1 h2 h
end
end DW
set_option Elab.async false
set_option linter.all false
set_option maxRecDepth 100000
set_option maxHeartbeats 4000000
namespace DW
open PySem PySem.Spec PyProof.Rows L2 HT
def dRevT (φ : DE) : DE := fun Ψ δ μ Φ => φ Ψ δ μ fun x μ1 => ∃ ds, x = .tup ds ∧ Φ (.tup ds.reverse) μ1
theorem tuple_mul1 (l : Addr) (items : Array Value) (n : Nat) (sl : Array (Option Value)) (dd : Option Addr) (x : Int) (u : Tok) (c0 : (decide (x < -(2 ^ 63)) || decide (x ≥ 2 ^ 63)) = false) (c1 : (items.isEmpty || x == 1) = true) :
    Meets (Builtin.«tuple.__mul__» ⟨[.ref l, .int x u], []⟩) (fun _ R s => s.heap.get? l = some { cls := .type "tuple", dict := dd, data := .seq items n, slots := sl } ∧ R (.ok (.ret (Value.ref l))) s) :=
  .of_wp fun prog w A R s h => by
    obtain ⟨hp, g, d, tk, os⟩ := s
    obtain ⟨hl, h⟩ := h
    have f1 := AutoSeq1.idx_int
    wp_walk using wpAny_loadPart' hl
    repeat (first
      | (refine wpAny_ite_false (decide_eq_false (by rw [c0]; exact Bool.false_ne_true)) ?_; wp_walk using wpAny_loadPart' hl)
      | (refine wpAny_ite_true (decide_eq_true (by rw [c1])) ?_; wp_walk using wpAny_loadPart' hl))
    exact ⟨_, rfl, h⟩
theorem tuple_mul0 (l : Addr) (items : Array Value) (n : Nat) (sl : Array (Option Value)) (dd : Option Addr) (x : Int) (u : Tok) (c0 : (decide (x < -(2 ^ 63)) || decide (x ≥ 2 ^ 63)) = false) (c1 : (items.isEmpty || x == 1) = false) (c2 : (decide (x ≤ 0) || items.isEmpty) = true) :
    Meets (Builtin.«tuple.__mul__» ⟨[.ref l, .int x u], []⟩) (fun _ R s => s.heap.get? l = some { cls := .type "tuple", dict := dd, data := .seq items n, slots := sl } ∧
      R (.ok (.ret (Value.ref s.heap.objs.size))) { s with heap := s.heap.push { cls := Value.type "tuple", data := Data.seq #[] }, toks := s.toks }) :=
  .of_wp fun prog w A R s h => by
    obtain ⟨hp, g, d, tk, os⟩ := s
    obtain ⟨hl, h⟩ := h
    have f1 := AutoSeq1.idx_int
    wp_walk using wpAny_loadPart' hl
    repeat (first
      | (refine wpAny_ite_false (decide_eq_false (by rw [c0]; exact Bool.false_ne_true)) ?_; wp_walk using wpAny_loadPart' hl)
      | (refine wpAny_ite_false (decide_eq_false (by rw [c1]; exact Bool.false_ne_true)) ?_; wp_walk using wpAny_loadPart' hl)
      | (refine wpAny_ite_true (decide_eq_true (by rw [c2])) ?_; wp_walk using wpAny_loadPart' hl))
    exact ⟨_, rfl, h⟩
def rRepBig (K : Fg) : R2 := fun x y H Q => ∃ l k xs, x = .ref l ∧ y = .int k ∧ SqT K H l xs ∧ xs ≠ [] ∧ 2 ≤ k ∧ k ≤ 1000 ∧ xs.length ≤ 1000 ∧ NewT H (List.replicate k.toNat xs).flatten Q
theorem op_repBig {X : Cx} : OpR X (binaryOp .Mult) (rRepBig X.K) := by
  intro pins s σ H x y v u Q I rx ry h
  obtain ⟨l, k, xs, rfl, rfl, hT, hne, g2, g3, hz, q⟩ := h
  cases rx
  obtain ⟨t, rfl⟩ := ry
  obtain ⟨its, r, ⟨⟨cls, dd, data, sl⟩, ho, hc, n, hd⟩, hs⟩ := I.tuple hT
  simp only at hc hd
  subst hc hd
  have many : its.length = xs.length := r.length.symm
  have some' : its.toArray.isEmpty = false := by
    cases its with
    | nil => exact absurd (List.eq_nil_of_length_eq_zero (l := xs) (by simpa using many.symm)) hne
    | cons a b => rfl
  have wide : (its.toArray.size : Int) * k ≤ 1000000 := by
    have z : ((xs.length : Nat) : Int) * k ≤ 1000 * k := Int.mul_le_mul_of_nonneg_right (by omega) (by omega)
    rw [List.size_toArray, many]; omega
  have fl : (List.replicate k.toNat xs).flatten.length ≤ sizeLine := by
    have z : k.toNat * xs.length ≤ 1000 * 1000 := Nat.mul_le_mul (by omega) hz
    rw [PyProof.Rows.lm_len_rep_flat, sizeLine_eq]; omega
  have fl2 : (List.replicate k.toNat its).flatten.length ≤ sizeLine := by rw [PyProof.Rows.lm_len_rep_flat, many, ← PyProof.Rows.lm_len_rep_flat]; exact fl
  have z0 : (decide (k < -(2 ^ 63)) || decide (k ≥ 2 ^ 63)) = false := by rw [decide_eq_false (by omega), decide_eq_false (by omega)]; rfl
  have z1 : (its.toArray.isEmpty || k == 1) = false := by rw [some', Bool.false_or]; exact beq_eq_false_iff_ne.mpr (by omega)
  have z2 : (decide (k ≤ 0) || its.toArray.isEmpty) = false := by rw [some', Bool.or_false]; exact decide_eq_false (by omega)
  have z4 : Builtin.Tuple.tupleTooMany ((its.toArray.size : Int) * k) = false := by unfold Builtin.Tuple.tupleTooMany; rw [sizeLine_eq]; exact decide_eq_false (by omega)
  have mul := tuple_mulW l its.toArray n dd sl k t z0 z1 z2 (by omega) z4 (by rw [size_rep, List.size_toArray]; exact fl2)
  have one : s.TypeIs (.ref l) "tuple" := ⟨_, ho, rfl⟩
  refine wpAny_binaryOp_repeat_ref (T := "tuple") (U := "int") (by decide) one (fun s' => typeIs_int s' k t) noFill_tuple_mul F.fills_int_mul F.slot_int_rmul repeat_tuple F.slot_int_index.lookup ?_
  refine call_meets F.slot_int_rmul (typeIs_int s k t) F.entry_int_rmul (F.args_int_rmul_2 _ _) (int_rmul_tuple k t l its.toArray n dd sl) ⟨ho, rfl, one, ?_⟩
  refine call_meets F.slot_tuple_mul one F.entry_tuple_mul (F.args_tuple_mul_2 _ _) mul ⟨ho, ?_⟩
  rw [size_rep]
  exact new_tup I fl (r.rep k.toNat) q
def rRepA (K : Fg) : R2 := fun x y H Q => ∃ l k xs, x = .ref l ∧ y = .int k ∧ SqT K H l xs ∧ k ≤ 1000 ∧ -1000000 ≤ k ∧ xs.length ≤ 1000 ∧ (xs = [] ∨ k = 1 → Q (.ref l) H) ∧ (xs ≠ [] → k ≤ 0 → NewT H [] Q) ∧
  (xs ≠ [] → 2 ≤ k → NewT H (List.replicate k.toNat xs).flatten Q)
theorem op_repA {X : Cx} : OpR X (binaryOp .Mult) (rRepA X.K) := by
  intro pins s σ H x y v u Q I rx ry h
  obtain ⟨l, k, xs, ex, ey, hT, h1, h2, hz, q1, q2, q3⟩ := h
  by_cases hbig : xs ≠ [] ∧ 2 ≤ k
  · exact op_repBig pins s σ H _ _ v u Q I rx ry ⟨l, k, xs, ex, ey, hT, hbig.1, hbig.2, h1, hz, q3 hbig.1 hbig.2⟩
  · subst ex ey
    cases rx
    obtain ⟨t, rfl⟩ := ry
    obtain ⟨its, r, ⟨⟨cls, dd, data, sl⟩, ho, hc, n, hd⟩, hs⟩ := I.tuple hT
    simp only at hc hd
    subst hc hd
    have hle : its.length = xs.length := r.length.symm
    have c0 : (decide (k < -(2 ^ 63)) || decide (k ≥ 2 ^ 63)) = false := by
      rw [decide_eq_false (by omega), decide_eq_false (by omega)] <;> rfl
    have hemp : its.toArray.isEmpty = decide (xs = []) := by
      cases its with
      | nil => rw [List.eq_nil_of_length_eq_zero (l := xs) (by simpa using hle.symm)]; rfl
      | cons a b =>
        have : xs ≠ [] := fun z => by rw [z] at hle; simp at hle
        rw [decide_eq_false this]; rfl
    by_cases hs1 : xs = [] ∨ k = 1
    · have c1 : (its.toArray.isEmpty || k == 1) = true := by
        rw [hemp]
        rcases hs1 with z | z
        · rw [decide_eq_true z]; rfl
        · rw [z]; simp
      refine wpAny_binaryOp_repeat_ref (T := "tuple") (U := "int") (by decide) ⟨_, ho, rfl⟩ (fun s' => typeIs_int s' k t) noFill_tuple_mul F.fills_int_mul F.slot_int_rmul repeat_tuple F.slot_int_index.lookup
        (call_meets F.slot_int_rmul (typeIs_int s k t) F.entry_int_rmul (F.args_int_rmul_2 _ _) (int_rmul_tuple k t l its.toArray n dd sl)
          ⟨ho, rfl, ⟨_, ho, rfl⟩, call_meets F.slot_tuple_mul ⟨_, ho, rfl⟩ F.entry_tuple_mul (F.args_tuple_mul_2 _ _) (tuple_mul1 l its.toArray n sl dd k t c0 c1) ⟨ho, ?_⟩⟩)
      exact ⟨.ref l, H, I, rfl, q1 hs1⟩
    · have hx : xs ≠ [] := fun z => hs1 (.inl z)
      have hk : k ≤ 0 := by
        have : ¬ 2 ≤ k := fun z => hbig ⟨hx, z⟩
        have : k ≠ 1 := fun z => hs1 (.inr z)
        omega
      have c1 : (its.toArray.isEmpty || k == 1) = false := by
        rw [hemp, decide_eq_false hx, Bool.false_or]
        exact beq_eq_false_iff_ne.mpr (by omega)
      have c2 : (decide (k ≤ 0) || its.toArray.isEmpty) = true := by rw [decide_eq_true hk]; rfl
      refine wpAny_binaryOp_repeat_ref (T := "tuple") (U := "int") (by decide) ⟨_, ho, rfl⟩ (fun s' => typeIs_int s' k t) noFill_tuple_mul F.fills_int_mul F.slot_int_rmul repeat_tuple F.slot_int_index.lookup
        (call_meets F.slot_int_rmul (typeIs_int s k t) F.entry_int_rmul (F.args_int_rmul_2 _ _) (int_rmul_tuple k t l its.toArray n dd sl)
          ⟨ho, rfl, ⟨_, ho, rfl⟩, call_meets F.slot_tuple_mul ⟨_, ho, rfl⟩ F.entry_tuple_mul (F.args_tuple_mul_2 _ _) (tuple_mul0 l its.toArray n sl dd k t c0 c1 c2) ⟨ho, ?_⟩⟩)
      exact new_tup (its := []) I (by decide) .nil (q2 hx hk)
def oRepT : DO := fun x y μ Φ => ∃ ds k, x = .tup ds ∧ y = .int k ∧ k ≤ 1000 ∧ -1000000 ≤ k ∧ ds.length ≤ 1000 ∧ Φ (.tup (List.replicate k.toNat ds).flatten) μ
theorem roRepT {K : Fg} : RO K (rRepA K) oRepT := fun H μ v w d e Φ Q s0 r1 r2 h k => by
  obtain ⟨ds, i, rfl, rfl, h1, h2, h3, q⟩ := h
  obtain ⟨p, vs, rfl, t1, t2⟩ := Rep.tup_inv r1
  obtain rfl := Rep.int_inv r2
  have hl := t2.length
  have nil : vs = [] → ds = [] := fun z => by rw [z] at hl; exact List.eq_nil_of_length_eq_zero hl.symm
  have rnil : ∀ n, (List.replicate n ([] : List D)).flatten = [] := fun n => by induction n <;> simp_all [List.replicate_succ]
  refine ⟨p, i, vs, rfl, rfl, t1.sq, h1, h2, by omega, fun z => ?_, fun z z2 q0 o ho hc hp => ?_, fun z z2 q0 o ho hc hp => ?_⟩
  · refine k _ H _ μ .refl s0 ?_ q
    have e : (List.replicate i.toNat ds).flatten = ds := by
      rcases z with z | z
      · rw [nil z, rnil]
      · subst z; simp
    rw [e]
    exact r1
  · refine k _ _ _ μ (.new hp) (s0.new hp) ?_ q
    have e : i.toNat = 0 := by omega
    rw [e]
    exact rep_tupN s0 hp ho hc .nil
  · exact k _ _ _ μ (.new hp) (s0.new hp) (rep_tupN s0 hp ho hc (reps_rep t2 _)) q
end DW
set_option Elab.async false
set_option linter.all false
set_option maxRecDepth 100000
set_option maxHeartbeats 4000000
namespace DW
open PySem PySem.Spec PyProof.Rows L2 GenW
end DW
set_option Elab.async false
set_option linter.all false
set_option maxRecDepth 100000
set_option maxHeartbeats 4000000
namespace DW
open PySem PySem.Spec PyProof.Rows L2 HotX
section
variable {prog : Program} {w : World} {A : Around} {E : Value → Shared → Prop} {s : Shared}
theorem next_list_end_hot {it l x1 : Addr} {i : Nat} {items : Array Value} {Q : Option Value → Shared → Prop} (hot : HotAt A x1 s.heap) (hne : x1 ≠ it)
    (hit : s.heap.IsListIter it l i) (hl : s.heap.IsList l items) (hx : items[i]? = none)
    (hQ : ∀ h', Heap.ExtBut it s.heap h' → Q none { s with heap := h' }) : wpAny (model prog w) A (pyNext (.ref it)) Q E s := by
  obtain ⟨o, ho, hc, hd⟩ := id hit
  obtain ⟨ol, hol, _, nl, hdl⟩ := hl
  obtain ⟨hh, o1, vs1, h1, d1, c1⟩ := hot
  unfold pyNext
  refine wpAny_bind (wpAny_attempt (wpAny_callSpecial?_slot (name := Str.ofString "__next__") hit.typeIs slot_listiter_next
    (wpAny_call_entry slot_listiter_next hit.typeIs entry_listiter_next ?_ (args_listiter_next _))))
  show wpAny _ _ (field (.ref it) 0 >>= _) _ _ s
  refine wpAny_bind (wpAny_field ho hd (x := .ref l) rfl ?_)
  show wpAny _ _ (if (Value.ref l == Value.none) = true then _ else _) _ _ s
  rw [if_neg (show ¬ ((Value.ref l == Value.none) = true) from Bool.false_ne_true)]
  show wpAny _ _ (field (.ref it) 1 >>= _) _ _ s
  refine wpAny_bind (wpAny_field ho hd (x := .int i 0) rfl ?_)
  show wpAny _ _ (seqItems? (.ref l) >>= _) _ _ s
  refine wpAny_bind (wpAny_seqItems hol hdl ?_)
  simp only [Int.toNat_natCast, hx]
  refine wpAny_bind (wpAny_rule (wpAny_bind (wpAny_setField ho hd (by simp) ?_)))
  show wpAny _ _ (newExc (.type "StopIteration") [] >>= _) _ _ _
  have hh1 : ∀ f, (s.heap.update it f).get? x1 = some o1 := fun f => by rw [Heap.get?_update_other _ _ (Ne.symm hne)]; exact h1
  refine wpAny_bind ?_
  simp only [newExc, newTuple]
  refine wpAny_bind (wpAny_newObj_type ?_ (by size_fits))
  refine wpAny_bind (m := firstArgMember _ _) (wpAny_of_eq (a := Value.none) (by first | rfl | (simp only [firstArgMember]; rfl)) ?_)
  refine wpAny_newObj_type ?_ (by size_fits)
  refine raiseNew_hot ⟨hh, o1, vs1, Heap.get?_push_of_some _ (Heap.get?_push_of_some _ (hh1 _)), d1, c1⟩ (Nat.ne_of_lt (Heap.lt_size (Heap.get?_push_of_some _ (hh1 _)))) (Heap.get?_push_size _ rfl) rfl (by first | (simp; done) | (simp; omega) | (simp only [Array.size_append]; simp; omega)) ?_
  refine wpAny_bind (wpAny_isInstance (T := "StopIteration") (b := true) ⟨_, Heap.get?_update_self _ (Heap.get?_push_size _ rfl) rfl, rfl⟩ isSubtype_stop ?_)
  refine wpAny_pure (hQ _ ?_)
  intro b ob hb e
  have e1 : (s.heap.update it (Obj.mapFields (fun vs => vs.setIfInBounds 0 Value.none))).get? b = some ob := by rw [Heap.get?_update_other _ _ (Ne.symm hb)]; exact e
  have e2 := Heap.get?_push_of_some { cls := Value.type "tuple", data := Data.seq ([] : List Value).toArray } e1
  rw [Heap.get?_update_other _ _ (Nat.ne_of_gt (Heap.lt_size (Heap.get?_push_of_some _ e1)))]
  exact Heap.get?_push_of_some _ e2
end
theorem walks_hot {prog : Program} {w : World} {A : Around} {x1 : Addr} (hh : A.handled = some (.ref x1)) (I ax : Addr) (hne : ax ≠ I) (hxI : x1 ≠ I) (items : Array Value) :
    Walks prog w A I [I, ax, x1] [I] items.size (fun i v => items[i]? = some v) (fun i h => h.IsListIter I ax i ∧ h.IsList ax items ∧ ∃ (o : Obj) (vs : Array Value), h.get? x1 = some o ∧ o.data = .fields vs ∧ vs[2]? = some .none) where
  sub := fun b hb => by simp at hb; simp [hb]
  frame := fun _ _ _ st hk => ⟨st.1.at fun o e => hk I (by simp) o e, st.2.1.at fun o e => hk ax (by simp) o e, let ⟨o, vs, e, r⟩ := st.2.2; ⟨o, vs, hk x1 (by simp) o e, r⟩⟩
  item := fun i s Q E hi st hQ => by
    refine wpAny_pyNext_list_item st.1 st.2.1 (x := items[i]) (by simp [hi]) fun h' hit' hs' => ?_
    obtain ⟨o, vs, e, r⟩ := st.2.2
    exact hQ _ h' s.toks (by simp [hi]) ⟨hit', st.2.1.extBut hs'.extBut hne, o, vs, hs'.extBut x1 o hxI e, r⟩ fun b o hb e => hs'.extBut b o (fun h => hb (by simp [h])) e
  done := fun s Q E st hQ => next_list_end_hot ⟨hh, st.2.2⟩ hxI st.1 st.2.1 (by simp) fun h' he' => hQ h' s.toks fun b o hb e => he' b o (fun h => hb (by simp [h])) e
  self := fun _ _ _ _ st hQ => wpAny_pyIter_listiter st.1 hQ
theorem cr_anyH {X : Cx} {a : Addr} {oe : Obj} {pn : List (Addr × Obj)} (hn : PXN.CtxN oe) (hf : ∃ vs, oe.data = .fields vs) : CallR (X.suite a ((a, oe) :: pn)) (.builtin "any") (rAny X.K) := by
  intro pins s σ H vs us Q I r h
  obtain ⟨l, bs, rfl, hs, q⟩ := h
  obtain ⟨its, rv, hl, _⟩ := I.list hs
  rw [Vals.ref1 r]
  have hb := rv.bls
  obtain ⟨hget, _⟩ := I.pin (a, oe) (List.mem_append.mpr (.inl List.mem_cons_self))
  obtain ⟨fs, hfs⟩ := hf
  have halt : a < s.heap.objs.size := Heap.lt_size hget
  refine call_any_walk (iter_any hl.isList fun s₂ e2 st hne => ?_)
  subst e2
  refine ⟨_, _, _, _, _, _, _, rfl, walks_hot (x1 := a) rfl _ l hne (Nat.ne_of_lt halt) its.toArray, ⟨st.1, st.2, oe, fs, Heap.get?_push_of_some _ hget, hfs, hn fs hfs⟩, truth_bools hb, fun h' tk hk => ?_⟩
  refine ⟨.bl _, H, I.kept fun b o eo => hk b o (fun hmem => ?_) (Heap.get?_push_of_some _ eo), ?_, q⟩
  · rcases List.mem_cons.mp hmem with e1 | hmem
    · exact absurd (e1 ▸ Heap.lt_size eo) (Nat.lt_irrefl _)
    · cases hmem
  · show Value.bool _ = Value.bool _
    rw [← L2.any_range, hb, List.size_toArray, List.length_map]
def kitD (K : Fg) : XD → V → Option Bool
  | .mk C none, .ref T => PySem.W.kitOne K (.ref C) (.ref T)
  | .mk C none, .ty T => PySem.W.kitOne K (.ref C) (.type T)
  | _, _ => none
def excOk (K : Fg) : XD → Prop
  | .mk C none => L2.ExcC K C
  | _ => False
def cIsX (K : Fg) (a : Addr) (x : XD) : DC := fun xs μ Φ => ∃ c b, xs = [.hd (.ref a), .hd c] ∧ kitD K x c = some b ∧ excOk K x ∧ Φ (.bl b) μ
section
variable {K : Fg} {B : Bx K}
theorem sCallSW {W : WX} {c : Con} {tas : TA} {ψ : DA} (hW : B.W = W) (a : SA B tas ψ) : SE B (tCallS (spOf K c) (WE W) tas) (dCallS c ψ) := by
  subst hW; exact sCallS a
theorem sRaise0W {W : WX} {C : Addr} (hW : B.W = W) : SS B (fun _ σ H => (fun (_ : L2.St) (H : Hp) (Q : XK) => Q (.ref C) none H) σ H fun cls d H' => W cls d σ H') (dRaise0 C) := by
  subst hW; exact sRaise0
def dTryAs (K : Fg) (c : Value) (i : Nat) (ω : DSt) (ζ : Addr → XD → DSt) : DSt := fun Ψ Δ δ μ => ω (fun x δ' μ' => ∃ b, (match x with | .mk D _ => PySem.W.exmOne K (.ref D) c) = some b ∧
  (b = true → ∀ a, μ' a = none → ζ a x Ψ ⟨fun δ2 μ2 => Δ.nx (δ2.set i none) μ2, Δ.rt, fun δ2 μ2 => Δ.bk (δ2.set i none) μ2, fun δ2 μ2 => Δ.ct (δ2.set i none) μ2⟩ (δ'.set i (some (.hd (.ref a)))) μ') ∧ (b = false → Ψ x δ' μ')) Δ δ μ
theorem sTryAs {c : Value} {i : Nat} {W : WX} {tb : WX → TS} {ts : Addr → Value → Option Addr → TS} {ω : DSt} {ζ : Addr → XD → DSt} (hW : B.W = W) (hb : ∀ (W' : WX) (B' : Bx K), B'.W = W' → SS B' (tb W') ω)
    (hs : ∀ (a : Addr) (cls : Value) (dd : Option Addr) (x : XD) (B' : Bx K), B'.W = W → RepX K B'.μ0 B'.H0 cls dd x → SS B' (ts a cls dd) (ζ a x)) :
    SS B (fun D σ H => tb (wAs K c i ts W D) D σ H) (dTryAs K c i ω ζ) := fun D Δ σ H δ μ E S q => by
  subst hW
  refine hb _ ⟨B.H0, B.μ0, wAs K c i ts B.W D, _, fun cls dd σ1 H1 x δ1 μ1 S1 rx q1 => ?_⟩ rfl D Δ σ H δ μ ⟨E.nx, E.rt, E.bk, E.ct⟩ S q
  obtain ⟨b, e1, hy, hn⟩ := q1
  have ec : ∃ C fs, x = .mk C fs ∧ cls = .ref C := by
    obtain ⟨C, fs⟩ := x
    cases fs with
    | none => exact ⟨C, _, rfl, rx.1⟩
    | some f => exact ⟨C, _, rfl, rx.1⟩
  obtain ⟨C, fs, rfl, rfl⟩ := ec
  refine ⟨b, e1, fun hb1 a ha => ?_, fun hb1 => B.hW _ _ σ1 H1 _ δ1 μ1 S1 rx (hn hb1)⟩
  have hfr := S1.sto.fresh ha
  refine hs a (.ref C) dd (.mk C fs) (B.re H1 μ1 S1.evo) rfl rx _ _ _ H1 _ μ1 ⟨fun σ2 H2 δ2 μ2 S2 q2 => ?_, fun v H2 d μ2 σ2 δ2 S2 r2 q2 => ?_, fun σ2 H2 δ2 μ2 S2 q2 => ?_, fun σ2 H2 δ2 μ2 S2 q2 => ?_⟩ ⟨.refl, S1.sto, S1.env.set (.hd _ .nil) i⟩ (hy hb1 a hfr)
  · exact E.nx _ H2 _ μ2 ⟨S1.evo.trans S2.evo, S2.sto, S2.env.unset i⟩ q2
  · exact E.rt v H2 d μ2 σ2 δ2 ⟨S1.evo.trans S2.evo, S2.sto, S2.env⟩ r2 q2
  · exact E.bk _ H2 _ μ2 ⟨S1.evo.trans S2.evo, S2.sto, S2.env.unset i⟩ q2
  · exact E.ct _ H2 _ μ2 ⟨S1.evo.trans S2.evo, S2.sto, S2.env.unset i⟩ q2
abbrev ConG := List D → Sto → (List D → Sto → Prop) → Prop
def dTupG (c : ConG) (ψ : DA) : DE := fun Ψ δ μ Φ => ψ Ψ δ μ fun xs μ1 => c xs μ1 fun es μ2 => Φ (.tup es) μ2
end
/-- what is wanted behind a statement of a generator -/
structure GDs where
  nx : List DW.D → DEnv → Sto → Prop
  rt : List DW.D → DW.D → Sto → Prop
  bk : List DW.D → DEnv → Sto → Prop
  ct : List DW.D → DEnv → Sto → Prop
abbrev DGn := XP → GDs → List DW.D → DEnv → Sto → Prop
section
variable {K : Fg} {B : Bx K}
def dGPlain (ω : DSt) : DGn := fun Ψ Δ es δ μ => ω Ψ ⟨Δ.nx es, Δ.rt es, Δ.bk es, Δ.ct es⟩ δ μ
def dGThen (ω ζ : DGn) : DGn := fun Ψ Δ es δ μ => ω Ψ ⟨fun es' δ' μ' => ζ Ψ Δ es' δ' μ', Δ.rt, Δ.bk, Δ.ct⟩ es δ μ
def dGNil : DGn := fun _ Δ es δ μ => Δ.nx es δ μ
def dYield (φ : DE) : DGn := fun Ψ Δ es δ μ => es.length ≤ 100000 ∧ φ Ψ δ μ fun x μ1 => Δ.nx (es ++ [x]) δ μ1
def dGWhile (θ : DT) (ω : DGn) : DGn := fun Ψ Δ es δ μ => ∃ W : Nat → List DW.D → DEnv → Sto → Prop, (∃ m, W m es δ μ) ∧ ∀ m es δ μ, W m es δ μ → θ Ψ δ μ fun b μ1 =>
  (b = true → ω Ψ ⟨fun es' δ' μ' => ∃ m', m' < m ∧ W m' es' δ' μ', Δ.rt, Δ.nx, fun es' δ' μ' => ∃ m', m' < m ∧ W m' es' δ' μ'⟩ es δ μ1) ∧ (b = false → Δ.nx es δ μ1)
end
theorem passN {X : Cx} : Passes (L2N.CX X.prog X.w) X E0 := fun _ _ _ _ _ _ _ h => by
  obtain ⟨_, _, _, _, _, _, _, _, _, _, _, _, z⟩ := h
  exact z.elim
/-- THE RULE for a def, whatever the air -/
theorem def_okC {CX : CXT} {P : Program} {w : World} {K : Fg} {mg : Str → Option Value} {base : Heap} {x qual : Str} {st : Stmt} {f : Addr} {fd : FuncData} {N ps : List Str} {k : Nat} {c : Con} (F : Fun K x qual st f fd) (Sc : FnScope N ps (defScope st)) (φ : DSt)
    (hl : ∀ ds μ Φ Ψ, c ds μ Φ Ψ → ds.length = ps.length)
    (hb : ∀ (cdv : Value) (A : Around) (outer : List Env) (s : Shared) (H : Hp) (E : XK) (B : Bx K), B.W = (fun cls d _ H => E cls d H) → Room k (A.deeper (PyProof.Rows.envOfC qual (defScope st) s.heap.objs.size f cdv)) →
      ∃ t, PSs (cxOf CX P w K mg base N qual (defScope st) f cdv A outer s H E) (defBody st) t ∧ SS B t φ)
    (hv : ∀ ds μ Φ Ψ, c ds μ Φ Ψ → φ (goalX Ψ) (goalE Φ) (dstart N ds) μ) : FnOk P w K mg base CX (k + 1) f fd ps (spOf K c) := by
  obtain ⟨oc, od, kV, doc, pm, an, cdv, ct, osl, rfl, lk, hcd⟩ := F.ex
  refine fn_of lk hcd Sc (fun vs H Q E h => ?_) (fun A outer s H vs Q E hr h => ?_)
  · obtain ⟨μ, ds, Φ, Ψ, _, r, hc, _⟩ := h
    rw [r.length]
    exact hl ds μ Φ Ψ hc
  · obtain ⟨μ, ds, Φ, Ψ, s0, r, hc, hq, hx⟩ := h
    let B : Bx K := ⟨H, μ, fun cls d _ H => E cls d H, goalX Ψ, fun cls dd σ H' x δ μ' S rx ⟨μ2, hs, q⟩ => hx cls dd H' x μ2 (S.evo.trans hs.evo) (hs.sto S.sto) (rx.mono hs.evo) q⟩
    obtain ⟨t, ht, hs⟩ := hb cdv A outer s H E B rfl hr
    refine ⟨t, ht, hs { nx := fun _ H' => Q .non H', rt := Q } (goalE Φ) (L2.start N vs) H (dstart N ds) μ ⟨fun σ H' δ μ' S ⟨μ2, h2, q⟩ => ?_, fun v H' d μ' σ δ S rv ⟨μ2, h2, q⟩ => ?_, fun _ _ _ _ _ z => z, fun _ _ _ _ _ z => z⟩ ⟨.refl, s0, env_start r⟩ (hv ds μ Φ Ψ hc)⟩
    · exact hq .non H' .non μ2 (S.evo.trans h2.evo) (h2.sto S.sto) (.non .nil) q
    · exact hq v H' d μ2 (S.evo.trans h2.evo) (h2.sto S.sto) (rv.mono h2.evo) q
section
variable {K : Fg} {φ : DE} {ψ : DA} {Ψ : XP} {δ : DEnv} {μ : Sto} {Φ : DK} {ω ζ : DSt} {Δ : DEnds} {ds es : List DW.D} {k : Int} {Γ : GDs} {α β : DGn} {θ : DT} {c : ConG} {cv : Value} {i : Nat} {ξ : Addr → XD → DSt}
theorem u_revT : dRevT φ Ψ δ μ Φ = φ Ψ δ μ fun x μ1 => ∃ ds, x = .tup ds ∧ Φ (.tup ds.reverse) μ1 := rfl
theorem w_repT : oRepT (.tup ds) (.int k) μ Φ = (k ≤ 1000 ∧ -1000000 ≤ k ∧ ds.length ≤ 1000 ∧ Φ (.tup (List.replicate k.toNat ds).flatten) μ) := propext ⟨fun ⟨a, b, e1, e2, q⟩ => by cases e1; cases e2; exact q, fun q => ⟨_, _, rfl, rfl, q⟩⟩
theorem u_tupG : dTupG c ψ Ψ δ μ Φ = ψ Ψ δ μ fun xs μ1 => c xs μ1 fun es μ2 => Φ (.tup es) μ2 := rfl
theorem u_try : dTryAs K cv i ω ξ Ψ Δ δ μ = ω (fun x δ' μ' => ∃ b, (match x with | .mk D _ => PySem.W.exmOne K (.ref D) cv) = some b ∧
  (b = true → ∀ a, μ' a = none → ξ a x Ψ ⟨fun δ2 μ2 => Δ.nx (δ2.set i none) μ2, Δ.rt, fun δ2 μ2 => Δ.bk (δ2.set i none) μ2, fun δ2 μ2 => Δ.ct (δ2.set i none) μ2⟩ (δ'.set i (some (.hd (.ref a)))) μ') ∧ (b = false → Ψ x δ' μ')) Δ δ μ := rfl
theorem u_gPlain : dGPlain ω Ψ Γ es δ μ = ω Ψ ⟨Γ.nx es, Γ.rt es, Γ.bk es, Γ.ct es⟩ δ μ := rfl
theorem u_gThen : dGThen α β Ψ Γ es δ μ = α Ψ ⟨fun es' δ' μ' => β Ψ Γ es' δ' μ', Γ.rt, Γ.bk, Γ.ct⟩ es δ μ := rfl
theorem u_gNil : dGNil Ψ Γ es δ μ = Γ.nx es δ μ := rfl
theorem u_yield : dYield φ Ψ Γ es δ μ = (es.length ≤ 100000 ∧ φ Ψ δ μ fun x μ1 => Γ.nx (es ++ [x]) δ μ1) := rfl
theorem u_gWhile : dGWhile θ α Ψ Γ es δ μ = ∃ W : Nat → List DW.D → DEnv → Sto → Prop, (∃ m, W m es δ μ) ∧ ∀ m es δ μ, W m es δ μ → θ Ψ δ μ fun b μ1 =>
  (b = true → α Ψ ⟨fun es' δ' μ' => ∃ m', m' < m ∧ W m' es' δ' μ', Γ.rt, Γ.nx, fun es' δ' μ' => ∃ m', m' < m ∧ W m' es' δ' μ'⟩ es δ μ1) ∧ (b = false → Γ.nx es δ μ1) := rfl
theorem u_while : dWhile θ ω Ψ Δ δ μ = ∃ W : Nat → DEnv → Sto → Prop, (∃ m, W m δ μ) ∧ ∀ m δ μ, W m δ μ → θ Ψ δ μ fun b μ1 =>
  (b = true → ω Ψ { Δ with nx := fun δ' μ' => ∃ m', m' < m ∧ W m' δ' μ', ct := fun δ' μ' => ∃ m', m' < m ∧ W m' δ' μ', bk := Δ.nx } δ μ1) ∧ (b = false → Δ.nx δ μ1) := rfl
theorem u_isX {a : Addr} {x : XD} {c : V} : cIsX K a x [.hd (.ref a), .hd c] μ Φ = ∃ b, kitD K x c = some b ∧ excOk K x ∧ Φ (.bl b) μ := propext ⟨fun ⟨c', b, e, q⟩ => by cases e; exact ⟨b, q⟩, fun ⟨b, q⟩ => ⟨c, b, rfl, q⟩⟩
theorem u_kitR {C T : Addr} : kitD K (.mk C none) (.ref T) = PySem.W.kitOne K (.ref C) (.ref T) := rfl
theorem u_kitT {C : Addr} {T : String} : kitD K (.mk C none) (.ty T) = PySem.W.kitOne K (.ref C) (.type T) := rfl
theorem u_excOk {C : Addr} : excOk K (.mk C none) = L2.ExcC K C := rfl
theorem w_zipE {P : List DW.D → List DW.D → Prop} : (∃ xs ys, D.tup ds = D.tup xs ∧ D.tup es = D.tup ys ∧ P xs ys) = P ds es := propext ⟨fun ⟨a, b, e1, e2, q⟩ => by cases e1; cases e2; exact q, fun q => ⟨_, _, rfl, rfl, q⟩⟩
theorem u_goalX {G : XD → Sto → Prop} {x : XD} : goalX G x δ μ = ∃ μ2, Sub μ2 μ ∧ G x μ2 := rfl
theorem cut_to (p : Nat) : cutD ds none (some (p : Int)) = ds.take p := by
  unfold cutD
  show (ds.drop 0).take (min (p : Int).toNat ds.length - 0) = _
  rw [List.drop_zero, Nat.sub_zero, Int.toNat_natCast]
  by_cases h : p ≤ ds.length
  · rw [Nat.min_eq_left h]
  · rw [Nat.min_eq_right (by omega), List.take_length, List.take_of_length_le (by omega)]
theorem cut_from (p : Nat) : cutD ds (some (p : Int)) none = ds.drop p := by
  unfold cutD
  show (ds.drop (min (p : Int).toNat ds.length)).take (ds.length - min (p : Int).toNat ds.length) = _
  rw [Int.toNat_natCast]
  by_cases h : p ≤ ds.length
  · rw [Nat.min_eq_left h, List.take_of_length_le (by rw [List.length_drop]; omega)]
  · rw [Nat.min_eq_right (by omega), List.drop_length, List.take_nil, List.drop_eq_nil_of_le (by omega)]
theorem cut_from1 (p : Nat) : cutD ds (some ((p : Int) + 1)) none = ds.drop (p + 1) := cut_from (p + 1)
end
end DW
set_option Elab.async false
set_option linter.all false
set_option maxRecDepth 100000
set_option maxHeartbeats 4000000
namespace DW
open PySem PySem.Spec PyProof.Rows L2
section
variable {K : Fg} {B : Bx K} {te ta tb : TE} {φ φa φb : DE} {tl th : TO} {ol oh : XP → DEnv → Sto → (Option Int → Sto → Prop) → Prop}
def oCatS : DO := fun x y μ Φ => ∃ s t, x = .str s ∧ y = .str t ∧ s.length + t.length ≤ 100000 ∧ Φ (.str (s ++ t)) μ
def oInS (neg : Bool) : DO := fun x y μ Φ => ∃ (c : Nat) (z : Str), x = .str ⟨#[c]⟩ ∧ y = .str z ∧ Φ (.bl (if neg then !decide (c ∈ z.cps.toList) else decide (c ∈ z.cps.toList))) μ
def oIxS : DO := fun x y μ Φ => ∃ z i c, x = .str z ∧ y = .int i ∧ z.length ≤ 100000 ∧ atI z.cps.toList i = some c ∧ Φ (.str ⟨#[c]⟩) μ
def dSlS (φ : DE) (ol oh : XP → DEnv → Sto → (Option Int → Sto → Prop) → Prop) : DE := fun Ψ δ μ Φ => φ Ψ δ μ fun x μ1 => ol Ψ δ μ1 fun lo μ2 => oh Ψ δ μ2 fun hi μ3 => ∃ z, x = .str z ∧ z.length ≤ 100000 ∧ Φ (.str (cutS z lo hi)) μ3
def cStr : DC := fun xs μ Φ => (∃ i, xs = [.int i] ∧ i.natAbs.log2 < 1920 ∧ Φ (.str (toString i)) μ) ∨ ∃ a, xs = [.str a] ∧ Φ (.str a) μ
end
end DW
set_option Elab.async false
set_option linter.all false
set_option maxRecDepth 100000
set_option maxHeartbeats 4000000
namespace DW
open PySem PySem.Spec PyProof.Rows L2
theorem meets_enum1 {v : Value} {o : Obj} {H : Heap → Prop} (B : Begins v o H) :
    Meets (Builtin.«enumerate.__new__» ⟨[.type "enumerate", v], []⟩) (fun _ R s => H s.heap ∧
      R (.ok (.ret (.ref (s.heap.push o).objs.size))) { s with heap := (s.heap.push o).push { cls := .type "enumerate", data := .fields #[.none, .bool false, .ref s.heap.objs.size, rawInt 0, .none, .none] } }) :=
  .of_wp fun prog w A R s h => by
    obtain ⟨hp, g, d, tk, os⟩ := s
    obtain ⟨h1, h⟩ := h
    have hsub := sub_enumerate
    have itr : ∀ {A' : Around} {E : Value → Shared → Prop} {Q : Value → Shared → Prop}, Q (.ref hp.objs.size) ⟨hp.push o, g, d, tk, os⟩ → wpAny (model prog w) A' (pyIter v) Q E ⟨hp, g, d, tk, os⟩ :=
      fun q => B.iter prog w _ _ ⟨hp, g, d, tk, os⟩ _ h1 q
    wp_walk using itr
    refine wpAny_stack_any fun st => wpAny_pure ?_
    split
    · rename_i c _ _ _ _ _
      cases (c == Value.type "enumerate") <;> (wp_walk using itr; exact ⟨_, rfl, h⟩)
    · wp_walk using itr
      exact ⟨_, rfl, h⟩
theorem enum_one {prog : Program} {w : World} {A : Around} {E : Value → Shared → Prop} {s : Shared} {v : Value} {o : Obj} {H : Heap → Prop} {Q : Value → Shared → Prop} (B : Begins v o H) (h1 : H s.heap)
    (h : ∀ h', IsEnum h' (s.heap.objs.size + 1) s.heap.objs.size 0 .none → h'.get? s.heap.objs.size = some o → h'.objs.size = s.heap.objs.size + 2 →
      (∀ b o, s.heap.get? b = some o → h'.get? b = some o) → Q (.ref (s.heap.objs.size + 1)) { s with heap := h' }) :
    wpAny (model prog w) A (call (.type "enumerate") [v]) Q E s := by
  refine callType_new F.called_enumerate (by decide) (F.typeCall_enumerate_1 _) (F.newCall_enumerate_1 _) (fun obj => F.args_object_init_2 obj _) F.entry_enumerate_new (meets_enum1 B) ⟨h1, ?_⟩
  have hz : (s.heap.push o).objs.size = s.heap.objs.size + 1 := Heap.size_push ..
  have he := Heap.get?_push_size (s.heap.push o) (o := { cls := .type "enumerate", data := .fields #[.none, .bool false, .ref s.heap.objs.size, rawInt 0, .none, .none] }) rfl
  rw [hz] at he
  show _ ∧ _
  rw [hz]
  exact ⟨⟨_, he, rfl⟩, h _ he (Heap.get?_push_of_some _ (Heap.get?_push_size _ B.free)) (by rw [Heap.size_push, hz]) fun b o x => Heap.get?_push_of_some _ (Heap.get?_push_of_some _ x)⟩
/-- the tuple at a, counted from c -/
def IteT (K : Fg) (a : Addr) (n : Nat) (c : Int) : It :=
  ⟨fun i H => i < n ∧ ∃ (xs : List V) (x : V), SqT K H a xs ∧ xs[i]? = some x, fun i H v H' => ∃ T x, v = .ref T ∧ H T = none ∧ H' = upd H T (.tup [.int (c + (i : Nat)), x]) ∧ ∀ xs, SqT K H a xs → xs[i]? = some x, fun i H => n ≤ i ∧ ∃ xs : List V, SqT K H a xs ∧ xs.length = n⟩
theorem enum_apart {h : Heap} {e it t : Addr} {c : Int} {i : Nat} {old : Value} {items : Array Value} (he : IsEnum h e it c old) (hi : h.IsTupleIter it t i) (ht : h.IsTuple t items) : t ≠ it ∧ e ∉ [it, t] ∧ e ≠ it := by
  obtain ⟨o1, e1, c1, _⟩ := hi
  obtain ⟨o2, e2, c2, _⟩ := ht
  have n1 : t ≠ it := fun z => by subst z; rw [e1] at e2; cases e2; rw [c1] at c2; exact absurd (Value.type.inj c2) (by decide)
  have n2 : e ≠ it := fun z => by
    subst z
    have q : h.get? e = some _ := he
    rw [e1] at q; cases q; exact absurd (Value.type.inj c1) (by decide)
  have n3 : e ≠ t := fun z => by
    subst z
    have q : h.get? e = some _ := he
    rw [e2] at q; cases q; exact absurd (Value.type.inj c2) (by decide)
  exact ⟨n1, by simp [n2, n3], n2⟩
theorem turn_enumT {P : Program} {w : World} {K : Fg} {elts : List Expr} {kk : Nat} {tpos : Pos} (a e it : Addr) (n : Nat) (c : Int) :
    Turn P w K (.Tuple elts kk tpos) (IteT K a n c) [e, it] e (fun i h => i ≤ n ∧ (∃ old, IsEnum h e it (c + (i : Nat)) old) ∧ h.IsTupleIter it a i ∧ e ≠ it) where
  mem := by simp
  obj := fun i h st b hb => by
    obtain ⟨_, ⟨old, he⟩, ⟨o, ho, hc, hd⟩, _⟩ := st
    rcases (show b = e ∨ b = it by simpa using hb) with z | z
    · rw [z]; exact ⟨_, he, fun v q => nomatch q⟩
    · rw [z]; exact ⟨o, ho, fun v q => by rw [hd] at q; cases q⟩
  keep := fun i h h' st k => by
    obtain ⟨hin, ⟨old, he⟩, ⟨o, ho, r⟩, hne⟩ := st
    exact ⟨hin, ⟨old, k e (by simp) _ he⟩, ⟨o, k it (by simp) o ho, r⟩, hne⟩
  item := by
    intro X hP hw hK hc i pins s σ H E I hf st hg
    subst hP hw hK
    obtain ⟨hin, ⟨old, he⟩, hit, hne⟩ := st
    obtain ⟨hlt, xs, x, hq, hx⟩ := hg
    obtain ⟨its, rv, p, hz⟩ := I.tuple hq
    obtain ⟨u, hu, ru⟩ := rv.get hx
    have pt : s.heap.IsTuple a its.toArray := p
    obtain ⟨n1, n2, n3⟩ := enum_apart he hit pt
    have hel : e < s.heap.objs.size := Heap.lt_size he
    have hil : it < s.heap.objs.size := by obtain ⟨_, q, _⟩ := hit; exact Heap.lt_size q
    have hiu : i < its.toArray.size := by rw [List.size_toArray]; exact (List.getElem?_eq_some_iff.mp hu).1
    refine wpAny_pyNext_enum_itemC (Draws.tuple (A := X.A.in1) (I.ok.hd hc) it a n1 its.toArray) he ⟨hit, pt⟩ hiu n3 n2 fun y h' tk hP ho hst hT hsz hk => ?_
    have hy : y = u := by
      have q : its.toArray[i]? = some y := hP
      have q2 : its.toArray[i]? = some u := by simpa using hu
      rw [q2] at q; exact (Option.some.inj q).symm
    subst hy
    refine ⟨_, rfl, wpAny_letOwnedTupleGo_enum (s := { s with heap := h', toks := tk + 1 }) ho fun h'' he' sb => ?_⟩
    have hT2 := (sb.2 _ (Nat.ne_of_gt hel)).trans hT
    have new : ObjOk X.prog X.w (upd H s.heap.objs.size (.tup [.int (c + (i : Nat)), x])) h'' s.heap.objs.size (.tup [.int (c + (i : Nat)), x]) :=
      ⟨by show 2 ≤ sizeLine; decide, [.int (c + (i : Nat)) tk, y], .cons ⟨_, rfl⟩ (.cons ru .nil), ⟨_, hT2, rfl, _, rfl⟩⟩
    have I1 : Inv X pins σ (upd H s.heap.objs.size (.tup [.int (c + (i : Nat)), x])) { s with heap := h'', toks := tk + 1 } :=
      I.turnedNew (ch := [e, it]) (fun b ob hb q => (sb.2 b (fun z => hb (by simp [z]))).trans (hk b ob (fun z => hb (by simp [z])) (fun z => hb (by simp [z])) q)) hf (Nat.le_refl _) new
    refine ⟨.ref s.heap.objs.size, _, I1, rfl, ⟨_, x, rfl, I.hok.fresh (Nat.le_refl _), rfl, fun ys hy => by rw [I.tuple_inj hy hq]; exact hx⟩, ⟨hlt, ⟨y, ?_⟩, ?_, hne⟩, fun b hb => ?_⟩
    · have e1 : c + ((i + 1 : Nat) : Int) = c + ((i : Nat) : Int) + 1 := by omega
      rw [e1]; exact he'
    · obtain ⟨o, q, r⟩ := hst.1
      exact ⟨o, (sb.2 it (Ne.symm hne)).trans q, r⟩
    · have hb' : b < s.heap.objs.size := by
        rcases (show b = e ∨ b = it by simpa using hb) with z | z <;> (rw [z]; assumption)
      rw [upd_ne (Nat.ne_of_lt hb')]
      exact (hf b hb).1
  done := by
    intro X hP hw hK hc i pins s σ H E I hf st hg
    subst hP hw hK
    obtain ⟨hin, ⟨old, he⟩, hit, hne⟩ := st
    obtain ⟨hle, xs, hq, hx⟩ := hg
    obtain ⟨its, rv, p, hz⟩ := I.tuple hq
    have pt : s.heap.IsTuple a its.toArray := p
    obtain ⟨n1, n2, n3⟩ := enum_apart he hit pt
    obtain ⟨f0, f1, f2, f3, f4, f5⟩ := hf it (by simp)
    have hl := rv.length
    have hi : i = its.toArray.size := by rw [List.size_toArray]; omega
    subst hi
    exact wpAny_pyNext_enum_endD (Draws.tuple (A := X.A.in1) (I.ok.hd hc) it a n1 its.toArray) he ⟨hit, pt⟩ fun h' eb => ⟨rfl, I.turned (t' := s.toks) (fun b o hb q => eb b o hb q) f0 f1 f3 f4 f5⟩
  self := fun A i s Q E st h => let ⟨_, ⟨_, he⟩, _⟩ := st; wpAny_pyIter_enum he h
def iEnumT (K : Fg) (c : Int) (ta : TA) : TI := fun σ H R => ta σ H fun vs H1 => ∃ a xs, vs = [.ref a] ∧ SqT K H1 a xs ∧ R (IteT K a xs.length c) H1
theorem pie_enumT {X : Cx} {pins : List (Addr × Obj)} {σ : L2.St} {H1 : Hp} {s1 : Shared} {h' : Heap} {a : Addr} {xs : List V} {c : Int} {R : It → Hp → Prop} {elts : List Expr} {kk : Nat} {tpos : Pos} (I1 : Inv X pins σ H1 s1) (hq : SqT X.K H1 a xs)
    (he : IsEnum h' (s1.heap.objs.size + 1) s1.heap.objs.size c .none) (ho : h'.get? s1.heap.objs.size = some { cls := .type "tuple_iterator", data := .fields #[.ref a, .int 0 0] })
    (hk : ∀ b o, s1.heap.get? b = some o → h'.get? b = some o) (q : R (IteT X.K a xs.length c) H1) : PIE X pins σ (.Tuple elts kk tpos) R (.ref (s1.heap.objs.size + 1)) { s1 with heap := h' } := by
  refine ⟨s1.heap.objs.size + 1, [s1.heap.objs.size + 1, s1.heap.objs.size], _, _, H1, rfl, I1.kept (t' := s1.toks) hk, turn_enumT a (s1.heap.objs.size + 1) s1.heap.objs.size xs.length c, ⟨Nat.zero_le _, ⟨.none, ?_⟩, ⟨_, ho, rfl, rfl⟩, Nat.succ_ne_self _⟩, fun b hb => ?_, q⟩
  · have e : c + ((0 : Nat) : Int) = c := by omega
    rw [e]; exact he
  · have hle : s1.heap.objs.size ≤ b := by
      rcases (show b = s1.heap.objs.size + 1 ∨ b = s1.heap.objs.size by simpa using hb) with z | z
      · rw [z]; exact Nat.le_succ _
      · rw [z]; exact Nat.le_refl _
    exact I1.fpOk hle (I1.hok.fresh hle)
/-- for i, x in enumerate(t) -/
theorem pi_enumT {X : Cx} {e : Expr} {ta : TA} {p pos tpos : Pos} {elts : List Expr} {kk : Nat} (hg : Gl X "enumerate") (hm : X.mg "enumerate" = none) (ha : PA X [e] ta) (hs : starEach [e] X.env = [(false, eval e X.env)] := by rfl) :
    PI X (.Tuple elts kk tpos) (.Call (.Name "enumerate" p) [e] [] pos) (iEnumT X.K 0 ta) := by
  refine ⟨fun pins s σ H R I h => ?_⟩
  refine Call_ (ld_blt I hg hm boot_enumerate (PyProof.Rows.callWith_type1 (thn (ha.run pos pins s σ H _ I h) fun us s1 ⟨vs, H1, I1, r1, q1⟩ => ?_) hs rfl))
  obtain ⟨a, xs, rfl, hq, q⟩ := q1
  rw [Vals.ref1 r1]
  obtain ⟨its, rv, p', hz⟩ := I1.tuple hq
  exact enum_one (begins_tuple a its.toArray) p' fun h' he ho hsz hk => wpAny_pyIter_enum he (pie_enumT I1 hq he ho hk q)
def iEnD (φ : DE) (c : Int) : DI := fun Ψ δ μ Φ => φ Ψ δ μ fun x μ1 => ∃ ds, x = .tup ds ∧ Φ ((List.range ds.length).map fun (i : Nat) => .pr [.int (c + (i : Int)), ds.getD i .non]) μ1
theorem siEnumT {K : Fg} {B : Bx K} {te : TE} {φ : DE} {c : Int} (a : SE B te φ) : SI B (iEnumT K c (tCons te tNil)) (iEnD φ c) := fun σ H δ μ Φ R S q k =>
  a σ H δ μ _ _ S q fun v H1 x μ1 S1 e1 r1 q1 => by
    obtain ⟨ds, rfl, q2⟩ := q1
    obtain ⟨p, vs, rfl, h1, h2⟩ := Rep.tup_inv r1
    refine ⟨p, vs, rfl, h1.sq, k _ _ H1 μ1 S1 e1 (fun i H3 μ3 s3 e3 => ?_) q2⟩
    rw [List.length_map, List.length_range]
    have hl := h2.length
    refine ⟨fun hi => ?_, fun hi => ⟨by omega, vs, (h1.mono e3).sq, rfl⟩⟩
    have hv : i < vs.length := by omega
    refine ⟨⟨hv, vs, vs[i], (h1.mono e3).sq, List.getElem?_eq_getElem hv⟩, fun z H' hy => ?_⟩
    obtain ⟨T, u, rfl, hT, rfl, hu⟩ := hy
    obtain ⟨d, hd, rd⟩ := (h2.mono e3).getV (hu vs (h1.mono e3).sq)
    refine ⟨.pr [.int (c + (i : Int)), d], ?_, s3.new hT, .new hT, rep_tup s3 hT (.cons (.int _ .nil) (.cons rd .nil))⟩
    rw [List.getElem?_map, List.getElem?_range hi]
    show some (D.pr [D.int (c + (i : Int)), ds.getD i .non]) = _
    rw [List.getD_eq_getElem?_getD, hd]
    rfl
end DW
set_option Elab.async false
set_option linter.all false
set_option maxRecDepth 100000
set_option maxHeartbeats 4000000
namespace DW
open PySem PySem.Spec PyProof.Rows L2 NdefX PySem.W
/-- a method that may say super(): its body, at its own activation -/
theorem supfn_of {CX : CXT} {P : Program} {w : World} {K : Fg} {mg : Str → Option Value} {base : Heap} {k : Nat} {f C cc cda : Addr} {name qual : Str} {params : Arguments} {body : List Stmt} {scope : Scope} {kV doc pm ct oc cl : Value} {an od cld : Option Addr}
    {osl csl : Array (Option Value)} {N ps : List Str} {sp : Sp} (lk : K.lookup f = some ⟨oc, od, .func (ksFn name qual params body scope .none kV doc pm an (.ref cda) ct cc), osl⟩) (hcd : codeIn K (.ref cda) qual = true) (S : NScope N ps ["__class__"] scope)
    (lcc : K.lookup cc = some ⟨cl, cld, .cell (some (.ref C)), csl⟩)
    (len : ∀ vs H Q E, sp vs H Q E → vs.length = ps.length)
    (hbody : ∀ (A : Around) (outer : List Env) (s s1 : Shared) (H : Hp) (vs : List V) (Q : VK) (E : XK), Room k (A.deeper (envF ⟨name, qual, params, body, scope, [("__class__", cc)], cda⟩ f s.heap.objs.size)) → sp vs H Q E →
      Inv (ncx CX P w K mg base N ⟨name, qual, params, body, scope, [("__class__", cc)], cda⟩ f A outer s H E) [] (startF N vs [none]) H s1 →
      _root_.PySem.wpAt (model P w) (A.deeper (envF ⟨name, qual, params, body, scope, [("__class__", cc)], cda⟩ f s.heap.objs.size)) (.func body (envF ⟨name, qual, params, body, scope, [("__class__", cc)], cda⟩ f s.heap.objs.size)) (execs body (envF ⟨name, qual, params, body, scope, [("__class__", cc)], cda⟩ f s.heap.objs.size))
        (SP (ncx CX P w K mg base N ⟨name, qual, params, body, scope, [("__class__", cc)], cda⟩ f A outer s H E) [] { nx := fun _ H' => Q .non H', rt := Q }) (ncx CX P w K mg base N ⟨name, qual, params, body, scope, [("__class__", cc)], cda⟩ f A outer s H E).xe s1) :
    FnOk P w K mg base CX (k + 1) f (ksFn name qual params body scope .none kV doc pm an (.ref cda) ct cc) ps sp := by
  refine ⟨len, fun A outer s H args us vs Q E hr e0 hb r hsp => ?_⟩
  have hl := len _ _ _ _ hsp
  have KX : K.In s.heap := e0.mod.kin.keeps fun b o e => (e0.bs b o e).1
  have lim : s.heap.NoLimit := e0.mod.nolimit.keeps fun b o e => (e0.bs b o e).1
  refine ks_codeAny_call_defAt (fd := ksFn name qual params body scope .none kV doc pm an (.ref cda) ct cc) (body := body) (binds := ps.zip us) hr.depth (KX _ _ lk) rfl lim (codeRec_of KX hcd) rfl hb S.nocell (fun ⟨n, _⟩ hy => S.par n (List.of_mem_zip hy).1) (fun h₁ hns hk₁ => ?_) S.co S.gen S.kind
  have Cc : CellsAt [("__class__", cc)] ["__class__"] [none] s.heap H := by
    refine ⟨rfl, fun y c e => ?_, fun x y c e1 e2 => ?_, fun i y e => ?_⟩
    · have ec : c = cc := by
        simp only [List.lookup] at e
        split at e <;> simp_all
      subst ec
      exact ⟨(e0.bs _ _ (e0.mod.kin _ _ lcc)).2, _, _, KX _ _ lcc, rfl⟩
    · simp only [List.lookup] at e1 e2
      split at e1 <;> split at e2 <;> simp_all
    · cases i with
      | zero => cases e; exact ⟨cc, rfl, fun v z => by cases z⟩
      | succ i => cases i <;> cases e
  have I := inv_startN (CX := CX) (P := P) (w := w) (K := K) (mg := mg) (base := base) (F := ⟨name, qual, params, body, scope, [("__class__", cc)], cda⟩) (f := f) (E := E) (tk := s.toks + (ps.zip us).length) S hr.hd e0 hl r Cc hns hk₁
  refine ks_wpAt_mono (hbody A outer s _ H vs Q E (hr.deeper _) hsp I) (fun fl s' hs => ?_) fun e s' hs => hs
  have fin : ∀ {σ' : L2.St} {H' : Hp} {v : V} {u : Value}, Inv (ncx CX P w K mg base N ⟨name, qual, params, body, scope, [("__class__", cc)], cda⟩ f A outer s H E) [] σ' H' s' → L2.RelV v u → Q v H' → CE outer P w H s Q u s' :=
    fun {σ' H' v u} J rv q => ⟨v, H', J.os, J.bare, J.base, J.hok, rv, q⟩
  cases fl with
  | ret u =>
    obtain ⟨v, σ', H', J, rv, q⟩ := hs
    exact fin J rv q
  | next =>
    obtain ⟨σ', H', J, q⟩ := hs
    exact fin (v := V.non) (u := Value.none) J rfl q
  | brk =>
    obtain ⟨_, _, _, q⟩ := hs
    exact False.elim q
  | cont =>
    obtain ⟨_, _, _, q⟩ := hs
    exact False.elim q
end DW
set_option Elab.async false
set_option linter.all false
set_option maxRecDepth 100000
set_option maxHeartbeats 4000000
namespace DW
open PySem PySem.Spec PyProof.Rows L2 NdefX PySem.W
/-- the call of the bound __init__ -/
theorem mw_init {X : Cx} {pins : List (Addr × Obj)} {σ : L2.St} {H : Hp} {s : Shared} {a C u : Addr} {us : List Value} {A : Around} {E : Value → Shared → Prop} {Q : Value → Shared → Prop} (T : OexC X.K C) (I : Inv X pins σ H s) (e : H a = some (exo a C none)) (hu : s.heap.get? u = some (kxs_mw "ValueError.__init__" a)) (hl : us.length ≤ sizeLine)
    (h : ∀ s', Inv X pins σ H s' → Q .none s') : wpAny (model X.prog X.w) A (call (.ref u) us) Q E s := by
  obtain ⟨nm, q, N, bs, bm, sn, sub, ab, col, dd, k0, k1, k2, k3, k5, hC, hbm⟩ := T.cls
  obtain ⟨t1, ho⟩ := exo_at I.hok e
  have hC1 := I.kIn _ _ hC
  obtain ⟨hp, g, d, t, os⟩ := s
  have fin : ∀ h', (∀ b o, b ≠ a → hp.get? b = some o → h'.get? b = some o) → h'.get? a = some (excRec (.ref C) hp.objs.size none .none .none (.bool false)) → h'.get? hp.objs.size = some (excTup us) → Q .none ⟨h', g, d, t, os⟩ := fun h' k hx _ => by
    have J := I.write (t' := t) (x := a) (e := a) (o := exo a C none) (by rw [e]; exact True.intro) (.inl rfl) k ⟨_, hx⟩ (exo_ok hx)
    have eu : upd H a (exo a C none) = H := by
      funext b
      by_cases hb : b = a
      · rw [hb, upd_same, e]
      · rw [upd_ne hb]
    rw [eu] at J
    exact h _ J
  refine wpAny_call (codeAny_of_tree ?_)
  show wpAny _ A.in1 (callAny (.ref u) ⟨us, []⟩) _ _ _
  simp only [callAny]
  refine wpAny_bind (wpAny_load hu ?_)
  simp only [kxs_mw, show (Value.type "method-wrapper" == Value.type "method" || Value.type "method-wrapper" == Value.type "builtin_function_or_method" || Value.type "method-wrapper" == Value.type "method-wrapper") = true by decide, if_true]
  refine KFB.if_so (by decide) ?_
  refine wpAny_bind (check_bound_init PySem.F.excBase_ValueError.toExcCallFacts hC1 ho rfl ?_)
  refine wpAny_bind (wpAny_pure (wpAny_pure ?_))
  refine ⟨plainId_quiet PySem.F.excBase_ValueError.init.plain _, codeAny_builtin PySem.F.excBase_ValueError.initEntry ?_⟩
  exact exc_init_tree (cls := .ref C) (t0 := t1) (dv := none) (c2 := .none) (c3 := .none) (b4 := .bool false) ho hl fin
/-- what the written part says of a class whose __init__ says super().__init__(..) -/
structure SupC (K : Fg) (C D cc f cda : Addr) (file : Str) : Prop where
  ox : OexC K C
  cell : ∃ cl cld csl, K.lookup cc = some ⟨cl, cld, .cell (some (.ref D)), csl⟩
  own : isClsIn K D = true
  sub : mroIn K C (.ref D) = some true
  ve : subIn K (.ref C) (.type "ValueError") = some true
  opq : nsIn K cStatics "thirdparty.any" = some none
  sup : ks_superIn K C D "__init__" = some (some (.builtin "ValueError.__init__"))
  code : ∃ ccl cdd vs ccs tf, K.lookup cda = some ⟨ccl, cdd, .fields vs, ccs⟩ ∧ vs[2]? = some (.str file tf)
theorem super_line {X : Cx} {qual : Str} {scope : Scope} {L f cda cc a C D : Addr} {file : Str} {fd : FuncData} {oc : Value} {od : Option Addr} {osl : Array (Option Value)} {body : List Stmt} {p0 p1 p2 p3 p4 : Pos} {e1 : Expr} {te : TE} {σ : L2.St} {H : Hp} {s : Shared} {G : Shared → Prop} {ar : Arg}
    (hX : X.env = ksEnv qual scope L f (.ref cda) cc) (T : SupC X.K C D cc f cda file) (hf : X.K.lookup f = some ⟨oc, od, .func fd, osl⟩) (hp : (fd.params.posonlyargs ++ fd.params.args).head? = some ar)
    (hfile : ((X.prog.main.file : Str) == file) = true) (htop : (X.prog.main.scope.names.lookup ("super" : Str)).isSome = false) (hms : X.mg "super" = none)
    (hks : scope.names.lookup ("super" : Str) = some .globalImplicit) (hkc : scope.names.lookup ("__class__" : Str) = some .free) (hka : scope.names.lookup ar.arg = some .local)
    (I : Inv X [] σ H s) (hN : X.N[0]? = some ar.arg) (h0 : σ[0]? = some (some (.ref a))) (ea : H a = some (exo a C none)) (he : PE X e1 te)
    (hst : starEach [e1] X.env = (false, eval e1 X.env) :: starEach [] X.env) (hpl : (backTo p3 (starEach [] X.env)).any (·.1) = false)
    (hi : interactive X.env = false) (hsw : swapsWith (.Call (.Attribute (.Call (.Name "super" p0) [] [] p1) "__init__" p2) [e1] [] p3) none p4.line X.env = pure false)
    (hev : ∃ pl, eval (.Call (.Attribute (.Call (.Name "super" p0) [] [] p1) "__init__" p2) [e1] [] p3) X.env = (do
      let ov ← attributeBase (.Call (.Name "super" p0) [] [] p1) "__init__" X.env (eval (.Call (.Name "super" p0) [] [] p1) X.env)
      standAt p2.atName
      let (f, first) ← holding [ov] (getMethod ov "__init__" pl)
      callWith p3 f first (backTo p3 (starEach [e1] X.env)) []))
    (h : te σ H fun x H1 => H1 a = some (exo a C none) ∧ ∀ s', Inv X [] σ H1 s' → G s') :
    _root_.PySem.wpAt (model X.prog X.w) X.A (.func body X.env) (exec (.Expr (.Call (.Attribute (.Call (.Name "super" p0) [] [] p1) "__init__" p2) [e1] [] p3) p4) X.env) (fun fl s' => fl = .next ∧ G s') X.xe s := by
  obtain ⟨pl, hev⟩ := hev
  obtain ⟨cl, cld, csl, hcell⟩ := T.cell
  obtain ⟨ccl, cdd, vs, ccs, tf, hcode, hvs⟩ := T.code
  have KX := I.kIn
  refine ks_wpAt_Expr_any (ks_wpAt_MethodCall ?_ hev) hi hsw
  obtain ⟨nm, q, N, bs, bm, sn, sub, ab, col, dd, k0, k1, k2, k3, k5, hC, hbm⟩ := T.ox.cls
  obtain ⟨t1, ho⟩ := exo_at I.hok ea
  obtain ⟨m, hns, hlk⟩ := I.loc
  have hkind := I.ok.kind
  have ksX : X.env.kindOf "super" = some .globalImplicit := by rw [hX]; exact hks
  have kcX : X.env.kindOf "__class__" = some .free := by rw [hX]; exact hkc
  have kaX : X.env.kindOf ar.arg = some .local := by rw [hX]; exact hka
  have ccX : X.env.cells.lookup (("__class__" : Str)) = some cc := by rw [hX]; rfl
  obtain ⟨u0, ru0, lk0⟩ := hlk 0 ar.arg (.ref a) hN h0 (.inl kaX)
  obtain rfl : u0 = Value.ref a := ru0
  have hma : m ar.arg = some (.ref a) := by
    rcases lk0 with ⟨_, q⟩ | ⟨q, _⟩
    · exact q
    · rw [kaX] at q; rcases q with q | q <;> cases q
  obtain ⟨cdD, hcdD⟩ := Option.isSome_iff_exists.mp (show (clsIn X.K D).isSome = true from T.own)
  obtain ⟨oD, hD1, hD2⟩ : ∃ oD, s.heap.get? D = some oD ∧ oD.data = .cls cdD := by
    unfold clsIn at hcdD
    split at hcdD
    · rename_i c d cd' sl ho'
      cases hcdD
      exact ⟨_, KX _ _ ho', rfl⟩
    · cases hcdD
  obtain ⟨cdC, hcdC⟩ : ∃ cd, clsIn X.K C = some cd := by
    have q := T.sub
    unfold mroIn at q
    cases z : clsIn X.K C with
    | none => rw [z] at q; cases q
    | some cd => exact ⟨cd, rfl⟩
  have hsup : alongIn X.K "__init__" ((cdC.mro.dropWhile (· != .ref D)).drop 1) = some (some (.builtin "ValueError.__init__")) := by
    have q := T.sup
    unfold ks_superIn at q
    rw [hcdC] at q
    exact q
  have haC : a ≠ C := fun z => by
    have q := KX _ _ hC
    rw [← z, ho] at q
    cases q
  obtain ⟨mb, hb1, hb2⟩ := I.mod.blt
  obtain ⟨hh, g, d, t, os⟩ := s
  refine ks_wpAt_super_base (f := f) (fd := fd) (ar := ar) ksX kcX (by decide) (by rw [hX]) (KX _ _ hf) rfl hp (by rw [hX]) (KX _ _ hcode) rfl hvs hfile htop ?_
  refine ks_loadName_global hkind ksX (Calls.loadGlobal_builtin (by rw [I.ok.glob]; exact I.mod.glob.keeps I.bk) hms (by rw [I.ok.blt]; exact hb1.keeps I.bk) ((hb2 _ (by decide)).trans (by first | boot_by_name | rfl | kernel_rfl)) ⟨rfl, ?_⟩)
  refine wpAny_loadName_free hkind kcX ccX ⟨_, KX _ _ hcell, rfl⟩ ?_
  refine wpAny_loadName_local hkind kaX hns hma ?_
  refine ks_wpAny_isType_cls hD1 hD2 ⟨rfl, ?_⟩
  refine ks_wpAny_call_super hD1 hD2 ho rfl (fun c z => by cases z) (looks_mroIn KX T.sub) (fun h' e k => ?_)
  have KX' : X.K.In h' := KX.keeps k
  have ho' := k _ _ ho
  have LT : Looks (model X.prog X.w) h' (typeOf (.ref a)) (.ref C) := fun A Q E s k q => wpAny_typeOf_ref (k _ _ ho') q
  refine kxs_getMethod kxs_ValueError e (looks_opaque KX' T.opq) (l₀ := cdC.mro) (fun A Q E s k q => wpAny_bind ((looks_clsIn KX' hcdC) A _ E s k (wpAny_pure q))) rfl KX' hsup (LT.andThen (looks_subIn KX' T.ve)) haC (by decide) ?_
  -- the arguments
  have k2 : ∀ b o, hh.get? b = some o → (h'.push (kxs_mw "ValueError.__init__" a)).get? b = some o := fun b o q => Heap.get?_push_of_some _ (k b o q)
  have I2 : Inv X [] σ H ⟨h'.push (kxs_mw "ValueError.__init__" a), g, d, t + 1, os⟩ := I.kept (t' := t + 1) k2
  have hge : hh.objs.size ≤ h'.objs.size := by
    by_cases z : hh.objs.size = 0
    · omega
    · have hl : hh.objs.size - 1 < hh.objs.size := by omega
      exact Nat.le_of_lt (Heap.lt_size e)
  have I3 : Inv X [(h'.objs.size, kxs_mw "ValueError.__init__" a)] σ H ⟨h'.push (kxs_mw "ValueError.__init__" a), g, d, t + 1, os⟩ := I2.pins_of fun p hp => by
    rw [List.mem_singleton.mp hp]
    refine ⟨Heap.get?_push_size _ rfl, I.hok.fresh hge, ?_, I.nofs hge, fun v z => by cases z⟩
    have := hns.lt
    exact Nat.ne_of_gt (Nat.lt_of_lt_of_le this hge)
  rw [hst]
  refine kxs_callWith (i := "ValueError.__init__") (x := a) (by show (false || (backTo p3 (starEach [] X.env)).any (·.1)) = false; rw [hpl]; rfl) (Calls.evalArgs_plain ?_)
  refine Calls.spliced_cons (thn (he.run _ _ σ H _ I3 h) fun u1 s1 ⟨x1, H1, J1, rx1, ea1, q1⟩ => ?_)
  refine Calls.spliced_nil ?_
  have hu := (J1.pin (h'.objs.size, kxs_mw "ValueError.__init__" a) (List.mem_append_right _ List.mem_cons_self)).1
  refine ⟨hu, mw_init T.ox J1 ea1 hu (by show 1 ≤ sizeLine; decide) fun s' J => ⟨rfl, q1 s' (J.pins_of fun p hp => absurd hp (by simp))⟩⟩
end DW
set_option Elab.async false
set_option linter.all false
set_option maxRecDepth 100000
set_option maxHeartbeats 4000000
namespace DW
open PySem PySem.Spec PyProof.Rows L2 NdefX PySem.W
/-- what __init__(self, f) keeps: self, an error in the making, gets its one field -/
def spInit (K : Fg) (C : Addr) (fld : Str) (okv : V → Hp → Prop) : Sp := fun vs H Q _ => ∃ a v, vs = [.ref a, v] ∧ okv v H ∧ OexC K C ∧ findIn K (.ref C) fld = some none ∧ H a = some (exo a C none) ∧
  ∀ d, H d = none → d ≠ a → Q .non (upd (upd H d (exd d [(fld, v)])) a (exo a C (some d)))
/-- __init__(self, f): super().__init__(text); self.f = f -/
theorem sup_fn {CX : CXT} {P : Program} {w : World} {K : Fg} {mg : Str → Option Value} {base : Heap} {k : Nat} {f C D cc cda : Addr} {name qual fld file : Str} {params : Arguments} {scope : Scope} {kV doc pm ct oc : Value} {an od : Option Addr} {osl : Array (Option Value)} {N : List Str} {okv : V → Hp → Prop}
    {p0 p1 p2 p3 p4 q1 q2 q3 q4 : Pos} {e1 : Expr} {ar : Arg}
    (lk : K.lookup f = some ⟨oc, od, .func (ksFn name qual params [.Expr (.Call (.Attribute (.Call (.Name "super" p0) [] [] p1) "__init__" p2) [e1] [] p3) p4, .Assign [.Attribute (.Name "self" q1) fld q2] (.Name fld q3) q4] scope .none kV doc pm an (.ref cda) ct cc), osl⟩)
    (hcd : codeIn K (.ref cda) qual = true) (S : NScope N ["self", fld] ["__class__"] scope) (T : SupC K C D cc f cda file) (hp : (params.posonlyargs ++ params.args).head? = some ar) (har : ar.arg = "self")
    (hfile : ((P.main.file : Str) == file) = true) (htop : (P.main.scope.names.lookup ("super" : Str)).isSome = false) (hms : mg "super" = none) (hks : scope.names.lookup ("super" : Str) = some .globalImplicit)
    (hdb : (fld == ("__debug__" : Str)) = false)
    (hX : ∀ (X : Cx), X.prog = P → X.w = w → X.K = K → X.N = N → X.env.scope = scope → (∃ L, X.env = ksEnv qual scope L f (.ref cda) cc) → Room k X.A →
      (∃ te, PE X e1 te ∧ ∀ (σ : L2.St) (H : Hp) (v : V), σ[1]? = some (some v) → okv v H → ∀ Q : VK, (∀ x, Q x H) → te σ H Q) ∧
      starEach [e1] X.env = (false, eval e1 X.env) :: starEach [] X.env ∧ (backTo p3 (starEach [] X.env)).any (·.1) = false ∧ interactive X.env = false ∧
      swapsWith (.Call (.Attribute (.Call (.Name "super" p0) [] [] p1) "__init__" p2) [e1] [] p3) none p4.line X.env = pure false ∧
      (∃ pl, eval (.Call (.Attribute (.Call (.Name "super" p0) [] [] p1) "__init__" p2) [e1] [] p3) X.env = (do
        let ov ← attributeBase (.Call (.Name "super" p0) [] [] p1) "__init__" X.env (eval (.Call (.Name "super" p0) [] [] p1) X.env)
        standAt p2.atName
        let (f, first) ← holding [ov] (getMethod ov "__init__" pl)
        callWith p3 f first (backTo p3 (starEach [e1] X.env)) [])) ∧
      swapsWith (.Name fld q3) (some (.Attribute (.Name "self" q1) fld q2)) q4.line X.env = pure false ∧ PE X (.Name "self" q1) (tVar 0) ∧ PE X (.Name fld q3) (tVar 1)) :
    FnOk P w K mg base CX (k + 1) f (ksFn name qual params [.Expr (.Call (.Attribute (.Call (.Name "super" p0) [] [] p1) "__init__" p2) [e1] [] p3) p4, .Assign [.Attribute (.Name "self" q1) fld q2] (.Name fld q3) q4] scope .none kV doc pm an (.ref cda) ct cc) ["self", fld] (spInit K C fld okv) := by
  obtain ⟨cl, cld, csl, lcc⟩ := T.cell
  obtain ⟨_, hC2⟩ : True ∧ True := ⟨trivial, trivial⟩
  refine supfn_of lk hcd S lcc (fun vs H Q E h => ?_) (fun A outer s s1 H vs Q E hr h I => ?_)
  · obtain ⟨a, v, rfl, _⟩ := h; rfl
  obtain ⟨a, v, rfl, hok, hox, hno, ea, hq⟩ := h
  have hlen : N.take 3 = (["self", fld, "__class__"] : List Str) := S.pre
  have hn0 : N[0]? = some ("self" : Str) := by
    have q := congrArg (fun l : List Str => l[0]?) hlen
    rw [List.getElem?_take_of_lt (by decide)] at q
    exact q
  have hl3 : 3 ≤ N.length := by have := congrArg List.length hlen; rw [List.length_take] at this; simp at this; omega
  obtain ⟨⟨te, hte, hmsg⟩, f1, f2, f3, f4, f5, f6, f7, f8⟩ := hX (ncx CX P w K mg base N ⟨name, qual, params, [.Expr (.Call (.Attribute (.Call (.Name "super" p0) [] [] p1) "__init__" p2) [e1] [] p3) p4, .Assign [.Attribute (.Name "self" q1) fld q2] (.Name fld q3) q4], scope, [("__class__", cc)], cda⟩ f A outer s H E) rfl rfl rfl rfl rfl ⟨_, rfl⟩ hr
  have s0 : (startF N [.ref a, v] [none])[0]? = some (some (.ref a)) := rfl
  have s1' : (startF N [.ref a, v] [none])[1]? = some (some v) := rfl
  refine ks_wpAt_execs_cons (ks_wpAt_mono (super_line (X := ncx CX P w K mg base N ⟨name, qual, params, [.Expr (.Call (.Attribute (.Call (.Name "super" p0) [] [] p1) "__init__" p2) [e1] [] p3) p4, .Assign [.Attribute (.Name "self" q1) fld q2] (.Name fld q3) q4], scope, [("__class__", cc)], cda⟩ f A outer s H E) (L := s.heap.objs.size) (σ := startF N [.ref a, v] [none]) (H := H) rfl T lk hp hfile htop hms hks (S.frk _ List.mem_cons_self) (by rw [har]; exact S.par _ List.mem_cons_self) I (by rw [har]; exact hn0) s0 ea hte f1 f2 f3 f4 f5
    (G := fun s' => Inv (ncx CX P w K mg base N ⟨name, qual, params, [.Expr (.Call (.Attribute (.Call (.Name "super" p0) [] [] p1) "__init__" p2) [e1] [] p3) p4, .Assign [.Attribute (.Name "self" q1) fld q2] (.Name fld q3) q4], scope, [("__class__", cc)], cda⟩ f A outer s H E) [] (startF N [.ref a, v] [none]) H s') ?_) (fun fl s' hs => ?_) fun _ _ z => z)
  · exact hmsg _ H v s1' hok _ fun x => ⟨ea, fun s' J => J⟩
  · obtain ⟨rfl, J⟩ := hs
    refine PySem.wpAt_of_wpAny ?_
    refine (pss_one (ps_ost f7 f8 f6)).run [] s' _ H _ J ?_
    refine ⟨v, s1', .ref a, s0, a, C, rfl, hox, hno, .inl ⟨ea, fun dx hd hne => ?_⟩⟩
    exact hq dx hd hne
/-- C(e): an own error made, its context None -/
theorem pmk_sup {CX : CXT} {X : Cx} {x fld : Str} {C fI : Addr} {k : Nat} {fd : FuncData} {ps : List Str} {okv : V → Hp → Prop} {e : Expr} {ta : TA} {p pos : Pos} (T : OexC X.K C) (iC : findIn X.K (.ref C) "__init__" = some (some (.ref fI))) (tI : typeIn X.K (.ref fI) = some (.type "function")) (hno : findIn X.K (.ref C) fld = some none)
    (F1 : FnOk X.prog X.w X.K X.mg X.base CX k fI fd ps (spInit X.K C fld okv)) (hr : Room (k + 1) X.A) (hb : Binds X.K fd ps []) (hx : Passes CX X (fun _ _ _ => False)) (hg : Gl X x) (hm : X.mg x = some (.ref C)) (ha : PA X [e] ta)
    (hdb : (x == ("__debug__" : Str)) = false := by decide) (hst : starEach [e] X.env = (false, eval e X.env) :: starEach [] X.env := by rfl) (hpl : (backTo pos (starEach [] X.env)).any (·.1) = false := by rfl) :
    L2N.PMk X (.Call (.Name x p) [e] [] pos) (fun σ H Q => ta σ H fun vs H1 => ∃ v, vs = [v] ∧ (∀ a, H1 a = none → okv v (upd H1 a (exo a C none))) ∧ ∀ d, H1 d = none → Q (.ref C) (some d) (upd H1 d (.xd [(fld, v)]))) := by
  intro pins s σ H Q I h
  obtain ⟨nm, q, N, bs, bm, sn, sub, ab, col, dd, k0, k1, k2, k3, k5, hC, hbm⟩ := T.cls
  refine wpAny_Call_Name_kw (ld_glob I hg hm ?_ hdb)
  refine callWith_K (h₀ := X.base) I.ok.mod.kin T.kC (thn (ha.run pos pins s σ H _ I h) fun us s1 ⟨vs, H1, I1, r1, v, ev, hok, q1⟩ => ⟨I1.kIn, ?_⟩) hst hpl
  subst ev
  obtain ⟨u1, rfl, rv1⟩ := vals1 r1
  obtain ⟨hp, g, dr, tk, os⟩ := s1
  have hsz : hp.objs.size ≤ hp.objs.size + 1 := Nat.le_succ _
  have hn : H1 (hp.objs.size + 1) = none := I1.hok.fresh hsz
  have kk : ∀ b o, hp.get? b = some o → ((hp.push (kdv_tup [u1])).push (PySem.HandSPX.excO C hp.objs.size)).get? b = some o := fun b o z => Heap.get?_push_of_some _ (Heap.get?_push_of_some _ z)
  have hget : ((hp.push (kdv_tup [u1])).push (PySem.HandSPX.excO C hp.objs.size)).get? (hp.objs.size + 1) = some (PySem.HandSPX.excO C hp.objs.size) := by heap_get
  have I2 : Inv X pins σ (upd H1 (hp.objs.size + 1) (exo (hp.objs.size + 1) C none)) ⟨(hp.push (kdv_tup [u1])).push (PySem.HandSPX.excO C hp.objs.size), g, dr, tk, os⟩ := I1.laid (t' := tk) kk hsz (exo_ok hget)
  have hsp : spInit X.K C fld okv [.ref (hp.objs.size + 1), v] (upd H1 (hp.objs.size + 1) (exo (hp.objs.size + 1) C none)) (fun v' H2 => v' = .non ∧ ∃ d, H2 (hp.objs.size + 1) = some (exo (hp.objs.size + 1) C (some d)) ∧ H2 d = some (exd d [(fld, v)]) ∧ H1 d = none ∧ Q (.ref C) (some d) (upd (L2.del H2 (hp.objs.size + 1)) d (.xd [(fld, v)]))) (fun _ _ _ => False) := by
    refine ⟨_, v, rfl, hok _ hn, T, hno, upd_same, fun d hd hne => ⟨rfl, d, upd_same, ?_, ?_, ?_⟩⟩
    · rw [upd_ne hne, upd_same]
    · rw [upd_ne hne] at hd; exact hd
    · have hd1 : H1 d = none := by rw [upd_ne hne] at hd; exact hd
      have e2 : upd (L2.del (upd (upd (upd H1 (hp.objs.size + 1) (exo (hp.objs.size + 1) C none)) d (exd d [(fld, v)])) (hp.objs.size + 1) (exo (hp.objs.size + 1) C (some d))) (hp.objs.size + 1)) d (.xd [(fld, v)]) = upd H1 d (.xd [(fld, v)]) := by
        funext b
        by_cases h1 : b = d
        · rw [h1, upd_same, upd_same]
        · rw [upd_ne h1, upd_ne h1]
          by_cases h2 : b = hp.objs.size + 1
          · rw [h2, L2.del_same, hn]
          · rw [L2.del_ne h2, upd_ne h2, upd_ne h1, upd_ne h2]
      rw [e2]
      exact q1 d hd1
  have r2 : Vals [V.ref (hp.objs.size + 1), v] [Value.ref (hp.objs.size + 1), u1] := .cons rfl (.cons rv1 .nil)
  have hl : [Value.ref (hp.objs.size + 1), u1].length = ps.length := F1.len _ _ _ _ hsp
  show wpAny _ _ (call (.ref C) [u1]) _ _ _
  refine wpAny_call (PySem.HandSPX.call_own PySem.F.excBase_ValueError (fun Y => PySem.HandSPX.refsVE_contains Y bm hbm) (I1.kIn _ _ hC) (looks_findIn I1.kIn iC) (fun self => bind_fn I1.kIn self tI) (by show 1 ≤ sizeLine; decide)
    (codeAny_mono (F1.run _ X.stack _ _ ⟨[Value.ref (hp.objs.size + 1), u1], []⟩ [Value.ref (hp.objs.size + 1), u1] _ _ (fun _ _ _ => False) (hr.make C [u1] []) (I2.env0.make C [u1] []) (by have := hb _ [Value.ref (hp.objs.size + 1), u1] I2.kIn (by simpa using hl); simpa using this) r2 hsp) fun r s' hq' => ?_))
  cases r with
  | error er => exact hx pins σ _ _ er s' I2 hq'
  | ok fl =>
    cases fl with
    | ret u =>
      obtain ⟨v', H2, os2, bare2, un2, hok2, rv, ev, d, ea, ed, hd1, q2⟩ := hq'
      subst ev
      obtain ⟨h2, g2, d2, t2, os'⟩ := s'
      obtain ⟨t0, G, J, kG, ge, hoe, na⟩ := mk_end0 (d2 := d2) (t2 := t2) I1 hsz kk un2 hok2 os2 bare2 ea ed hd1
      exact ⟨rv, _, _, _, ⟨G, g2, d2, t2, os'⟩, _, .ref C, some d, rfl, J, kG, ge, hoe, ⟨rfl, rfl, fun vs z => by cases z; rfl⟩, rfl, rfl, na, rfl, bare2, raises_own T.exC T.tyC, q2⟩
    | next => exact False.elim hq'
    | brk => exact False.elim hq'
    | cont => exact False.elim hq'
end DW
set_option Elab.async false
set_option linter.all false
set_option maxRecDepth 100000
set_option maxHeartbeats 4000000
namespace DW
open PySem PySem.Spec PyProof.Rows L2
section
variable {K : Fg} {B : Bx K}
def dRaise1 (C : Addr) (fld : Str) (okd : D → Prop) (φ : DE) : DSt := fun Ψ _ δ μ => φ Ψ δ μ fun x μ1 => okd x ∧ Ψ (.mk C (some ([fld], [x]))) δ μ1
theorem sRaise1 {W : WX} {C : Addr} {fld : Str} {okd : D → Prop} {okv : V → Hp → Prop} {te : TE} {φ : DE} (hW : B.W = W) (hok : ∀ (μ : Sto) (H : Hp) (v : V) (d : D), Rep K μ H v d → okd d → okv v H) (a : SE B te φ) :
    SS B (fun _ σ H => (fun (σ : L2.St) (H : Hp) (Q : XK) => tCons te tNil σ H fun vs H1 => ∃ v, vs = [v] ∧ (∀ a, H1 a = none → okv v (upd H1 a (exo a C none))) ∧ ∀ d, H1 d = none → Q (.ref C) (some d) (upd H1 d (.xd [(fld, v)]))) σ H fun cls d H' => W cls d σ H') (dRaise1 C fld okd φ) := fun D Δ σ H δ μ E S q => by
  subst hW
  refine a σ H δ μ _ _ S q fun v H1 x μ1 S1 e1 r1 q1 => ?_
  obtain ⟨q2, q3⟩ := q1
  refine ⟨v, rfl, fun b hb => hok μ1 _ v x (r1.mono (.new hb)) q2, fun d hd => ?_⟩
  have ev : Evo μ1 H1 μ1 (upd H1 d (.xd [(fld, v)])) := .new hd
  exact B.hW _ _ σ _ (.mk C (some ([fld], [x]))) δ μ1 (S1.step ev (S1.sto.new hd)) ⟨rfl, d, [v], rfl, upd_same, .new S1.sto hd, rfl, r1.mono ev⟩ q3
/-- n.f, n the error that a suite holds -/
def dXf (a : Addr) (x : XD) (C : Addr) (f : Str) (φ : DE) : DE := fun Ψ δ μ Φ => φ Ψ δ μ fun y μ1 => y = .hd (.ref a) ∧ ∃ (ns : List Str) (ds : List DW.D) (i : Nat) (d : DW.D), x = .mk C (some (ns, ds)) ∧ ns[i]? = some f ∧ ns.Nodup ∧ ds[i]? = some d ∧ Φ d μ1
theorem zip_lookup : ∀ {ns : List Str} {us : List V} {i : Nat} {f : Str} {v : V}, ns.Nodup → ns[i]? = some f → us[i]? = some v → (ns.zip us).lookup f = some v
  | [], us, i, f, v, _, h, _ => by cases h
  | n :: ns, [], i, f, v, _, _, h => by cases h
  | n :: ns, u :: us, 0, f, v, _, h1, h2 => by
    have e1 := Option.some.inj h1
    have e2 := Option.some.inj h2
    subst e1 e2
    simp [List.lookup]
  | n :: ns, u :: us, i + 1, f, v, hn, h1, h2 => by
    have hne : ¬ (f = n) := fun z => by
      have : f ∈ ns := List.mem_of_getElem? h1
      rw [z] at this
      exact (List.nodup_cons.mp hn).1 this
    have hb : (f == n) = false := by simp [hne]
    show (match f == n with | true => some u | false => (ns.zip us).lookup f) = some v
    rw [hb]
    exact zip_lookup (List.nodup_cons.mp hn).2 h1 h2
def rIsH (K : Fg) (cls : Value) (dd : Option Addr) (a : Addr) : List V → Hp → VK → Prop := fun xs H Q => ∃ C, cls = .ref C ∧ L2.ExcC K C ∧ (dd = none ∨ ∃ p fs, dd = some p ∧ H p = some (.xd fs)) ∧
  ∃ (c : V) (cv : Value) (b : Bool), xs = [.ref a, c] ∧ (∀ u, RelV c u → u = cv) ∧ PySem.W.kitOne K (.ref C) cv = some b ∧ Q (.bl b) H
theorem call_isH {X : Cx} {a : Addr} {cls : Value} {dd : Option Addr} {oe : Obj} {pn : List (Addr × Obj)} (hz : L2N.Zn cls dd oe) (hf : ∃ vs, oe.data = .fields vs) : CallR (X.suite a ((a, oe) :: pn)) (.builtin "isinstance") (rIsH X.K cls dd a) := by
  intro pins s σ H xs us Q I r h
  obtain ⟨C, rfl, hC, hdd, c, cv, b, rfl, hcv, e, q⟩ := h
  obtain ⟨hget, _⟩ := I.pin (a, oe) (List.mem_append.mpr (.inl List.mem_cons_self))
  obtain ⟨vs, hv⟩ := hf
  obtain ⟨u1, u2, rfl, r1, r2⟩ := vals2 r
  obtain rfl : u1 = Value.ref a := r1
  have ec := hcv _ r2
  subst ec
  obtain ⟨od, J⟩ : ∃ od, PySem.W.InstAt s.heap a oe C od := by
    obtain ⟨oc, od, oda, osl⟩ := oe
    obtain ⟨h1, h2, _⟩ := hz
    dsimp only at h1 h2 hv
    subst h1 hv
    rcases hdd with z | ⟨p, fs, z, hp⟩
    · subst z; subst h2; exact ⟨none, hget, rfl, rfl, trivial⟩
    · subst z; subst h2
      obtain ⟨mA, ⟨o, es, ep, ho, _⟩, _⟩ := (I.hok p _ hp)
      exact ⟨some o, hget, rfl, rfl, ho⟩
  have hcl : (PySem.W.clsIn X.K C).isSome = true := by
    obtain ⟨cd, q, _⟩ := PySem.W.any_some hC.hd
    rw [q]; rfl
  exact PySem.W.kia_one (PySem.W.kitx_exc hcl hC.hg hC.hk hC.hs hC.ha hC.hn hC.ht hC.hm) I.kIn J e (fun z => nomatch z) fun tk => ⟨.bl b, H, I.kept (t' := tk) fun _ _ z => z, rfl, q⟩
def kitE (K : Fg) : XD → V → Option Bool
  | .mk C _, .ref T => PySem.W.kitOne K (.ref C) (.ref T)
  | .mk C _, .ty T => PySem.W.kitOne K (.ref C) (.type T)
  | _, _ => none
def excE (K : Fg) : XD → Prop
  | .mk C _ => L2.ExcC K C
def dIsE (K : Fg) (a : Addr) (x : XD) (ψ : DA) : DE := fun Ψ δ μ Φ => ψ Ψ δ μ fun xs μ1 => ∃ c b, xs = [.hd (.ref a), .hd c] ∧ kitE K x c = some b ∧ excE K x ∧ Φ (.bl b) μ1
theorem sIsE {a : Addr} {cls : Value} {dd : Option Addr} {x : XD} {tas : TA} {ψ : DA} (rx : RepX K B.μ0 B.H0 cls dd x) (s : SA B tas ψ) : SE B (tCB (rIsH K cls dd a) tas) (dIsE K a x ψ) := fun σ H δ μ Φ Q S q k =>
  s σ H δ μ _ _ S q fun vs H1 xs μ1 S1 e1 r1 q1 => by
    obtain ⟨c, b, rfl, hk, hx, q2⟩ := q1
    obtain ⟨v, w, rfl, ra, rb⟩ := reps2 r1
    obtain rfl := Rep.hd_inv ra
    obtain rfl := Rep.hd_inv rb
    obtain ⟨C, fs⟩ := x
    have hcd : cls = .ref C ∧ (dd = none ∨ ∃ p fs', dd = some p ∧ H1 p = some (.xd fs')) := by
      cases fs with
      | none => exact ⟨rx.1, .inl rx.2⟩
      | some f =>
        obtain ⟨ns, ds⟩ := f
        obtain ⟨hc, p, us, hp, hH, hn, _⟩ := rx
        exact ⟨hc, .inr ⟨p, _, hp, (S1.evo.st _ _ hH hn).1⟩⟩
    obtain ⟨rfl, hdd⟩ := hcd
    refine ⟨C, rfl, hx, hdd, ?_⟩
    cases w with
    | ref T => exact ⟨_, .ref T, b, rfl, fun u h => by cases h; rfl, hk, k _ H1 _ μ1 S1 e1 (.bl _ .nil) q2⟩
    | ty T => exact ⟨_, .type T, b, rfl, fun u h => by cases h; rfl, hk, k _ H1 _ μ1 S1 e1 (.bl _ .nil) q2⟩
    | _ => cases hk
end
end DW
set_option Elab.async false
set_option linter.all false
set_option maxRecDepth 100000
set_option maxHeartbeats 4000000
namespace DW
open PySem PySem.Spec PyProof.Rows L2
def okInt : V → Hp → Prop := fun v _ => ∃ i : Int, v = .int i ∧ i.natAbs.log2 < 1920
theorem strlen_append (a b : Str) : (a ++ b).length = a.length + b.length := by first | exact PySem.Str.length_append a b | exact StrLaws.length_append a b | exact PySem.StrLaws.length_append a b
/-- f"..{i}" -/
theorem msg_int {X : Cx} {s1 : Str} {k1 : Nat} {fld : Str} {q1 q2 q3 q4 : Pos} (h1 : s1.length ≤ 1000) (hv : PE X (.Name fld q2) (tVar 1)) :
    ∃ te, PE X (.JoinedStr [.Constant (.str s1) k1 q1, .FormattedValue (.Name fld q2) (-1) none q3] q4) te ∧ ∀ (σ : L2.St) (H : Hp) (v : V), σ[1]? = some (some v) → okInt v H → ∀ Q : VK, (∀ x, Q x H) → te σ H Q :=
  ⟨_, pe_joined (.cons pe_str (.cons (pe_fmt hv) .nil)), fun σ H v e ⟨i, ev, hi⟩ Q hq => by
    subst ev
    have e1 := int_text_length_le (k := 1920) (by decide) hi
    refine ⟨s1, rfl, ?_, .int i, e, .inr ⟨i, rfl, hi, _, rfl, ?_, hq _⟩⟩
    · rw [strlen_append, sizeLine_eq]; show 0 + _ ≤ _; omega
    · rw [strlen_append, strlen_append, sizeLine_eq]
      show 0 + s1.length + (Str.ofString (toString i)).length ≤ _
      rw [PySem.ofString_length]; omega⟩
/-- the data of an int field, of a path field -/
def okdInt : D → Prop := fun d => ∃ i : Int, d = .int i ∧ i.natAbs.log2 < 1920
theorem okdInt_ok {K : Fg} (μ : Sto) (H : Hp) (v : V) (d : D) (r : Rep K μ H v d) (h : okdInt d) : okInt v H := by
  obtain ⟨i, rfl, hi⟩ := h
  exact ⟨i, Rep.int_inv r, hi⟩
end DW
set_option Elab.async false
set_option linter.all false
set_option maxRecDepth 100000
namespace DW
open PySem PySem.Spec PyProof.Rows L2
section
variable {K : Fg} {μ : Sto} {Φ : DK}
/-- len of a text -/
def cLenStr : DC := fun xs μ Φ => ∃ z, xs = [.str z] ∧ z.length ≤ 100000 ∧ Φ (.int z.length) μ
theorem w_lenStr {s : Str} : cLenStr [.str s] μ Φ = ((TL.tl s).length ≤ 100000 ∧ Φ (.int (TL.tl s).length) μ) := propext ⟨fun ⟨z, e, h1, q⟩ => by cases e; exact ⟨h1, q⟩, fun ⟨h1, q⟩ => ⟨s, rfl, h1, q⟩⟩
theorem w_catStr {s t : Str} : oCatS (.str s) (.str t) μ Φ = ((TL.tl s).length + (TL.tl t).length ≤ 100000 ∧ Φ (.str (s ++ t)) μ) := propext ⟨fun ⟨a, b, e1, e2, h, q⟩ => by cases e1; cases e2; exact ⟨h, q⟩, fun ⟨h, q⟩ => ⟨s, t, rfl, rfl, h, q⟩⟩
theorem w_ixStr {s : Str} {i : Int} : oIxS (.str s) (.int i) μ Φ = ((TL.tl s).length ≤ 100000 ∧ ∃ c, atI (TL.tl s) i = some c ∧ Φ (.str ⟨#[c]⟩) μ) := propext ⟨fun ⟨z, j, c, e1, e2, h, h2, q⟩ => by cases e1; cases e2; exact ⟨h, c, h2, q⟩, fun ⟨h, c, h2, q⟩ => ⟨s, i, c, rfl, rfl, h, h2, q⟩⟩
theorem w_inStr {c : Nat} {z : Str} : oInS false (.str ⟨#[c]⟩) (.str z) μ Φ = Φ (.bl (decide (c ∈ TL.tl z))) μ := propext ⟨fun ⟨c', z', e1, e2, q⟩ => by cases e1; cases e2; exact q, fun q => ⟨c, z, rfl, rfl, q⟩⟩
theorem w_strE {s : Str} {P : Str → Prop} : (∃ z, D.str s = D.str z ∧ P z) = P s := propext ⟨fun ⟨z, e, h⟩ => by cases e; exact h, fun h => ⟨s, rfl, h⟩⟩
theorem w_strI {i : Int} : cStr [.int i] μ Φ = (i.natAbs.log2 < 1920 ∧ Φ (.str (toString i)) μ) := propext ⟨(fun h => by
  rcases h with ⟨j, e, h1, q⟩ | ⟨a, e, q⟩
  · cases e; exact ⟨h1, q⟩
  · cases e), fun ⟨h1, q⟩ => .inl ⟨i, rfl, h1, q⟩⟩
theorem w_strS {s : Str} : cStr [.str s] μ Φ = Φ (.str s) μ := propext ⟨(fun h => by
  rcases h with ⟨j, e, h1, q⟩ | ⟨a, e, q⟩
  · cases e
  · cases e; exact q), fun q => .inr ⟨s, rfl, q⟩⟩
end
end DW
set_option Elab.async false
set_option linter.all false
set_option maxRecDepth 100000
namespace DW
open PySem PySem.Spec PyProof.Rows L2
section
variable {K : Fg} {μ : Sto} {Φ : DK} {Ψ : XP} {δ : DEnv}
theorem u_iEn {φ : DE} {c : Int} {Ls : List D → Sto → Prop} : iEnD φ c Ψ δ μ Ls = φ Ψ δ μ fun x μ1 => ∃ ds, x = .tup ds ∧ Ls ((List.range ds.length).map fun (i : Nat) => .pr [.int (c + (i : Int)), ds.getD i .non]) μ1 := rfl
theorem u_raise1 {C : Addr} {fld : Str} {okd : D → Prop} {φ : DE} {Δ : DEnds} : dRaise1 C fld okd φ Ψ Δ δ μ = φ Ψ δ μ fun x μ1 => okd x ∧ Ψ (.mk C (some ([fld], [x]))) δ μ1 := rfl
theorem u_slS {φ : DE} {ol oh : XP → DEnv → Sto → (Option Int → Sto → Prop) → Prop} : dSlS φ ol oh Ψ δ μ Φ = φ Ψ δ μ fun x μ1 => ol Ψ δ μ1 fun lo μ2 => oh Ψ δ μ2 fun hi μ3 => ∃ z, x = .str z ∧ z.length ≤ 100000 ∧ Φ (.str (cutS z lo hi)) μ3 := rfl
def cListStr : DC := fun xs μ Φ => ∃ z : Str, xs = [.str z] ∧ z.length ≤ 100000 ∧ Φ (.lst (z.cps.toList.map fun c => .str ⟨#[c]⟩)) μ
theorem w_listStr {s : Str} : cListStr [.str s] μ Φ = ((TL.tl s).length ≤ 100000 ∧ Φ (.lst ((TL.tl s).map fun c => .str ⟨#[c]⟩)) μ) := propext ⟨fun ⟨z, e, h1, q⟩ => by cases e; exact ⟨h1, q⟩, fun ⟨h1, q⟩ => ⟨s, rfl, h1, q⟩⟩
end
end DW
set_option Elab.async false
set_option linter.all false
set_option maxRecDepth 100000
namespace DW
open PySem PySem.Spec PyProof.Rows L2
structure Two (μ : Sto) (p st : Addr) (L c : List D) (μ' : Sto) : Prop where
  hp : μ p = none
  ne : st ≠ p
  pL : μ' p = some (.lst L)
  sc : μ' st = some (.lst c)
  ot : ∀ a, a ≠ p → a ≠ st → μ' a = μ a
theorem Two.start {μ : Sto} {p st : Addr} {L c : List D} (hp : μ p = none) (hs : μ st = some (.lst c)) : Two μ p st L c (sset μ p (.lst L)) := by
  have ne : st ≠ p := fun z => by rw [z, hp] at hs; cases hs
  exact ⟨hp, ne, sset_same, by rw [sset_ne ne]; exact hs, fun a h _ => sset_ne h⟩
theorem Two.setS {μ μ' : Sto} {p st : Addr} {L c c2 : List D} (T : Two μ p st L c μ') : Two μ p st L c2 (sset μ' st (.lst c2)) :=
  ⟨T.hp, T.ne, by rw [sset_ne (Ne.symm T.ne)]; exact T.pL, sset_same, fun a h1 h2 => by rw [sset_ne h2]; exact T.ot a h1 h2⟩
theorem Two.setP {μ μ' : Sto} {p st : Addr} {L L2 c : List D} (T : Two μ p st L c μ') : Two μ p st L2 c (sset μ' p (.lst L2)) :=
  ⟨T.hp, T.ne, sset_same, by rw [sset_ne T.ne]; exact T.sc, fun a h1 h2 => by rw [sset_ne h1]; exact T.ot a h1 h2⟩
theorem Two.sub {μ μ' : Sto} {p st : Addr} {L c : List D} (T : Two μ p st L c μ') : Sub (sset μ st (.lst c)) μ' := fun a x e => by
  by_cases h : a = st
  · subst h; rw [sset_same] at e; rw [T.sc]; exact e
  · rw [sset_ne h] at e
    have h1 : a ≠ p := fun z => by rw [z, T.hp] at e; cases e
    rw [T.ot a h1 h]; exact e
theorem Two.del {μ μ' : Sto} {p st : Addr} {L c : List D} (T : Two μ p st L c μ') : sdel μ' p = sset μ st (.lst c) := by
  funext a
  unfold sdel
  by_cases h : a = p
  · subst h; rw [if_pos rfl, sset_ne (Ne.symm T.ne), T.hp]
  · rw [if_neg h]
    by_cases h2 : a = st
    · subst h2; rw [sset_same, T.sc]
    · rw [sset_ne h2]; exact T.ot a h h2
theorem atI_last {xs : List D} {d : D} : atI (xs ++ [d]) (-1) = some d := by
  unfold atI ixN
  rw [if_neg (by omega), if_pos (by rw [List.length_append, List.length_singleton]; omega)]
  show (xs ++ [d])[(-1 + (((xs ++ [d]).length : Nat) : Int)).toNat]? = some d
  have e : (-1 + (((xs ++ [d]).length : Nat) : Int)).toNat = xs.length := by rw [List.length_append, List.length_singleton]; omega
  rw [e, List.getElem?_append_right (Nat.le_refl _), Nat.sub_self]
  rfl
/-- a comprehension whose items are drawn from the state at st -/
theorem lcG_drawN {Ψ : XP} {Φ : DK} {n : Nat} {φ : DE} {δw : DEnv} {μ1 : Sto} {xs : List D} {st : Addr} (Sc : List D → Prop) (Inv : Nat → List D → Prop) {c : List D} (hz : xs.length ≤ 100000)
    (hst : μ1 st = some (.lst c)) (h0 : Sc c) (hI : Inv 0 [])
    (hs : ∀ (i : Nat) (d : D) (μ2 : Sto) (X : DK) (acc c : List D), xs[i]? = some d → μ2 st = some (.lst c) → Sc c → Inv i acc → acc.length = i →
      (∀ y c', Sc c' → Inv (i + 1) (acc ++ [y]) → X y (sset μ2 st (.lst c'))) → φ Ψ (δw.set n (some d)) μ2 X)
    (hd : ∀ acc c, Inv xs.length acc → acc.length = xs.length → Sc c → Φ (.lst acc) (sset μ1 st (.lst c))) : LcG (eName n) dYes φ δw Ψ xs μ1 Φ := fun p hp => by
  refine ⟨fun i μ' => ∃ acc c, Two μ1 p st acc c μ' ∧ Sc c ∧ Inv i acc ∧ acc.length = i, ⟨[], c, .start hp hst, h0, hI, rfl⟩, ?_, ?_⟩
  · rintro i d μ2 hi ⟨acc, c, T, s, I, hl⟩
    have hlt : i < xs.length := (List.getElem?_eq_some_iff.mp hi).1
    refine ⟨fun _ => ?_, fun z => nomatch z⟩
    exact hs i d μ2 _ acc c hi T.sc s I hl fun y c' s' I' => ⟨acc, T.setS.pL, by omega, _, c', T.setS.setP, s', I', by simp [hl]⟩
  · rintro μ2 ⟨acc, c, T, s, I, hl⟩
    exact ⟨acc, T.pL, by rw [T.del]; exact hd acc c I hl s⟩
section
variable {K : Fg} {μ : Sto} {Φ : DK} {Ψ : XP} {δ : DEnv}
theorem u_isE {a : Addr} {x : XD} {ψ : DA} : dIsE K a x ψ Ψ δ μ Φ = ψ Ψ δ μ fun xs μ1 => ∃ c b, xs = [.hd (.ref a), .hd c] ∧ kitE K x c = some b ∧ excE K x ∧ Φ (.bl b) μ1 := rfl
theorem w_isE {a : Addr} {c : V} {P : V → Bool → Prop} : (∃ c' b, [D.hd (.ref a), D.hd c] = [.hd (.ref a), .hd c'] ∧ P c' b) = ∃ b, P c b := propext ⟨fun ⟨c', b, e, q⟩ => by cases e; exact ⟨b, q⟩, fun ⟨b, q⟩ => ⟨c, b, rfl, q⟩⟩
theorem u_kitER {C T : Addr} {f : Option (List Str × List D)} : kitE K (.mk C f) (.ref T) = PySem.W.kitOne K (.ref C) (.ref T) := rfl
theorem u_kitET {C : Addr} {T : String} {f : Option (List Str × List D)} : kitE K (.mk C f) (.ty T) = PySem.W.kitOne K (.ref C) (.type T) := rfl
theorem u_excE {C : Addr} {f : Option (List Str × List D)} : excE K (.mk C f) = L2.ExcC K C := rfl
theorem u_xf {a C : Addr} {x : XD} {f : Str} {φ : DE} : dXf a x C f φ Ψ δ μ Φ = φ Ψ δ μ fun y μ1 => y = .hd (.ref a) ∧ ∃ (ns : List Str) (ds : List D) (i : Nat) (d : D), x = .mk C (some (ns, ds)) ∧ ns[i]? = some f ∧ ns.Nodup ∧ ds[i]? = some d ∧ Φ d μ1 := rfl
theorem w_xf1 {C : Addr} {f : Str} {d : D} {P : D → Prop} : (∃ (ns : List Str) (ds : List D) (i : Nat) (d' : D), XD.mk C (some ([f], [d])) = .mk C (some (ns, ds)) ∧ ns[i]? = some f ∧ ns.Nodup ∧ ds[i]? = some d' ∧ P d') = P d := propext ⟨fun ⟨ns, ds, i, d', e, h1, _, h2, q⟩ => by
  cases e
  cases i with
  | zero => cases h2; exact q
  | succ i => simp at h1, fun q => ⟨[f], [d], 0, d, rfl, rfl, by simp, rfl, q⟩⟩
end
end DW
set_option Elab.async false
set_option linter.all false
set_option maxRecDepth 100000
set_option maxHeartbeats 4000000
namespace DW
open PySem PySem.Spec PyProof.Rows L2
section layer
variable {X : Cx} {CX : CXT} {k : Nat} {f C : Addr} {fd : FuncData} {ps : List Str} {sp : Sp} {E : L2.St → XK} {x m : Str} {p pos apos : Pos} {e o : Expr} {es : List Expr} {ta : TE} {t : TA}
theorem run_makeS {pins : List (Addr × Obj)} {σ : L2.St} {H : Hp} {s : Shared} {Q : VK} {us : List Value} {vs : List V} (M : Mk X.K C f) (F : FnOk X.prog X.w X.K X.mg X.base CX k f fd ps sp) (hr : Room (k + 1) X.A) (hb : Binds X.K fd ps [])
    (hx : ∀ σ, PassesAt CX X σ (E σ)) (I : Inv X pins σ H s) (r : Vals vs us)
    (h : ∀ x dx, H x = none → H dx = none → dx ≠ x → sp (.ref x :: vs) (upd (upd H dx (.own x)) x (.ins C dx [])) (fun v H2 => v = .non ∧ Q (.ref x) H2) (E σ)) :
    wpAny (model X.prog X.w) X.A (call (.ref C) us) (EP X pins σ Q) X.xe s := by
  have hq := h (s.heap.objs.size + 1) s.heap.objs.size (I.hok.fresh (Nat.le_succ _)) (I.hok.fresh (Nat.le_refl _)) (Nat.ne_of_lt (Nat.lt_succ_self _))
  have I2 := Inv.made (C := C) I
  have r2 : Vals (V.ref (s.heap.objs.size + 1) :: vs) (Value.ref (s.heap.objs.size + 1) :: us) := .cons rfl r
  have hl : (Value.ref (s.heap.objs.size + 1) :: us).length = ps.length := by
    have e := r2.length
    rw [F.len _ _ _ _ hq] at e
    exact e.symm
  have hb2 := hb _ (Value.ref (s.heap.objs.size + 1) :: us) I2.kIn (by rw [List.append_nil]; exact hl)
  rw [List.append_nil] at hb2
  refine wpAny_call (make_map (f := f) I.kIn M.makes M.init (beq_iff_eq.mp M.fn) (codeAny_mono (F.run _ X.stack _ _ ⟨Value.ref (s.heap.objs.size + 1) :: us, []⟩ (Value.ref (s.heap.objs.size + 1) :: us) _ _ (E σ) (hr.make C us [])
    (I2.env0.make C us []) hb2 r2 hq) fun r s' hq' => ?_))
  cases r with
  | error e => exact hx σ pins _ _ e s' I2 hq'
  | ok fl =>
    cases fl with
    | ret u =>
      obtain ⟨v, H', I3, rv, ev, q3⟩ := I2.after hq'
      subst ev
      exact ⟨rv, ⟨V.ref (s.heap.objs.size + 1), H', I3, rfl, q3⟩⟩
    | next => exact False.elim hq'
    | brk => exact False.elim hq'
    | cont => exact False.elim hq'
def tMakeS (C : Addr) (sp : Sp) (E : L2.St → XK) (t : TA) : TE := fun σ H Q => t σ H fun vs H1 => ∀ x dx, H1 x = none → H1 dx = none → dx ≠ x → sp (.ref x :: vs) (upd (upd H1 dx (.own x)) x (.ins C dx [])) (fun v H2 => v = .non ∧ Q (.ref x) H2) (E σ)
theorem pe_makeS (M : Mk X.K C f) (F : FnOk X.prog X.w X.K X.mg X.base CX k f fd ps sp) (hr : Room (k + 1) X.A) (hg : Gl X x) (hm : X.mg x = some (.ref C)) (hb : Binds X.K fd ps []) (hx : ∀ σ, PassesAt CX X σ (E σ))
    (ha : PA X (e :: es) t) (hdb : (x == ("__debug__" : Str)) = false := by decide) (he : starEach (e :: es) X.env = (false, eval e X.env) :: starEach es X.env := by rfl) (hpl : (backTo pos (starEach es X.env)).any (·.1) = false := by rfl) :
    PE X (.Call (.Name x p) (e :: es) [] pos) (tMakeS C sp E t) := by
  refine ⟨fun pins s σ H Q I h => ?_⟩
  refine wpAny_Call_Name_kw (ld_glob I hg hm ?_ hdb)
  refine PySem.W.callWith_K (h₀ := X.base) I.ok.mod.kin M.kp (thn (ha.run pos pins s σ H _ I h) fun us s1 ⟨vs, H1, I1, r, q⟩ => ⟨I1.kIn, ?_⟩) he hpl
  exact run_makeS M F hr hb hx I1 r q
end layer
section
variable {K : Fg} {B : Bx K} {ta tv : TE} {φ φa φv : DE} {tas : TA} {ψ : DA} {μ : Sto} {H : Hp}
theorem Rep.obj_inv {v : V} {C : Addr} {ns : List Str} {ds : List D} (h : Rep K μ H v (.obj C ns ds)) : ∃ a dx us, v = .ref a ∧ H a = some (.ins C dx (ns.zip us)) ∧ NM μ a ∧ us.length = ns.length ∧ Reps K μ H us ds := by
  cases h with
  | obj h1 h2 h3 h4 _ => exact ⟨_, _, _, rfl, h1, h2, h3, h4⟩
/-- C(..), C a class whose __init__ keeps c -/
def dMakeS (C : Addr) (c : Con) (ψ : DA) : DE := fun Ψ δ μ Φ => ψ Ψ δ μ fun ds μ1 => ∀ x, μ1 x = none → c (.hd (.ref x) :: ds) (sset μ1 x (.ins C [] [])) (fun d μ2 => d = .non ∧ ∃ ns es, μ2 x = some (.ins C ns es) ∧ Φ (.obj C ns es) (sdel μ2 x)) (fun y μ2 => Ψ y δ μ2)
theorem sMakeS {C : Addr} {c : Con} (a : SA B tas ψ) : SE B (tMakeS C (spOf K c) (WE B.W) tas) (dMakeS C c ψ) := fun σ H δ μ Φ Q S q k =>
  a σ H δ μ _ _ S q fun vs H1 xs μ1 S1 e1 r1 q1 x dx hx hdx hne => by
    have hx' : upd H1 dx (.own x) x = none := by rw [upd_ne (Ne.symm hne)]; exact hx
    have ev0 : Evo μ1 H1 μ1 (upd H1 dx (.own x)) := .new hdx
    have st0 : StoOk K μ1 (upd H1 dx (.own x)) := S1.sto.new hdx
    have ev1 : Evo μ1 (upd H1 dx (.own x)) (sset μ1 x (.ins C [] [])) (upd (upd H1 dx (.own x)) x (.ins C dx [])) := .newC st0 hx'
    have st1 : StoOk K (sset μ1 x (.ins C [] [])) (upd (upd H1 dx (.own x)) x (.ins C dx [])) := st0.cell ev1 ⟨dx, [], upd_same, rfl, .nil⟩
    have ev := ev0.trans ev1
    refine ⟨sset μ1 x (.ins C [] []), .hd (.ref x) :: xs, _, _, st1, .hd _ (r1.mono ev), q1 x (S1.sto.fresh hx), fun v H' d μ' e s r ⟨hd, ns, es, hc, hq⟩ => ?_, fun cls dd H' y μ' e s rx hΨ => ?_⟩
    · subst hd
      obtain rfl := Rep.non_inv r
      refine ⟨rfl, ?_⟩
      obtain ⟨dx', us, hH, hl, hr⟩ := s x _ hc
      have sb : Sub (sdel μ' x) μ' := sdel_sub
      have e2 : Evo μ' H' (sdel μ' x) H' := sb.evo
      exact k _ H' _ (sdel μ' x) (S1.step (ev.trans (e.trans e2)) (sb.sto s)) (e1.trans (ev.trans (e.trans e2))) (.obj hH (NM.of sdel_same) hl (hr.mono e2) .nil) hq
    · exact B.hW cls dd σ H' y δ μ' (S1.step (ev.trans e) s) rx hΨ
/-- x.f, x an instance at rest -/
def dFld (C : Addr) (NS : List Str) (i : Nat) (φ : DE) : DE := fun Ψ δ μ Φ => φ Ψ δ μ fun x μ1 => ∃ ds d, x = .obj C NS ds ∧ ds[i]? = some d ∧ Φ d μ1
theorem sFldO {C : Addr} {NS : List Str} {f : Str} {i : Nat} (c : Cls K C) (n : NoAttr K C f) (hi : NS[i]? = some f) (hn : NS.Nodup) (a : SE B ta φ) : SE B (tFld K ta f) (dFld C NS i φ) := fun σ H δ μ Φ Q S q k =>
  a σ H δ μ _ _ S q fun v H1 x μ1 S1 e1 r1 q1 => by
    obtain ⟨ds, d, rfl, hd, q⟩ := q1
    obtain ⟨p, dx, us, rfl, hH, hnm, hl, hr⟩ := Rep.obj_inv r1
    obtain ⟨u, hu, ru⟩ := hr.get hd
    exact ⟨p, C, dx, _, u, rfl, hH, c, n, zip_lookup hn hi hu, k u H1 d μ1 S1 e1 ru q⟩
theorem putF_new {f : Str} {v : V} : ∀ {ns : List Str} {us : List V}, f ∉ ns → us.length = ns.length → putF f v (ns.zip us) = (ns ++ [f]).zip (us ++ [v])
  | [], [], _, _ => rfl
  | [], _ :: _, _, h => by simp at h
  | _ :: _, [], _, h => by simp at h
  | n :: ns, u :: us, hf, hl => by
    show (if n = f then (n, v) :: ns.zip us else (n, u) :: putF f v (ns.zip us)) = _
    rw [if_neg (fun e => hf (by rw [e]; exact List.mem_cons_self)), putF_new (fun h => hf (List.mem_cons_of_mem _ h)) (by simpa using hl)]
    rfl
/-- self.f = value, a new field of an instance in the making -/
def dSetF (C : Addr) (f : Str) (φv φa : DE) : DSt := fun Ψ Δ δ μ => φv Ψ δ μ fun y μ1 => φa Ψ δ μ1 fun x μ2 => ∃ a ns ds, x = .hd (.ref a) ∧ μ2 a = some (.ins C ns ds) ∧ f ∉ ns ∧ ns.length < 1000 ∧ Δ.nx δ (sset μ2 a (.ins C (ns ++ [f]) (ds ++ [y])))
theorem sSetF {C : Addr} {f : Str} (c : Cls K C) (n : NoAttr K C f) (b : SE B tv φv) (a : SE B ta φa) : SS B (sFld K ta tv f) (dSetF C f φv φa) := fun D Δ σ H δ μ E S q =>
  b σ H δ μ _ _ S q fun w H1 y μ1 S1 e1 r1 q1 => a σ H1 δ μ1 _ _ S1 q1 fun v H2 x μ2 S2 e2 r2 q2 => by
    obtain ⟨p, ns, ds, rfl, hc, hf, hz, q⟩ := q2
    obtain rfl := Rep.hd_inv r2
    obtain ⟨dx, us, hH, hl, hr⟩ := S2.sto p _ hc
    refine ⟨p, C, dx, _, rfl, hH, c, n, by rw [List.length_zip, hl, Nat.min_self]; exact hz, ?_⟩
    rw [putF_new hf hl]
    have ev : Evo μ2 H2 (sset μ2 p (.ins C (ns ++ [f]) (ds ++ [y]))) (upd H2 p (.ins C dx ((ns ++ [f]).zip (us ++ [w])))) := .cell hc fun h => h.notI hc
    exact E.nx σ _ δ _ (S2.step ev (S2.sto.cell ev ⟨dx, us ++ [w], upd_same, by simp [hl], (hr.append (r1.mono e2)).mono ev⟩)) q
/-- x.m(..), x an instance at rest -/
def dMethX (C : Addr) (NS : List Str) (c : Con) (φ : DE) (ψ : DA) : DE := fun Ψ δ μ Φ => φ Ψ δ μ fun x μ1 => ∃ es, x = .obj C NS es ∧ ψ Ψ δ μ1 fun ds μ2 => c (x :: ds) μ2 Φ fun y μ3 => Ψ y δ μ3
end
end DW
set_option Elab.async false
set_option linter.all false
set_option maxRecDepth 100000
set_option maxHeartbeats 4000000
namespace DW
open PySem PySem.Spec PyProof.Rows L2
def dSortSet (φ : DE) : DE := fun Ψ δ μ Φ => φ Ψ δ μ fun x μ1 => ∃ zs : List Int, Items μ1 x (zs.map .int) ∧ (zs.length ≤ 1000 ∧ ∃ bd : List Int, bd.length < 64 ∧ ∀ z ∈ zs, z ∈ bd) ∧ ∀ ns : List Int, ns.Pairwise (· < ·) → (∀ k : Int, k ∈ ns ↔ k ∈ zs) → Φ (.lst (ns.map .int)) μ1
theorem reps_of_ints {K : Fg} {μ : Sto} {H : Hp} : ∀ ns : List Int, Reps K μ H (ns.map V.int) (ns.map D.int)
  | [] => .nil
  | n :: ns => .int n (reps_of_ints ns)
end DW
set_option Elab.async false
set_option linter.all false
set_option maxRecDepth 100000
set_option maxHeartbeats 4000000
namespace DW
open PySem PySem.Spec PyProof.Rows L2
section
variable {K : Fg} {B : Bx K} {ta tb : TE} {φ φ' φa φb : DE} {tas : TA} {ψ : DA}
def cMaxL : DC := fun xs μ Φ => ∃ x ns, xs = [x] ∧ Items μ x (ns.map .int) ∧ isTup x = false ∧ ns ≠ [] ∧ ∀ m, m ∈ ns → (∀ y, y ∈ ns → y ≤ m) → Φ (.int m) μ
def cMinL : DC := fun xs μ Φ => ∃ x ns, xs = [x] ∧ Items μ x (ns.map .int) ∧ isTup x = false ∧ ns ≠ [] ∧ ∀ m, m ∈ ns → (∀ y, y ∈ ns → m ≤ y) → Φ (.int m) μ
def oRepL : DO := fun x y μ Φ => ∃ ds k, x = .lst ds ∧ y = .int k ∧ k ≤ 100000 ∧ -100000 ≤ k ∧ ds.length * k.toNat ≤ 100000 ∧ Φ (.lst (List.replicate k.toNat ds).flatten) μ
theorem Reps.rep {μ : Sto} {H : Hp} {vs : List V} {ds : List D} (h : Reps K μ H vs ds) : ∀ k : Nat, Reps K μ H (List.replicate k vs).flatten (List.replicate k ds).flatten
  | 0 => .nil
  | k + 1 => by rw [List.replicate_succ, List.replicate_succ, List.flatten_cons, List.flatten_cons]; exact h.append (h.rep k)
theorem roRepL : RO K rRep oRepL := fun H μ v w d e Φ Q s0 r1 r2 h k => by
  obtain ⟨ds, n, rfl, rfl, h1, h2, h3, q⟩ := h
  obtain rfl := Rep.int_inv r2
  obtain ⟨a, vs, rfl, h4, h5⟩ := Rep.lst_inv r1
  refine ⟨a, n, vs, rfl, rfl, h4.1, by omega, by omega, ?_, fun p hp => k _ _ _ μ (.new hp) (s0.new hp) (rep_lst s0 hp (h5.rep _)) q⟩
  rw [h5.length]; exact sz h3
def dLstR1 (φ : DE) : DE := fun Ψ δ μ Φ => φ Ψ δ μ fun x μ1 => ∃ j, x = .int j ∧ 0 ≤ j ∧ j ≤ 100000 ∧ Φ (.lst (rngD 0 j.toNat)) μ1
theorem rgV_reps {μ : Sto} {H : Hp} {b : Int} : Reps K μ H (rgV 0 b) (rngD 0 b.toNat) := by
  have e1 : rgV 0 b = ((List.range b.toNat).map fun i : Nat => (0 : Int) + i).map V.int := by unfold rgV; rw [Int.sub_zero, List.map_map]; rfl
  have e2 : rngD 0 b.toNat = ((List.range b.toNat).map fun i : Nat => (0 : Int) + i).map D.int := by unfold rngD; rw [List.map_map]; rfl
  rw [e1, e2]
  exact reps_of_ints _
def iZipL (φ φ' : DE) : DI := fun Ψ δ μ Φ => φ Ψ δ μ fun x μ1 => φ' Ψ δ μ1 fun y μ2 => ∃ xs ys, x = .lst xs ∧ y = .lst ys ∧ Φ ((xs.zip ys).map fun p => .pr [p.1, p.2]) μ2
def iEnL (φ : DE) : DI := fun Ψ δ μ Φ => φ Ψ δ μ fun x μ1 => ∃ ds, x = .lst ds ∧ Φ ((List.range ds.length).map fun (i : Nat) => .pr [.int (i : Int), ds.getD i .non]) μ1
/-- xs.index(y), flat -/
def dIdx (φa φb : DE) : DE := fun Ψ δ μ Φ => φa Ψ δ μ fun x μ1 => ∃ ds, x = .lst ds ∧ φb Ψ δ μ1 fun y μ2 => flatD y = true ∧ ds.all flatD = true ∧ ∃ (j : Nat) (z : D), ds[j]? = some z ∧ eqF z y = true ∧ (∀ (m : Nat) (z' : D), m < j → ds[m]? = some z' → eqF z' y = false) ∧ Φ (.int j) μ2
theorem sIdx (a : SE B ta φa) (b : SE B tb φb) : SE B (tBM K "list" (rIndex K) ta (tCons tb tNil)) (dIdx φa φb) := fun σ H δ μ Φ Q S q k =>
  a σ H δ μ _ _ S q fun v H1 x μ1 S1 e1 r1 q1 => by
    obtain ⟨ds, rfl, q1⟩ := q1
    obtain ⟨p, us, rfl, h1, h2⟩ := Rep.lst_inv r1
    refine ⟨.inl ⟨rfl, us, h1.sq⟩, b σ H1 δ μ1 _ _ S1 q1 fun w H2 y μ2 S2 e2 r2 q2 => ?_⟩
    obtain ⟨fy, fd, j, z, hj, hz, hno, q2⟩ := q2
    have h2' := h2.mono e2
    obtain ⟨u, hu, ru⟩ := h2'.get hj
    refine ⟨p, us, w, j, u, rfl, rfl, (h1.mono e2).sq, flatD_ok r2 fy, flatAll_ok h2' fd, hu, ?_, fun m z' hm hz' => ?_, k _ _ _ μ2 S2 (e1.trans e2) (.int _ .nil) q2⟩
    · rw [eqF_ok ru r2 (List.all_eq_true.1 fd z (List.mem_of_getElem? hj)) fy]; exact hz
    · obtain ⟨d', hd', rd'⟩ := h2'.getV hz'
      rw [eqF_ok rd' r2 (List.all_eq_true.1 fd d' (List.mem_of_getElem? hd')) fy]
      exact hno m d' hm hd'
/-- o.pop(i), o a handle -/
def dPopAt (φa φb : DE) : DE := fun Ψ δ μ Φ => φa Ψ δ μ fun x μ1 => ∃ a ds, x = .hd (.ref a) ∧ μ1 a = some (.lst ds) ∧ φb Ψ δ μ1 fun y μ2 => ∃ es, μ2 a = some (.lst es) ∧ es.length ≤ 100000 ∧ ∃ (i : Nat) (d : D), y = .int i ∧ es[i]? = some d ∧ Φ d (sset μ2 a (.lst (es.eraseIdx i)))
theorem Reps.eraseIdx {μ : Sto} {H : Hp} {vs : List V} {ds : List D} (h : Reps K μ H vs ds) (i : Nat) : Reps K μ H (vs.eraseIdx i) (ds.eraseIdx i) := by
  rw [List.eraseIdx_eq_take_drop_succ, List.eraseIdx_eq_take_drop_succ]
  exact (h.take _).append (h.drop _)
end
section
variable {K : Fg} {B : Bx K} {ta tb : TE} {φ φ' φa φb : DE} {tas : TA} {ψ : DA}
theorem TupAt.bare {μ : Sto} {H : Hp} {a : Addr} {us : List V} (h : TupAt K μ H a us) : (∃ (o : Obj) (us : List V), H a = some (.frz o (.tup us)) ∧ o.dict = none ∧ o.cls = .type "tuple") ∨ ∃ o, K.lookup a = some o ∧ o.cls = .type "tuple" ∧ o.dict = none :=
  h.elim (fun ⟨o, h1, h2, h3, _⟩ => .inl ⟨o, us, h1, h2, h3⟩) fun ⟨o, _, _, h1, h2, h3, _⟩ => .inr ⟨o, h1, h2, h3⟩
def dCntT (φa φb : DE) : DE := fun Ψ δ μ Φ => φa Ψ δ μ fun x μ1 => ∃ ns : List Int, x = .tup (ns.map .int) ∧ φb Ψ δ μ1 fun y μ2 => ∃ k : Int, y = .int k ∧ Φ (.int (ns.count k : Nat)) μ2
def dIdxT (φa φb : DE) : DE := fun Ψ δ μ Φ => φa Ψ δ μ fun x μ1 => ∃ ns : List Int, x = .tup (ns.map .int) ∧ φb Ψ δ μ1 fun y μ2 => ∃ (k : Int) (j : Nat), y = .int k ∧ ns[j]? = some k ∧ (∀ m, m < j → ns[m]? ≠ some k) ∧ Φ (.int j) μ2
end
end DW
set_option Elab.async false
set_option linter.all false
set_option maxRecDepth 100000
set_option maxHeartbeats 4000000
namespace DW
open PySem PySem.Spec PyProof.Rows L2
section
variable {K : Fg} {B : Bx K} {ta tb : TE} {φa φb : DE} {w : World} {d : Addr} {tbl : List (Str × D)}
/-- d[z] -/
def oIxD (d : Addr) (tbl : List (Str × D)) : DO := fun x y μ Φ => x = .hd (.ref d) ∧ ∃ z v, y = .str z ∧ tbl.lookup z = some v ∧ Φ v μ
def oInD (d : Addr) (tbl : List (Str × D)) (neg : Bool) : DO := fun x y μ Φ => y = .hd (.ref d) ∧ ∃ z, x = .str z ∧ Φ (.bl (if neg then !(tbl.lookup z).isSome else (tbl.lookup z).isSome)) μ
end
section
variable {K : Fg} {B : Bx K} {tas : TA} {ψ : DA}
def dCallF (i : Nat) (F : Addr → Con → Prop) (ψ : DA) : DE := fun Ψ δ μ Φ => ∃ f c, F f c ∧ δ[i]? = some (some (.hd (.ref f))) ∧ ψ Ψ δ μ fun ds μ1 => c ds μ1 Φ fun y μ2 => Ψ y δ μ2
end
end DW
set_option Elab.async false
set_option linter.all false
set_option maxRecDepth 100000
set_option maxHeartbeats 4000000
namespace DW
open PySem PySem.Spec PyProof.Rows L2
section
variable {K : Fg} {B : Bx K} {ta : TE} {tas : TA} {φ φ' φa φb φv : DE} {ψ : DA} {W : WX} {C : Addr} {NS : List Str} {m : Str} {c : Con}
theorem sMakeSW (hW : B.W = W) (a : SA B tas ψ) : SE B (tMakeS C (spOf K c) (WE W) tas) (dMakeS C c ψ) := by
  subst hW
  exact sMakeS a
end
/-- a statement of a class's suite -/
def clsS : Stmt → Nat → Stmt
  | .ClassDef _ _ _ b _ _ _ _ _ _ _, j => b.getD j (.Pass ⟨0, 0, 0, 0⟩)
  | s, _ => s
section
variable {K : Fg} {φ φ' φa φb φv : DE} {ψ : DA} {Ψ : XP} {δ : DEnv} {μ : Sto} {Φ : DK} {Δ : DEnds} {C d : Addr} {NS : List Str} {i j : Nat} {c : Con} {f z : Str} {F : Addr → Con → Prop} {ds es : List D} {k : Int} {tbl : List (Str × D)} {n : Bool} {x : D}
theorem u_fld : dFld C NS i φ Ψ δ μ Φ = φ Ψ δ μ fun x μ1 => ∃ ds d, x = .obj C NS ds ∧ ds[i]? = some d ∧ Φ d μ1 := rfl
theorem w_fld {P : D → Prop} : (∃ es d, D.obj C NS ds = .obj C NS es ∧ es[i]? = some d ∧ P d) = ∃ d, ds[i]? = some d ∧ P d := propext ⟨fun ⟨es, d, e, h, q⟩ => by cases e; exact ⟨d, h, q⟩, fun ⟨d, h, q⟩ => ⟨_, d, rfl, h, q⟩⟩
theorem w_someE {y : D} {P : D → Prop} : (∃ d, some y = some d ∧ P d) = P y := propext ⟨fun ⟨_, e, q⟩ => by cases e; exact q, fun q => ⟨_, rfl, q⟩⟩
theorem u_setF : dSetF C f φv φa Ψ Δ δ μ = φv Ψ δ μ fun y μ1 => φa Ψ δ μ1 fun x μ2 => ∃ a ns ds, x = .hd (.ref a) ∧ μ2 a = some (.ins C ns ds) ∧ f ∉ ns ∧ ns.length < 1000 ∧ Δ.nx δ (sset μ2 a (.ins C (ns ++ [f]) (ds ++ [y]))) := rfl
theorem u_methX : dMethX C NS c φ ψ Ψ δ μ Φ = φ Ψ δ μ fun x μ1 => ∃ es, x = .obj C NS es ∧ ψ Ψ δ μ1 fun ds μ2 => c (x :: ds) μ2 Φ fun y μ3 => Ψ y δ μ3 := rfl
theorem w_objE {P : List D → Prop} : (∃ es, D.obj C NS ds = .obj C NS es ∧ P es) = P ds := propext ⟨fun ⟨_, e, q⟩ => by cases e; exact q, fun q => ⟨_, rfl, q⟩⟩
theorem u_makeS : dMakeS C c ψ Ψ δ μ Φ = ψ Ψ δ μ fun ds μ1 => ∀ x, μ1 x = none → c (.hd (.ref x) :: ds) (sset μ1 x (.ins C [] [])) (fun d μ2 => d = .non ∧ ∃ ns es, μ2 x = some (.ins C ns es) ∧ Φ (.obj C ns es) (sdel μ2 x)) (fun y μ2 => Ψ y δ μ2) := rfl
theorem u_sortSet : dSortSet φ Ψ δ μ Φ = φ Ψ δ μ fun x μ1 => ∃ zs : List Int, Items μ1 x (zs.map .int) ∧ (zs.length ≤ 1000 ∧ ∃ bd : List Int, bd.length < 64 ∧ ∀ z ∈ zs, z ∈ bd) ∧ ∀ ns : List Int, ns.Pairwise (· < ·) → (∀ k : Int, k ∈ ns ↔ k ∈ zs) → Φ (.lst (ns.map .int)) μ1 := rfl
theorem u_lstR1 : dLstR1 φ Ψ δ μ Φ = φ Ψ δ μ fun x μ1 => ∃ j, x = .int j ∧ 0 ≤ j ∧ j ≤ 100000 ∧ Φ (.lst (rngD 0 j.toNat)) μ1 := rfl
theorem u_iZipL {Φ : List D → Sto → Prop} : iZipL φ φ' Ψ δ μ Φ = φ Ψ δ μ fun x μ1 => φ' Ψ δ μ1 fun y μ2 => ∃ xs ys, x = .lst xs ∧ y = .lst ys ∧ Φ ((xs.zip ys).map fun p => D.pr [p.1, p.2]) μ2 := rfl
theorem u_iEnL {Φ : List D → Sto → Prop} : iEnL φ Ψ δ μ Φ = φ Ψ δ μ fun x μ1 => ∃ ds, x = .lst ds ∧ Φ ((List.range ds.length).map fun (i : Nat) => D.pr [.int (i : Int), ds.getD i .non]) μ1 := rfl
theorem u_idx : dIdx φa φb Ψ δ μ Φ = φa Ψ δ μ fun x μ1 => ∃ ds, x = .lst ds ∧ φb Ψ δ μ1 fun y μ2 => flatD y = true ∧ ds.all flatD = true ∧ ∃ (j : Nat) (z : D), ds[j]? = some z ∧ eqF z y = true ∧ (∀ (m : Nat) (z' : D), m < j → ds[m]? = some z' → eqF z' y = false) ∧ Φ (.int j) μ2 := rfl
theorem u_popAt : dPopAt φa φb Ψ δ μ Φ = φa Ψ δ μ fun x μ1 => ∃ a ds, x = .hd (.ref a) ∧ μ1 a = some (.lst ds) ∧ φb Ψ δ μ1 fun y μ2 => ∃ es, μ2 a = some (.lst es) ∧ es.length ≤ 100000 ∧ ∃ (i : Nat) (d : D), y = .int i ∧ es[i]? = some d ∧ Φ d (sset μ2 a (.lst (es.eraseIdx i))) := rfl
theorem u_cntT : dCntT φa φb Ψ δ μ Φ = φa Ψ δ μ fun x μ1 => ∃ ns : List Int, x = .tup (ns.map .int) ∧ φb Ψ δ μ1 fun y μ2 => ∃ k : Int, y = .int k ∧ Φ (.int (ns.count k : Nat)) μ2 := rfl
theorem u_idxT : dIdxT φa φb Ψ δ μ Φ = φa Ψ δ μ fun x μ1 => ∃ ns : List Int, x = .tup (ns.map .int) ∧ φb Ψ δ μ1 fun y μ2 => ∃ (k : Int) (j : Nat), y = .int k ∧ ns[j]? = some k ∧ (∀ m, m < j → ns[m]? ≠ some k) ∧ Φ (.int j) μ2 := rfl
theorem u_callF : dCallF i F ψ Ψ δ μ Φ = ∃ f c, F f c ∧ δ[i]? = some (some (.hd (.ref f))) ∧ ψ Ψ δ μ fun ds μ1 => c ds μ1 Φ fun y μ2 => Ψ y δ μ2 := rfl
theorem w_maxL : cMaxL [x] μ Φ = ∃ ns, Items μ x (ns.map .int) ∧ isTup x = false ∧ ns ≠ [] ∧ ∀ m, m ∈ ns → (∀ y, y ∈ ns → y ≤ m) → Φ (.int m) μ := propext ⟨fun ⟨_, ns, e, q⟩ => by cases e; exact ⟨ns, q⟩, fun ⟨ns, q⟩ => ⟨_, ns, rfl, q⟩⟩
theorem w_minL : cMinL [x] μ Φ = ∃ ns, Items μ x (ns.map .int) ∧ isTup x = false ∧ ns ≠ [] ∧ ∀ m, m ∈ ns → (∀ y, y ∈ ns → m ≤ y) → Φ (.int m) μ := propext ⟨fun ⟨_, ns, e, q⟩ => by cases e; exact ⟨ns, q⟩, fun ⟨ns, q⟩ => ⟨_, ns, rfl, q⟩⟩
theorem w_ixDc : oIxD d tbl (.hd (.ref d)) (.str z) μ Φ = ∃ v, tbl.lookup z = some v ∧ Φ v μ := propext ⟨fun ⟨_, _, v, e, h, q⟩ => by cases e; exact ⟨v, h, q⟩, fun ⟨v, h, q⟩ => ⟨rfl, _, v, rfl, h, q⟩⟩
theorem w_inDc : oInD d tbl n (.str z) (.hd (.ref d)) μ Φ = Φ (.bl (if n then !(tbl.lookup z).isSome else (tbl.lookup z).isSome)) μ := propext ⟨fun ⟨_, _, e, q⟩ => by cases e; exact q, fun q => ⟨rfl, _, rfl, q⟩⟩
theorem w_repL : oRepL (.lst ds) (.int k) μ Φ = (k ≤ 100000 ∧ -100000 ≤ k ∧ ds.length * k.toNat ≤ 100000 ∧ Φ (.lst (List.replicate k.toNat ds).flatten) μ) := propext ⟨fun ⟨_, _, e1, e2, q⟩ => by cases e1; cases e2; exact q, fun q => ⟨_, _, rfl, rfl, q⟩⟩
theorem w_listLs {P : List D → List D → Prop} : (∃ xs ys, D.lst ds = .lst xs ∧ D.lst es = .lst ys ∧ P xs ys) = P ds es := propext ⟨fun ⟨_, _, e1, e2, q⟩ => by cases e1; cases e2; exact q, fun q => ⟨_, _, rfl, rfl, q⟩⟩
end
end DW
set_option Elab.async false
set_option linter.all false
set_option maxRecDepth 100000
namespace DW
open PySem PySem.Spec PyProof.Rows L2
theorem sset_comm {μ : Sto} {a b : Addr} {x y : Cell} (h : a ≠ b) : sset (sset μ a x) b y = sset (sset μ b y) a x := by
  funext e
  unfold sset
  by_cases h1 : e = a
  · subst h1; rw [if_neg h, if_pos rfl, if_pos rfl]
  · rw [if_neg h1, if_neg h1]
/-- list(range(n)), a list that will change -/
def dLstR1O (φ : DE) : DE := fun Ψ δ μ Φ => φ Ψ δ μ fun x μ1 => ∃ j, x = .int j ∧ 0 ≤ j ∧ j ≤ 100000 ∧ ∀ p, μ1 p = none → Φ (.hd (.ref p)) (sset μ1 p (.lst (rngD 0 j.toNat)))
theorem u_lstR1O {φ : DE} {Ψ : XP} {δ : DEnv} {μ : Sto} {Φ : DK} : dLstR1O φ Ψ δ μ Φ = φ Ψ δ μ fun x μ1 => ∃ j, x = .int j ∧ 0 ≤ j ∧ j ≤ 100000 ∧ ∀ p, μ1 p = none → Φ (.hd (.ref p)) (sset μ1 p (.lst (rngD 0 j.toNat))) := rfl
end DW
set_option Elab.async false
set_option linter.all false
set_option maxRecDepth 100000
namespace DW
open PySem PySem.Spec PyProof.Rows L2
/-- xs.count(k), xs a list of ints -/
def dCntL (φa φb : DE) : DE := fun Ψ δ μ Φ => φa Ψ δ μ fun x μ1 => ∃ ns : List Int, x = .lst (ns.map .int) ∧ φb Ψ δ μ1 fun y μ2 => ∃ k : Int, y = .int k ∧ Φ (.int (ns.count k : Nat)) μ2
theorem u_cntL {φa φb : DE} {Ψ : XP} {δ : DEnv} {μ : Sto} {Φ : DK} : dCntL φa φb Ψ δ μ Φ = φa Ψ δ μ fun x μ1 => ∃ ns : List Int, x = .lst (ns.map .int) ∧ φb Ψ δ μ1 fun y μ2 => ∃ k : Int, y = .int k ∧ Φ (.int (ns.count k : Nat)) μ2 := rfl
end DW
set_option Elab.async false
set_option linter.all false
set_option maxRecDepth 100000
namespace DW
open PySem PySem.Spec PyProof.Rows L2
end DW
set_option Elab.async false
set_option linter.all false
set_option maxRecDepth 100000
namespace DW
open PySem PySem.Spec PyProof.Rows L2
section
variable {K : Fg} {B : Bx K}
def dLc2 (ι : DI) (γ : DG) (θ : DT) (ι1 : DI) (γ1 : DG) (θ1 : DT) (φ : DE) (vs vs1 : List Nat) : DE := fun Ψ δ μ Φ => ι Ψ δ μ fun xs μ1 => ∀ p, μ1 p = none → ∃ W : Nat → Sto → Prop, W 0 (sset μ1 p (.lst [])) ∧
  (∀ i d μ2, xs[i]? = some d → W i μ2 → γ d (dwipe δ vs) μ2 fun δ3 μ3 => θ Ψ δ3 μ3 fun b μ4 =>
    (b = true → ι1 Ψ δ3 μ4 fun xs1 μ5 => ∃ W1 : Nat → Sto → Prop, W1 0 μ5 ∧
      (∀ j d1 μ6, xs1[j]? = some d1 → W1 j μ6 → γ1 d1 (dwipe δ3 vs1) μ6 fun δ7 μ7 => θ1 Ψ δ7 μ7 fun b1 μ8 =>
        (b1 = true → φ Ψ δ7 μ8 fun y μ9 => ∃ acc, μ9 p = some (.lst acc) ∧ acc.length ≤ 100000 ∧ W1 (j + 1) (sset μ9 p (.lst (acc ++ [y])))) ∧ (b1 = false → W1 (j + 1) μ8)) ∧
      ∀ μ6, W1 xs1.length μ6 → W (i + 1) μ6) ∧ (b = false → W (i + 1) μ4)) ∧
  ∀ μ2, W xs.length μ2 → ∃ acc, μ2 p = some (.lst acc) ∧ Φ (.lst acc) (sdel μ2 p)
theorem sLc2 {wi wi1 : TI} {g g1 : TG} {tt tt1 : TT} {te : TE} {vs vs1 : List Nat} {ι ι1 : DI} {γ γ1 : DG} {θ θ1 : DT} {φ : DE} (a : SI B wi ι) (w : GW vs g) (w1 : GW vs1 g1) (b : ∀ H1 μ1 e, SG (B.re H1 μ1 e) g γ) (c : ∀ H1 μ1 e, ST (B.re H1 μ1 e) tt θ)
    (a1 : ∀ H1 μ1 e, SI (B.re H1 μ1 e) wi1 ι1) (b1 : ∀ H1 μ1 e, SG (B.re H1 μ1 e) g1 γ1) (c1 : ∀ H1 μ1 e, ST (B.re H1 μ1 e) tt1 θ1) (d : ∀ H1 μ1 e, SE (B.re H1 μ1 e) te φ) :
    SE B (tLc2 wi g tt wi1 g1 tt1 te vs vs1) (dLc2 ι γ θ ι1 γ1 θ1 φ vs vs1) := fun σ H δ μ Φ Q S q k =>
  a σ H δ μ _ _ S q fun xs J H1 μ1 S1 e1 it q1 => fun p hp => by
    have hμp : μ1 p = none := S1.sto.fresh hp
    obtain ⟨W, w0, ws, wd⟩ := q1 p hμp
    refine ⟨fun i m H' => m = xs.length - i ∧ i ≤ xs.length ∧ ∃ μ', Evo μ1 H1 μ' H' ∧ StoOk K μ' H' ∧ W i μ', ⟨xs.length, by simp, Nat.zero_le _, _, .newC S1.sto hp, sto_own S1.sto hp .nil, w0⟩, ?_⟩
    rintro i m H' ⟨rfl, hi, μ', e', s', wi'⟩
    by_cases hlt : i < xs.length
    · obtain ⟨hgo, hy⟩ := (it i H' μ' s' e').1 hlt
      refine .inr ⟨hgo, fun H2 => ∃ μ2, Evo μ1 H1 μ2 H2 ∧ StoOk K μ2 H2 ∧ W (i + 1) μ2, fun H2 ⟨μ2, e2, s2, w2⟩ => ⟨xs.length - (i + 1), by omega, rfl, by omega, μ2, e2, s2, w2⟩, fun x H2 y => ?_⟩
      obtain ⟨dd, hd, s2, e2, r2⟩ := hy x H2 y
      have S2 : (B.re H1 μ1 S1.evo).S (L2.wipe σ vs) H2 (dwipe δ vs) μ' := ⟨e'.trans e2, s2, ((S1.env.mono e').mono e2).wipe vs⟩
      refine w x (L2.wipe σ vs) (L2.wipe σ vs) H2 _ wipe_wipe ?_
      refine b H1 μ1 S1.evo x dd (L2.wipe σ vs) H2 (dwipe δ vs) μ' _ _ S2 r2 (ws i dd μ' hd wi') fun σ3 H3 δ3 μ3 S3 e3 q3 => ?_
      refine c H1 μ1 S1.evo σ3 H3 δ3 μ3 _ _ S3 q3 fun b4 H4 μ4 S4 e4 q4 => ?_
      cases b4 with
      | true =>
        rw [if_pos rfl]
        refine a1 H1 μ1 S1.evo σ3 H4 δ3 μ4 _ _ S4 (q4.1 rfl) fun xs1 J1 H5 μ5 S5 e5 it1 q5 => ?_
        obtain ⟨W1, w10, ws1, wd1⟩ := q5
        refine ⟨fun j m H' => m = xs1.length - j ∧ j ≤ xs1.length ∧ ∃ μ', Evo μ5 H5 μ' H' ∧ StoOk K μ' H' ∧ W1 j μ', ⟨xs1.length, by simp, Nat.zero_le _, μ5, .refl, S5.sto, w10⟩, ?_⟩
        rintro j m H6 ⟨rfl, hj, μ6, e6, s6, w16⟩
        by_cases hlt1 : j < xs1.length
        · obtain ⟨hgo1, hy1⟩ := (it1 j H6 μ6 s6 e6).1 hlt1
          refine .inr ⟨hgo1, fun H7 => ∃ μ7, Evo μ5 H5 μ7 H7 ∧ StoOk K μ7 H7 ∧ W1 (j + 1) μ7, fun H7 ⟨μ7, e7, s7, w7⟩ => ⟨xs1.length - (j + 1), by omega, rfl, by omega, μ7, e7, s7, w7⟩, fun x1 H7 y1 => ?_⟩
          obtain ⟨d1, hd1, s7, e7, r7⟩ := hy1 x1 H7 y1
          have S7 : (B.re H1 μ1 S1.evo).S (L2.wipe σ3 vs1) H7 (dwipe δ3 vs1) μ6 := ⟨(S5.evo.trans e6).trans e7, s7, ((S5.env.mono e6).mono e7).wipe vs1⟩
          refine w1 x1 (L2.wipe σ3 vs1) (L2.wipe σ3 vs1) H7 _ wipe_wipe ?_
          refine b1 H1 μ1 S1.evo x1 d1 (L2.wipe σ3 vs1) H7 (dwipe δ3 vs1) μ6 _ _ S7 r7 (ws1 j d1 μ6 hd1 w16) fun σ8 H8 δ8 μ8 S8 e8 q8 => ?_
          have E8 : Evo μ5 H5 μ8 H8 := (e6.trans e7).trans e8
          refine c1 H1 μ1 S1.evo σ8 H8 δ8 μ8 _ _ S8 q8 fun b9 H9 μ9 S9 e9 q9 => ?_
          have E9 : Evo μ5 H5 μ9 H9 := E8.trans e9
          cases b9 with
          | true =>
            rw [if_pos rfl]
            refine d H1 μ1 S1.evo σ8 H9 δ8 μ9 _ _ S9 (q9.1 rfl) fun v10 H10 y10 μ10 S10 e10 r10 q10 => ?_
            obtain ⟨acc, hacc, hz, w11⟩ := q10
            obtain ⟨us, h10, hr10⟩ := S10.sto _ _ hacc
            have e11 : Evo μ10 H10 (sset μ10 p (.lst (acc ++ [y10]))) (upd H10 p (.lst (us ++ [v10]))) := own_evo hacc
            obtain ⟨e12, s12⟩ := own_upd S10.sto hacc ((hr10.append r10).mono e11)
            exact ⟨us, h10, Nat.lt_of_le_of_lt (by rw [hr10.length]; exact hz) (by decide), _, (E9.trans e10).trans e12, s12, w11⟩
          | false =>
            rw [if_neg Bool.false_ne_true]
            exact ⟨μ9, E9, S9.sto, q9.2 rfl⟩
        · have e : j = xs1.length := by omega
          subst e
          exact .inl ⟨(it1 _ H6 μ6 s6 e6).2 (Nat.le_refl _), μ6, S5.evo.trans e6, s6, wd1 μ6 w16⟩
      | false =>
        rw [if_neg Bool.false_ne_true]
        exact ⟨μ4, S4.evo, S4.sto, q4.2 rfl⟩
    · have e : i = xs.length := by omega
      subst e
      obtain ⟨acc, hacc, q2⟩ := wd μ' wi'
      obtain ⟨us, h5, hr5⟩ := s' _ _ hacc
      refine .inl ⟨(it _ H' μ' s' e').2 (Nat.le_refl _), ?_⟩
      have e8 : Evo μ1 H1 (sdel μ' p) H' := e'.trans sdel_sub.evo
      exact k (.ref p) H' (.lst acc) (sdel μ' p) (S1.step e8 (sdel_sub.sto s')) (e1.trans e8) (.lst ⟨h5, .of sdel_same⟩ (hr5.mono sdel_sub.evo) .nil) q2
end
def LcG2 (γ : DG) (θ : DT) (ι1 : DI) (γ1 : DG) (θ1 : DT) (φ : DE) (δw : DEnv) (vs1 : List Nat) (Ψ : XP) (xs : List D) (μ1 : Sto) (Φ : DK) : Prop := ∀ p, μ1 p = none → ∃ W : Nat → Sto → Prop, W 0 (sset μ1 p (.lst [])) ∧
  (∀ i d μ2, xs[i]? = some d → W i μ2 → γ d δw μ2 fun δ3 μ3 => θ Ψ δ3 μ3 fun b μ4 =>
    (b = true → ι1 Ψ δ3 μ4 fun xs1 μ5 => ∃ W1 : Nat → Sto → Prop, W1 0 μ5 ∧
      (∀ j d1 μ6, xs1[j]? = some d1 → W1 j μ6 → γ1 d1 (dwipe δ3 vs1) μ6 fun δ7 μ7 => θ1 Ψ δ7 μ7 fun b1 μ8 =>
        (b1 = true → φ Ψ δ7 μ8 fun y μ9 => ∃ acc, μ9 p = some (.lst acc) ∧ acc.length ≤ 100000 ∧ W1 (j + 1) (sset μ9 p (.lst (acc ++ [y])))) ∧ (b1 = false → W1 (j + 1) μ8)) ∧
      ∀ μ6, W1 xs1.length μ6 → W (i + 1) μ6) ∧ (b = false → W (i + 1) μ4)) ∧
  ∀ μ2, W xs.length μ2 → ∃ acc, μ2 p = some (.lst acc) ∧ Φ (.lst acc) (sdel μ2 p)
section
variable {Ψ : XP} {Φ : DK} {δ : DEnv} {μ : Sto}
theorem u_lc2 {ι : DI} {γ : DG} {θ : DT} {ι1 : DI} {γ1 : DG} {θ1 : DT} {φ : DE} {vs vs1 : List Nat} : dLc2 ι γ θ ι1 γ1 θ1 φ vs vs1 Ψ δ μ Φ = ι Ψ δ μ fun xs μ1 => LcG2 γ θ ι1 γ1 θ1 φ (dwipe δ vs) vs1 Ψ xs μ1 Φ := rfl
/-- plain names, no tests, nothing changes -/
theorem lcG2_pure {n n1 : Nat} {ι1 : DI} {φ : DE} {δw : DEnv} {μ1 : Sto} {xs : List D} (cols : Nat → List D) (v : Nat → Nat → D) (hz : ∀ i, i ≤ xs.length → ((List.range i).flatMap fun i => (List.range (cols i).length).map (v i)).length ≤ 50000)
    (hc : ∀ i, (cols i).length ≤ 50000)
    (hi : ∀ (i : Nat) (d : D) (μ2 : Sto) (X : List D → Sto → Prop), xs[i]? = some d → Sub μ1 μ2 → X (cols i) μ2 → ι1 Ψ (δw.set n (some d)) μ2 X)
    (hs : ∀ (i : Nat) (d : D) (j : Nat) (d1 : D) (μ2 : Sto) (X : DK), xs[i]? = some d → (cols i)[j]? = some d1 → Sub μ1 μ2 → X (v i j) μ2 → φ Ψ (((δw.set n (some d)).set n1 none).set n1 (some d1)) μ2 X)
    (hd : Φ (.lst ((List.range xs.length).flatMap fun i => (List.range (cols i).length).map (v i))) μ1) : LcG2 (eName n) dYes ι1 (eName n1) dYes φ δw [n1] Ψ xs μ1 Φ := fun p hp => by
  refine ⟨fun i μ' => μ' = sset μ1 p (.lst ((List.range i).flatMap fun i => (List.range (cols i).length).map (v i))), rfl, fun i d μ2 hi2 e => ?_, fun μ2 e => ?_⟩
  · subst e
    refine ⟨fun _ => hi i d _ _ hi2 (.set Sub.refl hp) ⟨fun j μ' => j ≤ (cols i).length ∧ μ' = sset μ1 p (.lst (((List.range i).flatMap fun i => (List.range (cols i).length).map (v i)) ++ (List.range j).map (v i))), ⟨Nat.zero_le _, by rw [List.range_zero, List.map_nil, List.append_nil]⟩, fun j d1 μ6 hj hw => ?_, fun μ6 hw => ?_⟩, fun z => by cases z⟩
    · obtain ⟨hjl, rfl⟩ := hw
      have hj2 := (List.getElem?_eq_some_iff.mp hj).1
      refine ⟨fun _ => hs i d j d1 _ _ hi2 hj (.set Sub.refl hp) ⟨_, sset_same, ?_, ?_⟩, fun z => by cases z⟩
      · have h1 := hz i (Nat.le_of_lt (List.getElem?_eq_some_iff.mp hi2).1)
        have h2 := hc i
        rw [List.length_append, List.length_map, List.length_range]
        omega
      · refine ⟨hj2, ?_⟩
        rw [sset_sset, List.range_succ, List.map_append, List.append_assoc]
        rfl
    · obtain ⟨_, rfl⟩ := hw
      rw [List.range_succ, List.flatMap_append]
      simp
  · subst e
    refine ⟨_, sset_same, ?_⟩
    rw [sdel_sset hp]
    exact hd
end
end DW
set_option Elab.async false
set_option linter.all false
set_option maxRecDepth 100000
set_option maxHeartbeats 4000000
namespace DW
open PySem PySem.Spec PyProof.Rows L2
def wrap : Bool → List D → D
  | true => .tup
  | false => .lst
def iZM (b1 b2 : Bool) (φ φ' : DE) : DI := fun Ψ δ μ Φ => φ Ψ δ μ fun x μ1 => φ' Ψ δ μ1 fun y μ2 => ∃ xs ys, x = wrap b1 xs ∧ y = wrap b2 ys ∧ Φ ((xs.zip ys).map fun p => .pr [p.1, p.2]) μ2
theorem u_iZM {b1 b2 : Bool} {φ φ' : DE} {Ψ : XP} {δ : DEnv} {μ : Sto} {Φ : List D → Sto → Prop} : iZM b1 b2 φ φ' Ψ δ μ Φ = φ Ψ δ μ fun x μ1 => φ' Ψ δ μ1 fun y μ2 => ∃ xs ys, x = wrap b1 xs ∧ y = wrap b2 ys ∧ Φ ((xs.zip ys).map fun p => .pr [p.1, p.2]) μ2 := rfl
theorem w_zipLT {l t : List D} {P : List D → List D → Prop} : (∃ xs ys, D.lst l = wrap false xs ∧ D.tup t = wrap true ys ∧ P xs ys) = P l t := propext ⟨fun ⟨_, _, e1, e2, q⟩ => by cases e1; cases e2; exact q, fun q => ⟨_, _, rfl, rfl, q⟩⟩
theorem w_zipTL {l t : List D} {P : List D → List D → Prop} : (∃ xs ys, D.tup l = wrap true xs ∧ D.lst t = wrap false ys ∧ P xs ys) = P l t := propext ⟨fun ⟨_, _, e1, e2, q⟩ => by cases e1; cases e2; exact q, fun q => ⟨_, _, rfl, rfl, q⟩⟩
end DW
set_option Elab.async false
set_option linter.all false
set_option maxRecDepth 100000
set_option maxHeartbeats 4000000
namespace DW
open PySem PySem.Spec PyProof.Rows L2
section
variable {X : Cx} {e : Expr} {te : L2.St → Hp → (Int → Int → Hp → Prop) → Prop}
def tTupRgN (te : L2.St → Hp → (Int → Int → Hp → Prop) → Prop) : TE := fun σ H Q => te σ H fun a b H1 => RgOk a b ∧ NewT H1 (rgV a b) Q
theorem pe_tupRgN {p pos : Pos} (hc : X.calm = true) (hg : Gl X "tuple") (hm : X.mg "tuple" = none) (he : PRg X e te) (na : starEach [e] X.env = (false, eval e X.env) :: starEach [] X.env := by rfl) : PE X (.Call (.Name "tuple" p) [e] [] pos) (tTupRgN te) := by
  refine ⟨fun pins s σ H Q I h => ?_⟩
  refine Call_ (ld_blt I hg hm boot_tuple (PyProof.Rows.callWith_type1 (args_cons (thn (he pins s σ H _ I h) fun x s1 ⟨r, a, b, t, u, v, H1, ex, hr, I1, ok, q⟩ => args_nil ?_) na) na))
  subst ex
  obtain ⟨b1, b2, b3, b4, b5⟩ := ok
  refine call_tuple_range (n := (b - a).toNat) (I1.ok.hd hc) hr (small_one b1 b2 b3 b4) (rangeSize_nat a b) b5 fun h' tk acc hk hi => ?_
  have I2 : Inv X pins σ H1 { s1 with heap := h', toks := tk } := I1.kept hk
  have r := new_tup (its := acc.toList) I2 (by rw [rgV_length, sizeLine_eq]; omega) (vals_rg hi) q
  rw [show tupObj acc.toList = { cls := .type "tuple", data := .seq acc } by unfold tupObj; simp] at r
  exact r
end
section
variable {K : Fg} {B : Bx K} {ta : TE} {φ : DE} {Ψ : XP} {δ : DEnv} {μ : Sto} {Φ : DK}
def dTupR1 (φ : DE) : DE := fun Ψ δ μ Φ => φ Ψ δ μ fun x μ1 => ∃ j, x = .int j ∧ 0 ≤ j ∧ j ≤ 100000 ∧ Φ (.tup (rngD 0 j.toNat)) μ1
theorem sTupR1 (a : SE B ta φ) : SE B (tTupRgN (tRg1 ta)) (dTupR1 φ) := fun σ H δ μ Φ Q S q k =>
  a σ H δ μ _ _ S q fun v H1 x μ1 S1 e1 r1 q1 => by
    obtain ⟨j, rfl, h0, h1, q2⟩ := q1
    obtain rfl := Rep.int_inv r1
    exact ⟨j, rfl, .of_le (by omega) (by omega) (by omega) h0, fun p o ho hc hp => k _ _ _ μ1 (S1.step (.new hp) (S1.sto.new hp)) (e1.trans (.new hp)) (rep_tupN S1.sto hp ho hc rgV_reps) q2⟩
theorem u_tupR1 : dTupR1 φ Ψ δ μ Φ = φ Ψ δ μ fun x μ1 => ∃ j, x = .int j ∧ 0 ≤ j ∧ j ≤ 100000 ∧ Φ (.tup (rngD 0 j.toNat)) μ1 := rfl
end
end DW
set_option Elab.async false
set_option linter.all false
set_option maxRecDepth 100000
set_option maxHeartbeats 4000000
namespace DW
open PySem PySem.Spec PyProof.Rows L2
end DW
set_option Elab.async false
set_option linter.all false
set_option maxRecDepth 100000
set_option maxHeartbeats 4000000
namespace DW
open PySem PySem.Spec PyProof.Rows L2
abbrev WN : WX := fun _ _ _ _ => False
theorem passAtN {X : Cx} {P : Program} {w : World} (σ : L2.St) : PassesAt (L2N.CX P w) X σ (WE WN σ) := fun _ _ _ _ _ _ h => by
  obtain ⟨_, _, _, _, _, _, _, _, _, _, _, _, z⟩ := h
  exact z.elim
section
variable {K : Fg} {B : Bx K} {ta : TE} {φ : DE} {tas : TA} {ψ : DA} {Ψ : XP} {δ : DEnv} {μ : Sto} {Φ : DK}
def dMethXN (C : Addr) (NS : List Str) (c : Con) (φ : DE) (ψ : DA) : DE := fun Ψ δ μ Φ => φ Ψ δ μ fun x μ1 => ∃ es, x = .obj C NS es ∧ ψ Ψ δ μ1 fun ds μ2 => c (x :: ds) μ2 Φ fun _ _ => False
def dMakeSN (C : Addr) (c : Con) (ψ : DA) : DE := fun Ψ δ μ Φ => ψ Ψ δ μ fun ds μ1 => ∀ x, μ1 x = none → c (.hd (.ref x) :: ds) (sset μ1 x (.ins C [] [])) (fun d μ2 => d = .non ∧ ∃ ns es, μ2 x = some (.ins C ns es) ∧ Φ (.obj C ns es) (sdel μ2 x)) (fun _ _ => False)
theorem sMakeSN {C : Addr} {c : Con} (a : SA B tas ψ) : SE B (tMakeS C (spOf K c) (WE WN) tas) (dMakeSN C c ψ) := fun σ H δ μ Φ Q S q k =>
  a σ H δ μ _ _ S q fun vs H1 xs μ1 S1 e1 r1 q1 x dx hx hdx hne => by
    have hx' : upd H1 dx (.own x) x = none := by rw [upd_ne (Ne.symm hne)]; exact hx
    have ev0 : Evo μ1 H1 μ1 (upd H1 dx (.own x)) := .new hdx
    have st0 : StoOk K μ1 (upd H1 dx (.own x)) := S1.sto.new hdx
    have ev1 : Evo μ1 (upd H1 dx (.own x)) (sset μ1 x (.ins C [] [])) (upd (upd H1 dx (.own x)) x (.ins C dx [])) := .newC st0 hx'
    have st1 : StoOk K (sset μ1 x (.ins C [] [])) (upd (upd H1 dx (.own x)) x (.ins C dx [])) := st0.cell ev1 ⟨dx, [], upd_same, rfl, .nil⟩
    have ev := ev0.trans ev1
    refine ⟨sset μ1 x (.ins C [] []), .hd (.ref x) :: xs, _, _, st1, .hd _ (r1.mono ev), q1 x (S1.sto.fresh hx), fun v H' d μ' e s r ⟨hd, ns, es, hc, hq⟩ => ?_, fun cls dd H' y μ' e s rx hΨ => hΨ.elim⟩
    subst hd
    obtain rfl := Rep.non_inv r
    refine ⟨rfl, ?_⟩
    obtain ⟨dx', us, hH, hl, hr⟩ := s x _ hc
    have sb : Sub (sdel μ' x) μ' := sdel_sub
    have e2 : Evo μ' H' (sdel μ' x) H' := sb.evo
    exact k _ H' _ (sdel μ' x) (S1.step (ev.trans (e.trans e2)) (sb.sto s)) (e1.trans (ev.trans (e.trans e2))) (.obj hH (NM.of sdel_same) hl (hr.mono e2) .nil) hq
theorem u_methXN {C : Addr} {NS : List Str} {c : Con} : dMethXN C NS c φ ψ Ψ δ μ Φ = φ Ψ δ μ fun x μ1 => ∃ es, x = .obj C NS es ∧ ψ Ψ δ μ1 fun ds μ2 => c (x :: ds) μ2 Φ fun _ _ => False := rfl
theorem u_makeSN {C : Addr} {c : Con} : dMakeSN C c ψ Ψ δ μ Φ = ψ Ψ δ μ fun ds μ1 => ∀ x, μ1 x = none → c (.hd (.ref x) :: ds) (sset μ1 x (.ins C [] [])) (fun d μ2 => d = .non ∧ ∃ ns es, μ2 x = some (.ins C ns es) ∧ Φ (.obj C ns es) (sdel μ2 x)) (fun _ _ => False) := rfl
end
theorem w_neB {b c : Bool} {μ : Sto} {Φ : DK} : oNe (.bl b) (.bl c) μ Φ = Φ (.bl (!decide (b = c))) μ := w_someb
end DW
set_option Elab.async false
set_option linter.all false
set_option maxRecDepth 100000
set_option maxHeartbeats 4000000
namespace DW
open PySem PySem.Spec PyProof.Rows L2
section
variable {X : Cx} {CX : CXT} {k : Nat} {f C a b dx dy : Addr} {fd : FuncData} {ps : List Str} {sp : Sp} {E : L2.St → XK} {σ : L2.St} {H : Hp} {s : Shared} {Q : VK} {pins : List (Addr × Obj)} {fs gs : List (Str × V)} {ta tb : TE} {ea eb : Expr}
theorem ep_back {u : Value} {s' : Shared} (h : EP X pins σ (fun v H' => (∃ r, v = .ref r) ∧ Q v H') u s') : PySem.W.CmpBack (EP X pins σ Q) u s' := by
  obtain ⟨v, H', I, r, ⟨z, rfl⟩, q⟩ := h
  obtain rfl : u = Value.ref z := r
  show EP X pins σ Q (.ref z) s'
  exact ⟨.ref z, H', I, rfl, q⟩
/-- x op y, both of the class -/
def tBinX (C : Addr) (sp : Sp) (E : L2.St → XK) (ta tb : TE) : TE := fun σ H Q => ta σ H fun x H1 => tb σ H1 fun y H2 => ∃ a dx fs b dy gs, x = .ref a ∧ y = .ref b ∧ H2 a = some (.ins C dx fs) ∧ H2 b = some (.ins C dy gs) ∧ sp [x, y] H2 (fun v H' => (∃ r, v = .ref r) ∧ Q v H') (E σ)
theorem pe_binX {op : Operator} (hc : PySem.W.selfFirst X.K C = true) (hm : Meth X.K C (PySem.dunder op.info.2) f) (F : FnOk X.prog X.w X.K X.mg X.base CX k f fd ps sp) (hr : Room k X.A) (hb : Binds X.K fd ps []) (hx : ∀ σ, PassesAt CX X σ (E σ)) (ha : PE X ea ta) (hbb : PE X eb tb) :
    PE X (.BinOp ea op eb pos) (tBinX C sp E ta tb) := by
  refine ⟨fun pins s σ H Q I h => ?_⟩
  refine wpAny_BinOp (binT ha hbb I h fun v u s2 x y H2 I2 rx ry q => ?_)
  obtain ⟨a, dx, fs, b, dy, gs, rfl, rfl, h1, h2, q⟩ := q
  obtain rfl : v = Value.ref a := rx
  obtain rfl : u = Value.ref b := ry
  obtain ⟨mA, J, _⟩ := ins_get I2.hok h1
  obtain ⟨mB, J', _⟩ := ins_get I2.hok h2
  obtain ⟨od, J, _⟩ := J.look
  obtain ⟨od', J', _⟩ := J'.look
  obtain ⟨m, hF⟩ := I2.fr
  refine PySem.W.binop_K hF I2.ok.mod.kin J J'.type hc hm.at_ hm.fn ?_
  exact wpAny_mono (run_fnS (us := [.ref a, .ref b]) (vs := [.ref a, .ref b]) F hr hb (hx σ) I2 (.cons rfl (.cons rfl .nil)) q) (fun u s' h => ep_back h) fun _ _ z => z
end
section
variable {K : Fg} {B : Bx K} {ta tb : TE} {φ φ2 : DE} {Ψ : XP} {δ : DEnv} {μ : Sto} {Φ : DK} {W : WX}
def dBinX (C : Addr) (NS : List Str) (c : Con) (φ φ2 : DE) : DE := fun Ψ δ μ Φ => φ Ψ δ μ fun x μ1 => φ2 Ψ δ μ1 fun y μ2 => ∃ es fs, x = .obj C NS es ∧ y = .obj C NS fs ∧ c [x, y] μ2 (fun d μ3 => (∃ C' NS' es', d = .obj C' NS' es') ∧ Φ d μ3) fun z μ3 => Ψ z δ μ3
theorem sBinX {C : Addr} {NS : List Str} {c : Con} (hW : B.W = W) (a : SE B ta φ) (b : SE B tb φ2) : SE B (tBinX C (spOf K c) (WE W) ta tb) (dBinX C NS c φ φ2) := by
  subst hW
  exact fun σ H δ μ Φ Q S q k => a σ H δ μ _ _ S q fun v H1 x μ1 S1 e1 r1 q1 => b σ H1 δ μ1 _ _ S1 q1 fun u H2 y μ2 S2 e2 r2 q2 => by
    obtain ⟨es, fs, rfl, rfl, q3⟩ := q2
    obtain ⟨p, dx, us, rfl, hH, hnm, hl, hr⟩ := Rep.obj_inv (r1.mono e2)
    obtain ⟨p', dx', us', rfl, hH', hnm', hl', hr'⟩ := Rep.obj_inv r2
    refine ⟨p, dx, _, p', dx', _, rfl, rfl, hH, hH', ?_⟩
    refine ⟨μ2, _, _, fun y μ3 => B.Ψ y δ μ3, S2.sto, .cons (r1.mono e2) (.cons r2 .nil), q3, fun v H3 d μ3 e3 s3 r3 q4 => ?_, fun cls dd H3 y μ3 e3 s3 rx q4 => B.hW cls dd σ H3 y δ μ3 (S2.step e3 s3) rx q4⟩
    obtain ⟨⟨C', NS', es', rfl⟩, q5⟩ := q4
    obtain ⟨p3, _, _, e3', _⟩ := Rep.obj_inv r3
    exact ⟨⟨p3, e3'⟩, k v H3 _ μ3 (S2.step e3 s3) ((e1.trans e2).trans e3) r3 q5⟩
def dInvX (C : Addr) (NS : List Str) (c : Con) (φ : DE) : DE := fun Ψ δ μ Φ => φ Ψ δ μ fun x μ1 => ∃ es, x = .obj C NS es ∧ c [x] μ1 Φ fun z μ3 => Ψ z δ μ3
theorem u_binX {C : Addr} {NS : List Str} {c : Con} : dBinX C NS c φ φ2 Ψ δ μ Φ = φ Ψ δ μ fun x μ1 => φ2 Ψ δ μ1 fun y μ2 => ∃ es fs, x = .obj C NS es ∧ y = .obj C NS fs ∧ c [x, y] μ2 (fun d μ3 => (∃ C' NS' es', d = .obj C' NS' es') ∧ Φ d μ3) fun z μ3 => Ψ z δ μ3 := rfl
theorem u_invX {C : Addr} {NS : List Str} {c : Con} : dInvX C NS c φ Ψ δ μ Φ = φ Ψ δ μ fun x μ1 => ∃ es, x = .obj C NS es ∧ c [x] μ1 Φ fun z μ3 => Ψ z δ μ3 := rfl
end
end DW
set_option Elab.async false
set_option linter.all false
set_option maxRecDepth 100000
set_option maxHeartbeats 4000000
namespace DW
open PySem PySem.Spec PyProof.Rows L2
section
variable {K : Fg} {B : Bx K} {ta tb : TE} {φ φ2 : DE} {Ψ : XP} {δ : DEnv} {μ : Sto} {Φ : DK} {W : WX}
def dGetX (C : Addr) (NS : List Str) (c : Con) (φ φ2 : DE) : DE := fun Ψ δ μ Φ => φ Ψ δ μ fun x μ1 => φ2 Ψ δ μ1 fun y μ2 => ∃ es, x = .obj C NS es ∧ c [x, y] μ2 Φ fun z μ3 => Ψ z δ μ3
theorem u_getX {C : Addr} {NS : List Str} {c : Con} : dGetX C NS c φ φ2 Ψ δ μ Φ = φ Ψ δ μ fun x μ1 => φ2 Ψ δ μ1 fun y μ2 => ∃ es, x = .obj C NS es ∧ c [x, y] μ2 Φ fun z μ3 => Ψ z δ μ3 := rfl
end
end DW
set_option Elab.async false
set_option linter.all false
set_option maxRecDepth 100000
set_option maxHeartbeats 4000000
namespace DW
open PySem PySem.Spec PyProof.Rows PySem.Calls L2
section
variable {K : Fg} {B : Bx K} {tas : TA} {ψ : DA} {Ψ : XP} {δ : DEnv} {μ : Sto} {Φ : DK} {W : WX}
def dCallX (C : Addr) (NS : List Str) (i : Nat) (c : Con) (ψ : DA) : DE := fun Ψ δ μ Φ => ∃ es, δ[i]? = some (some (.obj C NS es)) ∧ ψ Ψ δ μ fun ds μ1 => c (.obj C NS es :: ds) μ1 Φ fun y μ2 => Ψ y δ μ2
theorem u_callX {C : Addr} {NS : List Str} {i : Nat} {c : Con} : dCallX C NS i c ψ Ψ δ μ Φ = ∃ es, δ[i]? = some (some (.obj C NS es)) ∧ ψ Ψ δ μ fun ds μ1 => c (.obj C NS es :: ds) μ1 Φ fun y μ2 => Ψ y δ μ2 := rfl
end
end DW
set_option Elab.async false
set_option linter.all false
set_option maxRecDepth 100000
set_option maxHeartbeats 4000000
namespace DW
open PySem PySem.Spec PyProof.Rows L2
section
variable {X : Cx} {CX : CXT} {k : Nat} {f C : Addr} {fd : FuncData} {ps : List Str} {sp : Sp} {E : L2.St → XK} {ta tb : TE} {ea eb : Expr} {pos : Pos} {fo ro : Option Value}
def tBinXI (C : Addr) (sp : Sp) (E : L2.St → XK) (ta tb : TE) : TE := fun σ H Q => ta σ H fun x H1 => tb σ H1 fun y H2 => ∃ a dx fs j, x = .ref a ∧ y = .int j ∧ H2 a = some (.ins C dx fs) ∧ sp [x, y] H2 (fun v H' => (∃ r, v = .ref r) ∧ Q v H') (E σ)
theorem pe_binXI {op : Operator} (hc : PySem.W.selfFirst X.K C = true) (hm : Meth X.K C (PySem.dunder op.info.2) f) (hrr : PySem.W.findIn X.K (.ref C) (dunderR op.info.2) = some none)
    (h1 : PySem.W.findIn X.K (.type "int") (PySem.dunder op.info.2) = some fo) (h2 : PySem.W.findIn X.K (.type "int") (dunderR op.info.2) = some ro) (hsub : PySem.W.subIn X.K (.type "int") (.ref C) = some false)
    (F : FnOk X.prog X.w X.K X.mg X.base CX k f fd ps sp) (hr : Room k X.A) (hb : Binds X.K fd ps []) (hx : ∀ σ, PassesAt CX X σ (E σ)) (ha : PE X ea ta) (hbb : PE X eb tb) :
    PE X (.BinOp ea op eb pos) (tBinXI C sp E ta tb) := by
  refine ⟨fun pins s σ H Q I h => ?_⟩
  refine wpAny_BinOp (binT ha hbb I h fun v u s2 x y H2 I2 rx ry q => ?_)
  obtain ⟨a, dx, fs, j, rfl, rfl, hA, q⟩ := q
  obtain rfl : v = Value.ref a := rx
  obtain ⟨t, rfl⟩ : ∃ t, u = Value.int j t := ry
  obtain ⟨mA, J, _⟩ := ins_get I2.hok hA
  obtain ⟨od, J, _⟩ := J.look
  obtain ⟨m, hF⟩ := I2.fr
  refine PySem.W.ksp_binT (T := "int") hF I2.ok.mod.kin J rfl hc hm.at_ hm.fn hrr (.inl rfl) h1 h2 hsub ?_
  exact wpAny_mono (run_fnS (us := [.ref a, .int j t]) (vs := [.ref a, .int j]) F hr hb (hx σ) I2 (.cons rfl (.cons ⟨t, rfl⟩ .nil)) q) (fun u s' h => ep_back h) fun _ _ z => z
end
section
variable {K : Fg} {B : Bx K} {ta tb : TE} {φ φ2 : DE} {Ψ : XP} {δ : DEnv} {μ : Sto} {Φ : DK} {W : WX}
def dBinXI (C : Addr) (NS : List Str) (c : Con) (φ φ2 : DE) : DE := fun Ψ δ μ Φ => φ Ψ δ μ fun x μ1 => φ2 Ψ δ μ1 fun y μ2 => ∃ es j, x = .obj C NS es ∧ y = .int j ∧ c [x, y] μ2 (fun d μ3 => (∃ C' NS' es', d = .obj C' NS' es') ∧ Φ d μ3) fun z μ3 => Ψ z δ μ3
theorem sBinXI {C : Addr} {NS : List Str} {c : Con} (hW : B.W = W) (a : SE B ta φ) (b : SE B tb φ2) : SE B (tBinXI C (spOf K c) (WE W) ta tb) (dBinXI C NS c φ φ2) := by
  subst hW
  exact fun σ H δ μ Φ Q S q k => a σ H δ μ _ _ S q fun v H1 x μ1 S1 e1 r1 q1 => b σ H1 δ μ1 _ _ S1 q1 fun u H2 y μ2 S2 e2 r2 q2 => by
    obtain ⟨es, j, rfl, rfl, q3⟩ := q2
    obtain ⟨p, dx, us, rfl, hH, hnm, hl, hr⟩ := Rep.obj_inv (r1.mono e2)
    obtain rfl := Rep.int_inv r2
    refine ⟨p, dx, _, j, rfl, rfl, hH, ?_⟩
    refine ⟨μ2, _, _, fun y μ3 => B.Ψ y δ μ3, S2.sto, .cons (r1.mono e2) (.cons r2 .nil), q3, fun v H3 d μ3 e3 s3 r3 q4 => ?_, fun cls dd H3 y μ3 e3 s3 rx q4 => B.hW cls dd σ H3 y δ μ3 (S2.step e3 s3) rx q4⟩
    obtain ⟨⟨C', NS', es', rfl⟩, q5⟩ := q4
    obtain ⟨p3, _, _, e3', _⟩ := Rep.obj_inv r3
    exact ⟨⟨p3, e3'⟩, k v H3 _ μ3 (S2.step e3 s3) ((e1.trans e2).trans e3) r3 q5⟩
theorem u_binXI {C : Addr} {NS : List Str} {c : Con} : dBinXI C NS c φ φ2 Ψ δ μ Φ = φ Ψ δ μ fun x μ1 => φ2 Ψ δ μ1 fun y μ2 => ∃ es j, x = .obj C NS es ∧ y = .int j ∧ c [x, y] μ2 (fun d μ3 => (∃ C' NS' es', d = .obj C' NS' es') ∧ Φ d μ3) fun z μ3 => Ψ z δ μ3 := rfl
def cSum : DC := fun xs μ Φ => ∃ (x : D) (ns : List Int), xs = [x] ∧ Items μ x (ns.map .int) ∧ isTup x = false ∧ Φ (.int ns.sum) μ
theorem rcSum : RC K (rSum K) cSum := fun H μ vs ds Φ Q s r q k => by
  obtain ⟨x, ns, rfl, hi, ht, q⟩ := q
  obtain ⟨v, rfl, r1⟩ := reps1 r
  obtain ⟨a, us, rfl, h1, h2⟩ := hi.okL s r1 ht
  have e := reps_intsV h2
  subst e
  exact ⟨a, ns, rfl, h1, k _ H _ μ .refl s (.int _ .nil) q⟩
theorem w_sumL {ns : List Int} (h : Φ (.int ns.sum) μ) : cSum [.lst (ns.map .int)] μ Φ := ⟨_, ns, rfl, .lst _, rfl, h⟩
def dRestF (i : Nat) : DE := fun _ δ μ Φ => ∃ a ds, δ[i]? = some (some (.hd (.ref a))) ∧ ((μ a = some (.lst ds) ∧ Φ (.lst ds) (sset μ a (.frz ds))) ∨ (μ a = some (.frz ds) ∧ Φ (.lst ds) μ))
theorem u_restF {i : Nat} : dRestF i Ψ δ μ Φ = ∃ a ds, δ[i]? = some (some (.hd (.ref a))) ∧ ((μ a = some (.lst ds) ∧ Φ (.lst ds) (sset μ a (.frz ds))) ∨ (μ a = some (.frz ds) ∧ Φ (.lst ds) μ)) := rfl
end
end DW
set_option Elab.async false
set_option linter.all false
set_option maxRecDepth 100000
set_option maxHeartbeats 4000000
namespace DW
open PySem PySem.Spec PyProof.Rows L2
section
variable {X : Cx}
def rSumT (K : PySem.W.Frag) : List V → Hp → VK → Prop := fun vs H Q => ∃ (a : Addr) (ns : List Int), vs = [V.ref a] ∧ SqT K H a (ns.map V.int) ∧ Q (.int ns.sum) H
theorem cr_sumT (hc : X.calm = true) : CallR X (.builtin "sum") (rSumT X.K) := by
  intro pins s σ H vs us Q I r h
  obtain ⟨a, ns, rfl, hs, q⟩ := h
  obtain ⟨its, rv, ht, _⟩ := I.tuple hs
  rw [Vals.ref1 r]
  have hi := rv.ints
  obtain ⟨xs, hx⟩ := hi.allInts.items
  have hn : numsOf its.toArray.toList = ns := by rw [show its.toArray.toList = its from rfl, hi.numsOf]
  have hl : s.heap.IsTuple a its.toArray := ht
  rw [hx] at hl hn
  rw [nums_intItems] at hn
  refine PySem.W.ktm_sumG (I.ok.hd hc) hl fun h' tk t' hk => ?_
  rw [preSum_eq, List.take_of_length_le (by simp), hn]
  exact ⟨.int _, H, I.kept hk, ⟨_, rfl⟩, q⟩
end
open HotX in
theorem cr_sumH {X : Cx} {a : Addr} {oe : Obj} {pn : List (Addr × Obj)} (hn : PXN.CtxN oe) (hf : ∃ vs, oe.data = .fields vs) : CallR (X.suite a ((a, oe) :: pn)) (.builtin "sum") (rSum X.K) := by
  intro pins s σ H vs us Q I r h
  obtain ⟨l, ns, rfl, hs, q⟩ := h
  obtain ⟨its, rv, hl, _⟩ := I.list hs
  rw [Vals.ref1 r]
  have hi := rv.ints
  obtain ⟨xs, hx⟩ := hi.allInts.items
  have hn2 : numsOf (intItems xs).toList = ns := by rw [← hx]; exact hi.numsOf
  rw [nums_intItems] at hn2
  have hl2 := hl.isList
  rw [hx] at hl2
  obtain ⟨hget, _⟩ := I.pin (a, oe) (List.mem_append.mpr (.inl List.mem_cons_self))
  obtain ⟨fs, hfs⟩ := hf
  have halt : a < s.heap.objs.size := Heap.lt_size hget
  refine call_sum_walkG (iter_intList hl2 fun s₂ e2 st hfp hlI => ?_)
  subst e2
  refine ⟨_, _, _, _, _, _, numAt xs, rfl, walks_hot (x1 := a) rfl _ l hlI (Nat.ne_of_lt halt) (intItems xs), ⟨st.1, st.2, oe, fs, Heap.get?_push_of_some _ hget, hfs, hn fs hfs⟩, fun b hb => ?_, (fun _ _ => intItems_at), fun h' tk t' hk => ?_⟩
  · rcases List.mem_cons.mp hb with e | hb
    · exact hfp b (by rw [e]; exact List.mem_cons_self)
    · rcases List.mem_cons.mp hb with e | hb
      · exact hfp b (by rw [e]; exact List.mem_cons_of_mem _ List.mem_cons_self)
      · rw [List.mem_singleton.mp hb]; exact Heap.lt_size (Heap.get?_push_of_some _ hget)
  · refine ⟨.int _, H, I.kept fun b o eo => hk b o (fun hmem => ?_) (Heap.get?_push_of_some _ eo), ⟨t', ?_⟩, q⟩
    · rcases List.mem_cons.mp hmem with e1 | hmem
      · exact absurd (e1 ▸ Heap.lt_size eo) (Nat.lt_irrefl _)
      · cases hmem
    · rw [preSum_eq, List.take_of_length_le (by simp [intItems]), hn2]
section
variable {K : Fg} {B : Bx K}
def cSumT : DC := fun xs μ Φ => ∃ (ns : List Int), xs = [.tup (ns.map .int)] ∧ Φ (.int ns.sum) μ
theorem rcSumT : RC K (rSumT K) cSumT := fun H μ vs ds Φ Q s r q k => by
  obtain ⟨ns, rfl, q⟩ := q
  obtain ⟨v, rfl, r1⟩ := reps1 r
  obtain ⟨a, us, rfl, h1, h2⟩ := Rep.tup_inv r1
  have e := reps_intsV h2
  subst e
  exact ⟨a, ns, rfl, h1.sq, k _ H _ μ .refl s (.int _ .nil) q⟩
theorem w_sumT {ns : List Int} (h : Φ (.int ns.sum) μ) : cSumT [.tup (ns.map .int)] μ Φ := ⟨ns, rfl, h⟩
end
end DW
set_option Elab.async false
set_option linter.all false
set_option maxRecDepth 100000
set_option maxHeartbeats 4000000
namespace DW
open PySem PySem.Spec PyProof.Rows L2
section
variable {X : Cx} {tg : Expr}
structure PIL (X : Cx) (iter : Expr) (wi : TI) : Prop where
  run : ∀ (pins : List (Addr × Obj)) (s : Shared) (σ : L2.St) (H : Hp) (R : It → Hp → Prop), Inv X pins σ H s → wi σ H R →
    wpAny (model X.prog X.w) X.A (eval iter X.env) (fun v s1 => wpAny (model X.prog X.w) X.A (pyIter v) (fun itv s2 => ∃ (it la : Addr) (H' : Hp), itv = .ref it ∧ Inv X pins σ H' s2 ∧ s2.heap.IsListIter it la 0 ∧ FpOk X pins H' it ∧ R (Itl X.K la) H') X.xe s1) X.xe s
theorem pil_list {l : Expr} {tl : TE} (hl : PE X l tl) : PIL X l (iList X.K tl) := by
  refine ⟨fun pins s σ H R I h => ?_⟩
  refine thn (hl.run pins s σ H _ I h) fun v s1 ⟨x, H1, I1, r1, q1⟩ => ?_
  obtain ⟨a, e, ⟨xs, hq⟩, q⟩ := q1
  subst e
  cases r1
  obtain ⟨its, rv, p, hz⟩ := I1.list hq
  refine wpAny_pyIter_list p.isList ?_
  exact ⟨s1.heap.objs.size, a, H1, rfl, I1.kept (t' := s1.toks) fun b o e => Heap.get?_push_of_some _ e, ⟨_, Heap.get?_push_size _ rfl, rfl, rfl⟩, I1.fpOk (Nat.le_refl _) (I1.hok.fresh (Nat.le_refl _)), q⟩
theorem itemL {pins : List (Addr × Obj)} {s : Shared} {σ : L2.St} {H : Hp} {E : Value → Shared → Prop} {i : Nat} {a it : Addr} (I : Inv X pins σ H s) (hf : FpOk X pins H it) (st : s.heap.IsListIter it a i) (hg : (Itl X.K a).go i H) :
    wpAny (model X.prog X.w) X.A (pyNext (.ref it)) (fun r s1 => ∃ u, r = some u ∧
      wpAny (model X.prog X.w) X.A (letOwnedTupleGo tg (.ref it) u) (fun _ s2 => ∃ x H', Inv X pins σ H' s2 ∧ RelV x u ∧ (Itl X.K a).yld i H x H' ∧ s2.heap.IsListIter it a (i + 1) ∧ H' it = none) E s1) E s := by
  obtain ⟨xs, x, hq, hx⟩ := hg
  obtain ⟨its, rv, p, hz⟩ := I.list hq
  obtain ⟨u, hu, ru⟩ := rv.get hx
  obtain ⟨f0, f1, f2, f3, f4, f5⟩ := hf
  refine wpAny_pyNext_list_item st p.isList (x := u) (by simpa using hu) fun h' st' sb => ?_
  have I1 : Inv X pins σ H { s with heap := h' } := I.turned (t' := s.toks) (fun b o hb e => (sb.2 b hb).trans e) f0 f1 f3 f4 f5
  obtain ⟨o, e, c, d⟩ := id st'
  exact ⟨u, rfl, go_of (s := { s with heap := h' }) e c d (by decide) ⟨x, H, I1, ru, ⟨rfl, fun ys hy => by rw [I.list_inj hy hq]; exact hx⟩, st', f0⟩⟩
theorem doneL {pins : List (Addr × Obj)} {s : Shared} {σ : L2.St} {H : Hp} {E : Value → Shared → Prop} {i : Nat} {a it x1 : Addr} (hot : HotX.HotAt X.A x1 s.heap) (hne : x1 ≠ it) (I : Inv X pins σ H s) (hf : FpOk X pins H it) (st : s.heap.IsListIter it a i) (hg : (Itl X.K a).stop i H) :
    wpAny (model X.prog X.w) X.A (pyNext (.ref it)) (fun r s1 => r = none ∧ Inv X pins σ H s1) E s := by
  obtain ⟨xs, hq, hx⟩ := hg
  obtain ⟨its, rv, p, hz⟩ := I.list hq
  obtain ⟨f0, f1, f2, f3, f4, f5⟩ := hf
  have hl := rv.length
  exact next_list_end_hot hot hne st p.isList (by simp; omega) fun h' eb => ⟨rfl, I.turned (t' := s.toks) (fun b o hb e => eb b o hb e) f0 f1 f3 f4 f5⟩
theorem lc_coreH {pins : List (Addr × Obj)} {s : Shared} {σ : L2.St} {H : Hp} {Q : VK} {elt tg iter : Expr} {ifs : List Expr} {scope : Scope} {own : List (Str × Nat)} {pos pos' : Pos} {wi : TI} {g : TG} {tt : TT} {te : TE} {use : Option (Value → Sem Unit)} {Qf : Value → Shared → Prop}
    {x1 : Addr} {o1 : Obj} (hh : X.A.handled = some (.ref x1)) (hpn : (x1, o1) ∈ X.pn) (ho1 : ∃ vs : Array Value, o1.data = .fields vs ∧ vs[2]? = some .none) (hN : X.N.Nodup) (I : Inv X pins σ H s) (hi : PIL X iter wi) (ok : BlkOk X.N X.env.scope scope own)
    (hg : ∀ (s : Shared) (H : Hp) (C : Addr) (cl : List (Str × Addr)) (fp : List Addr), PG (X.blk s H scope (compEnvC scope cl C X.env) fp) tg g) (ht : ∀ (s : Shared) (H : Hp) (C : Addr) (cl : List (Str × Addr)) (fp : List Addr), PTs (X.blk s H scope (compEnvC scope cl C X.env) fp) ifs tt)
    (he : ∀ (s : Shared) (H : Hp) (C : Addr) (cl : List (Str × Addr)) (fp : List Addr), PE (X.blk s H scope (compEnvC scope cl C X.env) fp) elt te) (hs : ∀ x, foldedSetIterable iter X.env x = pure x)
    (h : tLc wi g tt te (own.map (·.2)) σ H Q)
    (hRR : ∀ D C s' m H', Inv X pins σ H' s' → Q (.ref D) H' → s'.heap.Ns C m → FpOk X pins H' C → compPost (model X.prog X.w) X.A X.xe use Qf (.ref D) C (.ok .next) s') :
    wpAny (model X.prog X.w) X.A (comprehension (.ListComp elt [⟨tg, iter, ifs, 0⟩] scope pos) scope X.env pos' (newList []) false (eval iter X.env) use) Qf X.xe s := by
  have hfree : ∀ y ∈ scope.names, y.2 = .free → ∃ c, X.env.cells.lookup y.1 = some c := fun y hy e => by
    rcases ok.free y hy e with k | k
    · exact I.ok.has _ (.inl k)
    · exact I.ok.has _ (.inr k)
  refine wpAny_comprehension_free (use := use) rfl hs (closure_ok hfree) ok.kind (fun y hy e => by rw [ok.uniq y hy, e])
    (thn (hi.run pins s σ H _ I h) fun xv s1 hx => thn hx fun itv s2 h2 => ?_)
  obtain ⟨it, la, H2, e, I2, st2, f2, q⟩ := h2
  subst e
  obtain ⟨fp, efp⟩ : ∃ fp : List Addr, fp = [it] := ⟨_, rfl⟩
  obtain ⟨J, eJ⟩ : ∃ J, J = Itl X.K la := ⟨_, rfl⟩
  obtain ⟨tn, etn⟩ : ∃ tn : Nat → Heap → Prop, tn = fun i h => h.IsListIter it la i := ⟨_, rfl⟩
  have T : Turn X.prog X.w X.K tg J fp it tn := by rw [eJ, efp, etn]; exact turn_list la it
  have st2 : tn 0 s2.heap := by rw [etn]; exact st2
  have f2 : ∀ b ∈ fp, FpOk X pins H2 b := fun b hb => by rw [efp] at hb; rw [List.mem_singleton.mp hb]; exact f2
  rw [← eJ] at q
  obtain ⟨pin1, pin2, pin3, pin4, _⟩ := I2.pin (x1, o1) (List.mem_append_left _ hpn)
  have x1it : x1 ≠ it := (f2 it (by rw [efp]; exact List.mem_singleton.mpr rfl)).2.2.2.2.2 (x1, o1) (List.mem_append_left _ hpn)
  have pin1 : s2.heap.get? x1 = some o1 := pin1
  have pin2 : H2 x1 = none := pin2
  refine wpAny_newObj_type (newEnv_comp ?_) (by show 0 ≤ sizeLine; decide)
  generalize hD : s2.heap.objs.size = D
  have hDn : H2 D = none := I2.hok.fresh (Nat.le_of_eq hD)
  obtain ⟨W, ⟨m0, w0⟩, turn⟩ := q D hDn
  -- the new list
  generalize hs3 : ({ s2 with heap := s2.heap.push { cls := .type "list", data := .seq ([] : List Value).toArray } } : Shared) = s3
  have I3 : Inv X pins σ (upd H2 D (.lst [])) s3 := by
    rw [← hs3]
    refine I2.laid (t' := s2.toks) (fun b o e => Heap.get?_push_of_some _ e) (Nat.le_of_eq hD) ⟨Nat.zero_le _, [], 0, .nil, ?_⟩
    rw [← hD]
    exact Heap.get?_push_size _ rfl
  have h3 : s3.heap = s2.heap.push { cls := .type "list", data := .seq ([] : List Value).toArray } := by rw [← hs3]
  have sz : ∀ b ∈ fp, b < s2.heap.objs.size := fun b hb => by
    obtain ⟨o, e, _⟩ := T.obj _ _ st2 b hb
    exact Heap.lt_size e
  have f3 : ∀ b ∈ fp, FpOk X pins (upd H2 D (.lst [])) b ∧ b < s3.heap.objs.size := fun b hb => by
    have hlt := sz b hb
    refine ⟨⟨?_, (f2 b hb).2⟩, by rw [h3, Heap.size_push]; exact Nat.lt_succ_of_lt hlt⟩
    rw [upd_ne (by rw [← hD]; exact Nat.ne_of_lt hlt)]
    exact (f2 b hb).1
  have st3 : tn 0 s3.heap := T.keep _ _ _ st2 fun b _ o e => by rw [h3]; exact Heap.get?_push_of_some _ e
  have I4 := block_start I3 ok hN f3
  have pg := hg s3 (upd H2 D (.lst [])) s3.heap.objs.size (cellsFrom (s3.heap.objs.size + 1) scope.names (cloFrom X.env.cells scope.names [])) fp
  have pt := ht s3 (upd H2 D (.lst [])) s3.heap.objs.size (cellsFrom (s3.heap.objs.size + 1) scope.names (cloFrom X.env.cells scope.names [])) fp
  have pe := he s3 (upd H2 D (.lst [])) s3.heap.objs.size (cellsFrom (s3.heap.objs.size + 1) scope.names (cloFrom X.env.cells scope.names [])) fp
  show codeAny _ _ (.compStart (.ListComp elt [⟨tg, iter, ifs, 0⟩] scope pos) 0 (.ref it) (.ref D) (compEnvC scope (cellsFrom (s3.heap.objs.size + 1) scope.names (cloFrom X.env.cells scope.names [])) s3.heap.objs.size X.env)) (compPost (model X.prog X.w) X.A X.xe use Qf (.ref D) s3.heap.objs.size) { s3 with heap := pushCells (s3.heap.push { cls := .type "dict", data := .dict #[] }) scope.names }
  have nfp : ∀ b ∈ fp, (upd H2 D (.lst [])) b = none := fun b hb => (f3 b hb).1.1
  generalize hce : compEnvC scope (cellsFrom (s3.heap.objs.size + 1) scope.names (cloFrom X.env.cells scope.names [])) s3.heap.objs.size X.env = ce at I4 pg pt pe ⊢
  have cL : ce.locals = s3.heap.objs.size := by subst hce; rfl
  generalize hH3 : upd H2 D (.lst []) = H3 at I3 I4 pg pt pe w0 nfp f3
  generalize hs4 : ({ s3 with heap := pushCells (s3.heap.push { cls := .type "dict", data := .dict #[] }) scope.names } : Shared) = s4 at I4 ⊢
  have st4 : tn 0 s4.heap := T.keep _ _ _ st3 fun b _ o e => by rw [← hs4]; exact pushCells_keeps _ _ _ _ (Heap.get?_push_of_some _ e)
  have stat : ∀ {σ' : L2.St} {H' : Hp} {s' : Shared}, Inv (X.blk s3 H3 scope ce fp) [] σ' H' s' → (∀ b ∈ fp, H' b = none) → ∀ b ∈ fp, FpOk (X.blk s3 H3 scope ce fp) [] H' b := fun {σ' H' s'} I' hn b hb =>
    ⟨hn b hb, (I'.ok.exf b hb).1, I'.ok.exfs b hb, .inl hb, fun x c e => (I'.ok.exf b hb).2 x c e, fun p hp => absurd (show p ∈ ([] : List (Addr × Obj)) ++ [] from hp) (by simp)⟩
  have h3x : s3.heap.get? x1 = some o1 := by rw [h3]; exact Heap.get?_push_of_some _ pin1
  have H3x : H3 x1 = none := by
    rw [← hH3, upd_ne (fun z => ?_)]
    · exact pin2
    · have := Heap.lt_size pin1
      rw [z, ← hD] at this
      exact Nat.lt_irrefl _ this
  have hotB : ∀ {σ' : L2.St} {H' : Hp} {s' : Shared}, Inv (X.blk s3 H3 scope ce fp) [] σ' H' s' → HotX.HotAt X.A x1 s'.heap := fun {σ' H' s'} I' => by
    obtain ⟨vs, d, c⟩ := ho1
    exact ⟨hh, o1, vs, I'.base.keep x1 o1 h3x H3x (fun z => (List.mem_cons.mp (I3.stkSub x1 z)).elim pin3 pin4) (fun z => by have z : x1 ∈ fp := z; rw [efp] at z; exact x1it (List.mem_singleton.mp z)), d, c⟩
  have loop : codeAny (model X.prog X.w) X.A (.compLoop (.ListComp elt [⟨tg, iter, ifs, 0⟩] scope pos) 0 (.ref it) (.ref D) ce) (compPost (model X.prog X.w) X.A X.xe use Qf (.ref D) s3.heap.objs.size) s4 := by
    refine compLoop_any (fun n s' => ∃ i H', Inv (X.blk s3 H3 scope ce fp) [] (wipe σ (own.map (·.2))) H' s' ∧ tn i s'.heap ∧ (∀ b ∈ fp, H' b = none) ∧ W i n H') ?_ m0 ⟨0, H3, I4, st4, nfp, w0⟩
    rintro n s5 ⟨i, H5, I5, st5, n5, w5⟩
    rcases turn i n H5 w5 with ⟨stop, qq⟩ | ⟨go, Nx, hNx, step⟩
    · have td := doneL (X := X.blk s3 H3 scope ce fp) (E := fun _ _ => False) (hotB I5) x1it I5 (stat I5 n5 it (by rw [efp]; exact List.mem_singleton.mpr rfl)) (by rw [etn] at st5; exact st5) (by rw [eJ] at stop; exact stop)
      refine thnF td fun r s6 ⟨hr, I6⟩ => ?_
      subst hr
      -- back in the def's context
      have I7 : Inv X pins σ H5 s6 := I3.call' (ch := fp) I6.os I6.base I6.hok I6.bare fun b hb => ⟨(f3 b hb).1.2.2.2.1, (f3 b hb).1.2.1, (f3 b hb).1.2.2.2.2.1, (f3 b hb).1.2.2.2.2.2⟩
      have nC : H5 s3.heap.objs.size = none := by
        have z : H5 ce.locals = none := I6.free
        rw [cL] at z
        exact z
      obtain ⟨m, hn, _⟩ := I6.loc
      have hn : s6.heap.Ns ce.locals m := hn
      rw [cL] at hn
      exact hRR D s3.heap.objs.size s6 m H5 I7 qq hn (I3.fpOk (Nat.le_refl _) nC)
    · have ti := itemL (X := X.blk s3 H3 scope ce fp) (tg := tg) (E := fun _ _ => False) I5 (stat I5 n5 it (by rw [efp]; exact List.mem_singleton.mpr rfl)) (by rw [etn] at st5; exact st5) (by rw [eJ] at go; exact go)
      refine thnF ti fun r s6 ⟨u, hr, h6⟩ => ?_
      subst hr
      refine thnF h6 fun _ s7 ⟨x, H7, I7, r7, y7, st7, n7⟩ => ?_
      have y7 : J.yld i H5 x H7 := by rw [eJ]; exact y7
      have st7 : tn (i + 1) s7.heap := by rw [etn]; exact st7
      have n7 : ∀ b ∈ fp, H7 b = none := fun b hb => by rw [efp] at hb; rw [List.mem_singleton.mp hb]; exact n7
      have I7' := I7.pinned (stat I7 n7) (T.obj _ _ st7)
      refine thnF (pg.run _ s7 _ H7 x u _ I7' r7 (step x H7 y7)) fun _ s8 ⟨σ8, H8, I8, hw8, q8⟩ => ?_
      refine thnF (pt.run _ s8 σ8 H8 _ I8 q8) fun b s9 ⟨H9, I9, q9⟩ => ?_
      -- the turn's end
      have fin : ∀ {s' : Shared} {H' : Hp}, Inv (X.blk s3 H3 scope ce fp) ([] ++ pinsAt fp s7.heap) σ8 H' s' → Nx H' → ∃ m, m < n ∧ ∃ i H', Inv (X.blk s3 H3 scope ce fp) [] (wipe σ (own.map (·.2))) H' s' ∧ tn i s'.heap ∧ (∀ b ∈ fp, H' b = none) ∧ W i m H' := fun {s' H'} I' nx => by
        obtain ⟨m', hm, w'⟩ := hNx H' nx
        have pin' : ∀ b ∈ fp, ∀ o, s7.heap.get? b = some o → s'.heap.get? b = some o ∧ H' b = none := fun b hb o e =>
          let z := I'.pin (b, o) (List.mem_append_right _ (List.mem_append_right _ (mem_pinsAt hb e)))
          ⟨z.1, z.2.1⟩
        have hl : (wipe σ (own.map (·.2))).length = σ8.length := by rw [← hw8, wipe_length]
        refine ⟨m', hm, i + 1, H', (I'.unpinned (pins := [])).weak hl (fun j v e => ?_), T.keep _ _ _ st7 fun b hb o e => (pin' b hb o e).1, fun b hb => ?_, w'⟩
        · rw [← hw8] at e
          exact (wipe_some e).1
        · obtain ⟨o, e, _⟩ := T.obj _ _ st7 b hb
          exact (pin' b hb o e).2
      cases b with
      | false =>
        simp only [Bool.false_eq_true, if_false] at q9 ⊢
        exact fin I9 q9
      | true =>
        simp only [if_true] at q9 ⊢
        refine thnF (pe.run _ s9 σ8 H9 _ I9 q9) fun z s10 ⟨yv, H10, I10, r10, acc, hD10, hz10, nx⟩ => ?_
        exact app_ok (X := X.blk s3 H3 scope ce fp) I10 hD10 hz10 r10 fun s11 I11 => fin I11 nx
  exact codeAny_compStart_list loop (T.self X.A 0 _ _ _ st4 loop)
theorem pe_lcH {elt iter : Expr} {ifs : List Expr} {scope : Scope} {own : List (Str × Nat)} {pos : Pos} {wi : TI} {g : TG} {tt : TT} {te : TE} {a : Addr} {oe : Obj} {pn : List (Addr × Obj)} {X : Cx} (hn : PXN.CtxN oe) (hf : ∃ vs, oe.data = .fields vs) (hN : X.N.Nodup) (hi : PIL (X.suite a ((a, oe) :: pn)) iter wi) (ok : BlkOk X.N X.env.scope scope own)
    (hg : ∀ (s : Shared) (H : Hp) (C : Addr) (cl : List (Str × Addr)) (fp : List Addr), PG ((X.suite a ((a, oe) :: pn)).blk s H scope (compEnvC scope cl C X.env) fp) tg g) (ht : ∀ (s : Shared) (H : Hp) (C : Addr) (cl : List (Str × Addr)) (fp : List Addr), PTs ((X.suite a ((a, oe) :: pn)).blk s H scope (compEnvC scope cl C X.env) fp) ifs tt)
    (he : ∀ (s : Shared) (H : Hp) (C : Addr) (cl : List (Str × Addr)) (fp : List Addr), PE ((X.suite a ((a, oe) :: pn)).blk s H scope (compEnvC scope cl C X.env) fp) elt te) (hs : ∀ x, foldedSetIterable iter X.env x = pure x := by intro _; rfl) :
    PE (X.suite a ((a, oe) :: pn)) (.ListComp elt [⟨tg, iter, ifs, 0⟩] scope pos) (tLc wi g tt te (own.map (·.2))) := by
  refine ⟨fun pins s σ H Q I h => ?_⟩
  rw [eval_ListComp]
  obtain ⟨fs, hfs⟩ := hf
  refine lc_coreH (x1 := a) (o1 := oe) rfl List.mem_cons_self ⟨fs, hfs, hn fs hfs⟩ hN I hi ok hg ht he hs h fun D C s' m H' I' q hn f => ⟨m, hn, fun h'' sb => ?_⟩
  obtain ⟨f0, f1, f2, f3, f4, f5⟩ := f
  exact ⟨.ref D, H', I'.turned (t' := s'.toks) (fun b o hb e => (sb.2 b hb).trans e) f0 f1 f3 f4 f5, rfl, q⟩
end
end DW
set_option Elab.async false
set_option linter.all false
set_option maxRecDepth 100000
namespace DW
open PySem PySem.Spec PyProof.Rows L2
section
variable {K : Fg} {B : Bx K}
def dStar (φ : DE) (ψ : DA) : DA := fun Ψ δ μ Φ => φ Ψ δ μ fun x μ1 => ∃ ds, x = .tup ds ∧ ψ Ψ δ μ1 fun xs μ2 => Φ (ds ++ xs) μ2
theorem sStar {te : TE} {tas : TA} {φ : DE} {ψ : DA} (a : SE B te φ) (b : SA B tas ψ) : SA B (StX.tStar K te tas) (dStar φ ψ) := fun σ H δ μ Φ Q S q k =>
  a σ H δ μ _ _ S q fun v H1 x μ1 S1 e1 r1 q1 => by
    obtain ⟨ds, rfl, q2⟩ := q1
    obtain ⟨p, vs, rfl, h1, h2⟩ := Rep.tup_inv r1
    exact ⟨p, vs, rfl, .inl h1.sq, b σ H1 δ μ1 _ _ S1 q2 fun us H2 xs μ2 S2 e2 r2 q3 => k _ H2 _ μ2 S2 (e1.trans e2) ((h2.mono e2).append r2) q3⟩
theorem u_star {φ : DE} {ψ : DA} {Ψ : XP} {δ : DEnv} {μ : Sto} {Φ : List D → Sto → Prop} : dStar φ ψ Ψ δ μ Φ = φ Ψ δ μ fun x μ1 => ∃ ds, x = .tup ds ∧ ψ Ψ δ μ1 fun xs μ2 => Φ (ds ++ xs) μ2 := rfl
theorem bounds2 (n : Nat) (h : 1 ≤ n) : sliceBounds (some (-2)) none (some (-1)) n = (((n - 1 : Nat) : Int) - 1, -1, -1) := by
  unfold sliceBounds
  have h1 : ¬ ((some (-1 : Int)).getD 1 > 0) := by decide
  simp only [h1, if_false, show (-2 : Int) < 0 from by decide, if_true]
  have : max (-1) (min (-2 + (n : Int)) ((n : Int) - 1)) = ((n - 1 : Nat) : Int) - 1 := by omega
  rw [this]
  rfl
theorem pick2 (items : Array Value) (h : 1 ≤ items.size) : slicePick items (some (-2)) none (some (-1)) = items.toList.dropLast.reverse.toArray := by
  unfold slicePick
  rw [bounds2 _ h]
  show ((sliceRange (((items.size - 1 : Nat) : Int) - 1) (-1) (-1)).filterMap (items[·]?)).toArray = _
  rw [PySem.W.krv_sliceRange, PySem.W.krv_range, List.filterMap_reverse]
  have h2 := pick_run items 0 (items.size - 1)
  have e : (List.range (items.size - 1)).map (0 + ·) = List.range (items.size - 1) := by
    rw [show ((0 + ·) : Nat → Nat) = id from funext fun k => Nat.zero_add k, List.map_id]
  rw [e, List.drop_zero] at h2
  rw [h2, List.dropLast_eq_take, Array.length_toList]
theorem dropLast_vals {vs : List V} {us : List Value} (r : Vals vs us) : Vals vs.dropLast us.dropLast := by
  rw [List.dropLast_eq_take, List.dropLast_eq_take, r.length]
  exact r.take _
def tRev2L (K : Fg) (te : TE) : TE := fun σ H Q => te σ H fun x H1 => ∃ a xs, x = .ref a ∧ SqL K H1 a xs ∧ xs ≠ [] ∧ ∀ p, H1 p = none → Q (.ref p) (upd H1 p (.lst xs.dropLast.reverse))
theorem pe_rev2L {X : Cx} {e : Expr} {te : TE} {k k2 : Nat} {p1 p2 p3 p4 p5 pos : Pos} (he : PE X e te) : PE X (.Subscript e (.Slice (some (.UnaryOp .USub (.Constant (.int 2) k2 p4) p5)) none (some (.UnaryOp .USub (.Constant (.int 1) k p1) p2)) p3) pos) (tRev2L X.K te) := by
  refine ⟨fun pins s σ H Q I h => ?_⟩
  refine Subscript_ (thn (he.run pins s σ H _ I h) fun v s1 ⟨x, H1, I1, r1, q1⟩ => ?_)
  obtain ⟨a, xs, ex, hx, hne, q⟩ := q1
  subst ex
  cases r1
  have hst : PO X (some (.UnaryOp .USub (.Constant (.int 1) k p1) p2)) (tPart (tUn (rU fun i => .int (-i)) (tC (.int 1)))) := po_some (pe_un un_neg pe_int)
  have hlo : PO X (some (.UnaryOp .USub (.Constant (.int 2) k2 p4) p5)) (tPart (tUn (rU fun i => .int (-i)) (tC (.int 2)))) := po_some (pe_un un_neg pe_int)
  refine wpAny_Slice (thn (hlo.run pins s1 σ H1 (fun o H2 => o = some (-2) ∧ H2 = H1) I1 ⟨2, rfl, -2, rfl, rfl, rfl⟩) fun vl s2 ⟨l, H2, I2, pl, el, e2⟩ => ?_)
  subst el e2
  refine thn (po_none.run pins s2 σ H2 (fun o H3 => o = none ∧ H3 = H2) I2 ⟨rfl, rfl⟩) fun vu s3 ⟨u, H3, I3, pu, eu, e3⟩ => ?_
  subst eu e3
  refine thn (hst.run pins s3 σ H3 (fun o H4 => o = some (-1) ∧ H4 = H3) I3 ⟨1, rfl, -1, rfl, rfl, rfl⟩) fun vs s4 ⟨o, H4, I4, ps, eo, e4⟩ => ?_
  subst eo e4
  have I5 : Inv X pins σ H4 { s4 with heap := s4.heap.push { cls := .type "slice", data := .fields #[vl, vu, vs] } } := I4.kept (t' := s4.toks) fun b ob q => Heap.get?_push_of_some _ q
  obtain ⟨its, r, ht, hz⟩ := I5.list hx
  have hlen := r.length
  have h1 : 1 ≤ its.toArray.size := by
    rw [List.size_toArray, ← hlen]
    exact List.length_pos_iff.mpr hne
  show wpAny (model X.prog X.w) X.A (subscriptTail e (.Slice (some (.UnaryOp .USub (.Constant (.int 2) k2 p4) p5)) none (some (.UnaryOp .USub (.Constant (.int 1) k p1) p2)) p3) (.ref a) (.ref s4.heap.objs.size)) (EP X pins σ Q) X.xe { s4 with heap := s4.heap.push { cls := .type "slice", data := .fields #[vl, vu, vs] } }
  refine tail_any (ops := [.ref a, .ref s4.heap.objs.size]) ht.isList.typeIs (PySem.slot_list_getitem.lookup) ?_ (by with_unfolding_all rfl)
  refine wpAny_getItem_list_slice ht.isList (Heap.IsSliceOf.new _ vl vu vs) pl pu ps (by decide) ?_ (by rw [List.size_toArray]; omega)
  rw [pick2 _ h1]
  refine ⟨.ref _, _, I5.laid (t' := s4.toks) (o := .lst xs.dropLast.reverse) (fun b ob q => Heap.get?_push_of_some _ q) (Nat.le_refl _) ?_, rfl, q _ (I5.hok.fresh (Nat.le_refl _))⟩
  exact ⟨by rw [List.length_reverse, List.length_dropLast]; omega, _, 0, (dropLast_vals r).reverse, Heap.get?_push_size _ rfl⟩
def dRev2L (φ : DE) : DE := fun Ψ δ μ Φ => φ Ψ δ μ fun x μ1 => ∃ ds, Items μ1 x ds ∧ isTup x = false ∧ ds ≠ [] ∧ Φ (.lst ds.dropLast.reverse) μ1
theorem sRev2L {te : TE} {φ : DE} (a : SE B te φ) : SE B (tRev2L K te) (dRev2L φ) := fun σ H δ μ Φ Q S q k =>
  a σ H δ μ _ _ S q fun v H1 x μ1 S1 e1 r1 q1 => by
    obtain ⟨ds, hi, hn, hne, q2⟩ := q1
    obtain ⟨p, vs, rfl, h1, h2⟩ := hi.okL S1.sto r1 hn
    have hl := h2.length
    have h3 : Reps K μ1 H1 vs.dropLast.reverse ds.dropLast.reverse := by
      rw [List.dropLast_eq_take, List.dropLast_eq_take, hl]
      exact (h2.take _).reverse
    exact ⟨p, vs, rfl, h1, fun z => hne (List.length_eq_zero_iff.mp (by rw [← hl, z]; rfl)), fun o ho => k _ _ _ μ1 (S1.step (.new ho) (S1.sto.new ho)) (e1.trans (.new ho)) (rep_lst S1.sto ho h3) q2⟩
theorem u_rev2L {φ : DE} {Ψ : XP} {δ : DEnv} {μ : Sto} {Φ : DK} : dRev2L φ Ψ δ μ Φ = φ Ψ δ μ fun x μ1 => ∃ ds, Items μ1 x ds ∧ isTup x = false ∧ ds ≠ [] ∧ Φ (.lst ds.dropLast.reverse) μ1 := rfl
end
theorem cxUpN {P : Program} {w : World} : StX.CXUp (L2N.CX P w) := by
  rintro outer s H s2 H2 E e s' un kp ho ⟨a, B, H', cls, d, ea, fl, hok, ub, na, os, ag, he⟩
  refine ⟨a, B, H', cls, d, ea, fl, hok, ⟨fun b o q n hb => ub.keep b o (kp b o q) (un.free b o q n (by simp)) hb, fun b o q hb => ub.slot b o (kp b o q) hb, fun b o q n => ub.free b o (kp b o q) (un.free b o q n (by simp)),
    fun b o q hb => ub.there b o (kp b o q) hb, fun b xs q => ub.tups b xs (un.tups b xs q), fun b o xs q => ub.frzs b o xs (un.frzs b o xs q), fun b ps q => ?_⟩, na, os.trans ho, ag, he⟩
  obtain ⟨m1, e1⟩ := un.tbls b ps q
  obtain ⟨m2, e2⟩ := ub.tbls b _ e1
  exact ⟨m1 ++ m2, by rw [e2, Array.append_assoc]⟩
section
variable {CX : CXT} {P : Program} {w : World} {K : PySem.W.Frag} {mg : Str → Option Value} {base : Heap} {k : Nat} {f : Addr} {name qual : Str} {params : Arguments} {body : List Stmt} {scope : Scope} {dV kV doc pm cdv ct oc : Value} {an od : Option Addr}
  {osl : Array (Option Value)} {N ps : List Str} {sp : Sp}
/-- def f(a, .., *v): what is left over is a new tuple, which has no dict -/
theorem fn_starN {pv : Str} (lk : K.lookup f = some ⟨oc, od, .func (PySem.W.fnOf name qual params body scope dV kV doc pm an cdv ct), osl⟩) (hcd : PySem.W.codeIn K cdv qual = true) (S : FnScope N (ps ++ [pv]) scope) (hCX : StX.CXUp CX)
    (hb : ∀ us rest : List Value, us.length = ps.length → bindArgs (PySem.W.fnOf name qual params body scope dV kV doc pm an cdv ct) ⟨us ++ rest, []⟩ = (newTuple rest >>= fun t => pure (ps.zip us ++ [(pv, t)])))
    (hbody : ∀ (A : Around) (outer : List Env) (s : Shared) (H : Hp) (vs : List V) (Q : VK) (E : XK), Room k (A.deeper (envOfC qual scope s.heap.objs.size f cdv)) → sp vs H Q E →
      ∃ t, PSs (cxOf CX P w K mg base N qual scope f cdv A outer s H E) body t ∧ t { nx := fun _ H' => Q .non H', rt := Q } (start N vs) H) :
    FnR P w K mg base CX (k + 1) f (fun vs H Q E => ∃ ws rest, vs = ws ++ rest ∧ ws.length = ps.length ∧ rest.length ≤ sizeLine ∧ ∀ p o, o.dict = none → o.cls = .type "tuple" → H p = Option.none → sp (ws ++ [V.ref p]) (upd H p (.frz o (.tup rest))) Q E) := by
  intro A outer s H us vs Q E hr e0 r hsp
  obtain ⟨ws, rest, ev, hl, hz, hq⟩ := hsp
  subst ev
  obtain ⟨u1, u2, eu, r1, r2⟩ := StX.vals_split r
  subst eu
  have hn : H s.heap.objs.size = Option.none := e0.hok.fresh (Nat.le_refl _)
  have hl1 : u1.length = ps.length := by rw [← r1.length]; exact hl
  have hl2 : u2.length ≤ sizeLine := by rw [← r2.length]; exact hz
  refine StX.run_bnd lk hcd S hr e0 (G := fun xs H2 => ∃ p o, o.dict = none ∧ o.cls = .type "tuple" ∧ H p = Option.none ∧ xs = ws ++ [V.ref p] ∧ H2 = upd H p (.frz o (.tup rest))) (fun A' Ex Q' h => ?_) fun s2 H2 xs ⟨p, o, ho, hc, hp, ex, eH⟩ hr' => ?_
  · rw [hb u1 u2 hl1]
    refine wpAny_bind (wpAny_newTuple (wpAny_pure ?_) hl2)
    have new : ObjOk P w (upd H s.heap.objs.size (.frz (tupObj u2) (.tup rest))) (s.heap.push (tupObj u2)) s.heap.objs.size (.frz (tupObj u2) (.tup rest)) := tup_okN hz r2
    have un := StX.un_laid (fs := frs outer) (s := s) (o := tupObj u2) (u := .frz (tupObj u2) (.tup rest)) hn
    have z := h _ _ (ws ++ [V.ref s.heap.objs.size]) (u1 ++ [Value.ref s.heap.objs.size]) (StX.env0_laid e0 new) un rfl (fun e s' => hCX outer s H _ _ E e s' un (fun b o q => Heap.get?_push_of_some _ q) rfl) (r1.append (.cons rfl .nil))
      (by rw [List.length_append, List.length_append, hl] <;> rfl) ⟨_, _, rfl, rfl, hn, rfl, rfl⟩
    rw [List.zip_append hl1.symm] at z
    exact z
  · subst ex eH
    exact hbody A outer s2 _ _ Q E hr' (hq p o ho hc hp)
end
/-- what a def with n names and *v promises: c speaks of n data and the tuple -/
def spStar (K : Fg) (n : Nat) (c : Con) : Sp := fun vs H Q E => ∃ μ ds rs Φ Ψ, StoOk K μ H ∧ Reps K μ H vs (ds ++ rs) ∧ ds.length = n ∧ rs.length ≤ 100000 ∧ c (ds ++ [.tup rs]) μ Φ Ψ ∧
  (∀ v H' d μ', Evo μ H μ' H' → StoOk K μ' H' → Rep K μ' H' v d → Φ d μ' → Q v H') ∧
  ∀ cls dd H' x μ', Evo μ H μ' H' → StoOk K μ' H' → RepX K μ' H' cls dd x → Ψ x μ' → E cls dd H'
theorem reps_two {K : Fg} {μ : Sto} {H : Hp} {vs : List V} {ds rs : List D} (r : Reps K μ H vs (ds ++ rs)) : ∃ us ws, vs = us ++ ws ∧ Reps K μ H us ds ∧ Reps K μ H ws rs := by
  refine ⟨vs.take ds.length, vs.drop ds.length, (List.take_append_drop _ _).symm, ?_, ?_⟩
  · have := r.take ds.length
    rwa [List.take_left] at this
  · have := r.drop ds.length
    rwa [List.drop_left] at this
/-- THE RULE for a def with *v -/
theorem def_okR {P : Program} {w : World} {K : Fg} {mg : Str → Option Value} {base : Heap} {x qual : Str} {st : Stmt} {f : Addr} {fd : FuncData} {N ps : List Str} {pv : Str} {k : Nat} {c : Con} (F : Fun K x qual st f fd) (Sc : FnScope N (ps ++ [pv]) (defScope st)) (φ : DSt)
    (hbi : ∀ us rest : List Value, us.length = ps.length → bindArgs fd ⟨us ++ rest, []⟩ = (newTuple rest >>= fun t => pure (ps.zip us ++ [(pv, t)])))
    (hb : ∀ (cdv : Value) (A : Around) (outer : List Env) (s : Shared) (H : Hp) (E : XK) (B : Bx K), B.W = (fun cls d _ H => E cls d H) → Room k (A.deeper (PyProof.Rows.envOfC qual (defScope st) s.heap.objs.size f cdv)) →
      ∃ t, PSs (cxOf (L2N.CX P w) P w K mg base N qual (defScope st) f cdv A outer s H E) (defBody st) t ∧ SS B t φ)
    (hv : ∀ ds μ Φ Ψ, c ds μ Φ Ψ → φ (goalX Ψ) (goalE Φ) (dstart N ds) μ) : FnR P w K mg base (L2N.CX P w) (k + 1) f (spStar K ps.length c) := by
  obtain ⟨oc, od, kV, doc, pm, an, cdv, ct, osl, rfl, lk, hcd⟩ := F.ex
  refine (fn_starN (sp := spOf K c) lk hcd Sc cxUpN hbi (fun A outer s H vs Q E hr h => ?_)).imp (fun vs H Q E h => ?_)
  · obtain ⟨μ, ds, Φ, Ψ, s0, r, hc, hq, hx⟩ := h
    let B : Bx K := ⟨H, μ, fun cls d _ H => E cls d H, goalX Ψ, fun cls dd σ H' x δ μ' S rx ⟨μ2, hs, q⟩ => hx cls dd H' x μ2 (S.evo.trans hs.evo) (hs.sto S.sto) (rx.mono hs.evo) q⟩
    obtain ⟨t, ht, hs⟩ := hb cdv A outer s H E B rfl hr
    refine ⟨t, ht, hs { nx := fun _ H' => Q .non H', rt := Q } (goalE Φ) (L2.start N vs) H (dstart N ds) μ ⟨fun σ H' δ μ' S ⟨μ2, h2, q⟩ => ?_, fun v H' d μ' σ δ S rv ⟨μ2, h2, q⟩ => ?_, fun _ _ _ _ _ z => z, fun _ _ _ _ _ z => z⟩ ⟨.refl, s0, env_start r⟩ (hv ds μ Φ Ψ hc)⟩
    · exact hq .non H' .non μ2 (S.evo.trans h2.evo) (h2.sto S.sto) (.non .nil) q
    · exact hq v H' d μ2 (S.evo.trans h2.evo) (h2.sto S.sto) (rv.mono h2.evo) q
  · obtain ⟨μ, ds, rs, Φ, Ψ, s0, r, hl, hz, hc, hq, hx⟩ := h
    obtain ⟨us, ws, rfl, r1, r2⟩ := reps_two r
    refine ⟨us, ws, rfl, by rw [r1.length]; exact hl, sz (by rw [r2.length]; exact hz), fun p o ho hcl hp => ?_⟩
    have e : Evo μ H μ (upd H p (.frz o (.tup ws))) := .new hp
    exact ⟨μ, ds ++ [.tup rs], Φ, Ψ, s0.new hp, (r1.mono e).append (rep_tupN s0 hp ho hcl r2), hc, fun v H' d μ' e2 s2 rv q => hq v H' d μ' (e.trans e2) s2 rv q, fun cls dd H' x μ' e2 s2 rv q => hx cls dd H' x μ' (e.trans e2) s2 rv q⟩
section
variable {X : Cx} {CX : CXT} {k : Nat} {f : Addr} {sp : Sp} {E : L2.St → XK} {x : Str} {p pos : Pos} {e : Expr} {es : List Expr} {t : TA}
/-- x(e, ..), x a def of the module with *v -/
theorem pe_callSR (F : FnR X.prog X.w X.K X.mg X.base CX k f sp) (hr : Room k X.A) (hg : Gl X x) (hm : X.mg x = some (.ref f)) (hk : PySem.W.keepIn X.K (.ref f) = true) (hx : ∀ σ, PassesAt CX X σ (E σ))
    (ha : PA X (e :: es) t) (hdb : (x == ("__debug__" : Str)) = false := by decide) (he : starEach (e :: es) X.env = (false, eval e X.env) :: starEach es X.env := by rfl) (hpl : (backTo pos (starEach es X.env)).any (·.1) = false := by rfl) :
    PE X (.Call (.Name x p) (e :: es) [] pos) (tCallS sp E t) := by
  refine ⟨fun pins s σ H Q I h => ?_⟩
  refine wpAny_Call_Name_kw (ld_glob I hg hm ?_ hdb)
  refine PySem.W.callWith_K (h₀ := X.base) I.ok.mod.kin hk (thn (ha.run pos pins s σ H _ I h) fun us s1 ⟨vs, H1, I1, r, q⟩ => ⟨I1.kIn, ?_⟩) he hpl
  refine wpAny_call (codeAny_mono (F X.A X.stack s1 H1 us vs Q (E σ) hr I1.env0 r q) fun r s' hq => ?_)
  cases r with
  | error e => exact hx σ pins H1 s1 e s' I1 hq
  | ok fl =>
    cases fl with
    | ret u => exact I1.after hq
    | next => exact False.elim hq
    | brk => exact False.elim hq
    | cont => exact False.elim hq
end
section
variable {K : Fg} {B : Bx K}
def dCallR (n : Nat) (c : Con) (ψ : DA) : DE := fun Ψ δ μ Φ => ψ Ψ δ μ fun xs μ1 => n ≤ xs.length ∧ xs.length ≤ 100000 ∧ c (xs.take n ++ [.tup (xs.drop n)]) μ1 Φ fun x μ2 => Ψ x δ μ2
theorem sCallRW {W : WX} {n : Nat} {c : Con} {tas : TA} {ψ : DA} (hW : B.W = W) (a : SA B tas ψ) : SE B (tCallS (spStar K n c) (WE W) tas) (dCallR n c ψ) := by
  subst hW
  exact fun σ H δ μ Φ Q S q k =>
    a σ H δ μ _ _ S q fun vs H1 xs μ1 S1 e1 r1 ⟨q1, q2, q3⟩ =>
      ⟨μ1, xs.take n, xs.drop n, Φ, fun x μ2 => B.Ψ x δ μ2, S1.sto, by rw [List.take_append_drop]; exact r1, by rw [List.length_take]; omega, by rw [List.length_drop]; omega, q3, fun v H2 d μ2 e2 s2 r2 q2 => k v H2 d μ2 (S1.step e2 s2) (e1.trans e2) r2 q2, fun cls dd H2 x μ2 e2 s2 r2 q2 => B.hW cls dd σ H2 x δ μ2 (S1.step e2 s2) r2 q2⟩
theorem u_callR {n : Nat} {c : Con} {ψ : DA} {Ψ : XP} {δ : DEnv} {μ : Sto} {Φ : DK} : dCallR n c ψ Ψ δ μ Φ = ψ Ψ δ μ fun xs μ1 => n ≤ xs.length ∧ xs.length ≤ 100000 ∧ c (xs.take n ++ [.tup (xs.drop n)]) μ1 Φ fun x μ2 => Ψ x δ μ2 := rfl
end
theorem bindsR {K : Fg} {x qual : Str} {st : Stmt} {f : Addr} {fd : FuncData} {ps : List Str} {pv : Str} (F : Fun K x qual st f fd)
    (h : ∀ (kV doc pm : Value) (an : Option Addr) (cdv ct : Value) (us rest : List Value), us.length = ps.length → bindArgs (PySem.W.fnOf x qual (defArgs st) (defBody st) (defScope st) .none kV doc pm an cdv ct) ⟨us ++ rest, []⟩ = (newTuple rest >>= fun t => pure (ps.zip us ++ [(pv, t)]))) :
    ∀ us rest : List Value, us.length = ps.length → bindArgs fd ⟨us ++ rest, []⟩ = (newTuple rest >>= fun t => pure (ps.zip us ++ [(pv, t)])) := by
  obtain ⟨oc, od, kV, doc, pm, an, cdv, ct, osl, rfl, lk, hcd⟩ := F.ex
  exact h kV doc pm an cdv ct
end DW
set_option Elab.async false
set_option linter.all false
set_option maxRecDepth 100000
namespace LW
open PySem PySem.Spec L2 DW
def prodI (ws : List Int) : Int := ws.foldl (· * ·) 1
theorem prodI_snoc (ws : List Int) (z : Int) : prodI (ws ++ [z]) = prodI ws * z := by unfold prodI; rw [List.foldl_append]; rfl
theorem prod_snoc {ws : List Int} {i : Nat} {z : Int} (h : ws[i]? = some z) : prodI (ws.take (i + 1)) = prodI (ws.take i) * z := by
  rw [List.take_add_one, h]; exact prodI_snoc _ _
def prodR : List Int → Int
  | [] => 1
  | w :: r => prodR r * w
theorem prodI_rev : ∀ r : List Int, prodI r.reverse = prodR r
  | [] => rfl
  | w :: r => by rw [List.reverse_cons, prodI_snoc, prodI_rev r]; rfl
abbrev Pos (ws : List Int) : Prop := ∀ w ∈ ws, (0 : Int) < w
theorem Pos.rev {ws : List Int} (h : Pos ws) : Pos ws.reverse := fun w hw => h w (List.mem_reverse.mp hw)
theorem prodR_pos : ∀ {r : List Int}, Pos r → 0 < prodR r
  | [], _ => by decide
  | w :: r, h => Int.mul_pos (prodR_pos fun x hx => h x (List.mem_cons_of_mem _ hx)) (h w List.mem_cons_self)
/-- the number of a choice -/
def idxU : Int → List Int → List Int → Option Int
  | a, w :: ws, c :: cs => if 0 ≤ c ∧ c < w then idxU (a * w + c) ws cs else none
  | a, _, _ => some a
/-- widths as they are drawn -/
structure WB (ws : List Int) : Prop where
  len : ws.length ≤ 1000
  lo : ∀ w ∈ ws, (0 : Int) ≤ w
  hi : ∀ w ∈ ws, w < 2 ^ 100
  pr : ∀ j, 0 ≤ prodI (ws.take j) ∧ prodI (ws.take j) < 2 ^ 200
theorem WB.mul {ws : List Int} (h : WB ws) {i : Nat} {z : Int} (e : ws[i]? = some z) : CMulX (prodI (ws.take i)) z := by
  have h1 := h.pr i
  have h2 := h.lo z (List.mem_of_getElem? e)
  have h3 := h.hi z (List.mem_of_getElem? e)
  exact mulx 200 100 (by omega) (by omega) (by decide)
end LW
set_option Elab.async false
set_option linter.all false
set_option maxRecDepth 100000
namespace LW
open PySem PySem.Spec L2 DW
/-- two lists that change: the state and one's own -/
structure Two (μ : Sto) (p st : Addr) (L c : List D) (μ' : Sto) : Prop where
  hp : μ p = none
  ne : st ≠ p
  pL : μ' p = some (.lst L)
  sc : μ' st = some (.lst c)
  ot : ∀ a, a ≠ p → a ≠ st → μ' a = μ a
theorem Two.start {μ : Sto} {p st : Addr} {L c : List D} (hp : μ p = none) (hs : μ st = some (.lst c)) : Two μ p st L c (sset μ p (.lst L)) := by
  have ne : st ≠ p := fun z => by rw [z, hp] at hs; cases hs
  exact ⟨hp, ne, sset_same, by rw [sset_ne ne]; exact hs, fun a h _ => sset_ne h⟩
theorem Two.setS {μ μ' : Sto} {p st : Addr} {L c c2 : List D} (T : Two μ p st L c μ') : Two μ p st L c2 (sset μ' st (.lst c2)) :=
  ⟨T.hp, T.ne, by rw [sset_ne (Ne.symm T.ne)]; exact T.pL, sset_same, fun a h1 h2 => by rw [sset_ne h2]; exact T.ot a h1 h2⟩
theorem Two.setP {μ μ' : Sto} {p st : Addr} {L L2 c : List D} (T : Two μ p st L c μ') : Two μ p st L2 c (sset μ' p (.lst L2)) :=
  ⟨T.hp, T.ne, sset_same, by rw [sset_ne T.ne]; exact T.sc, fun a h1 h2 => by rw [sset_ne h1]; exact T.ot a h1 h2⟩
theorem Two.sub {μ μ' : Sto} {p st : Addr} {L c : List D} (T : Two μ p st L c μ') : Sub (sset μ st (.lst c)) μ' := fun a x e => by
  by_cases h : a = st
  · subst h; rw [sset_same] at e; rw [T.sc]; exact e
  · rw [sset_ne h] at e
    have h1 : a ≠ p := fun z => by rw [z, T.hp] at e; cases e
    rw [T.ot a h1 h]; exact e
theorem Two.del {μ μ' : Sto} {p st : Addr} {L c : List D} (T : Two μ p st L c μ') : sdel μ' p = sset μ st (.lst c) := by
  funext a
  unfold sdel
  by_cases h : a = p
  · subst h; rw [if_pos rfl, sset_ne (Ne.symm T.ne), T.hp]
  · rw [if_neg h]
    by_cases h2 : a = st
    · subst h2; rw [sset_same, T.sc]
    · rw [sset_ne h2]; exact T.ot a h h2
theorem prodI_eqR (ws : List Int) : prodI ws = prodR ws.reverse := by
  have e := prodI_rev ws.reverse
  rw [List.reverse_reverse] at e
  exact e
theorem prodI_pos0 {ws : List Int} (h : Pos ws) : 0 < prodI ws := by rw [prodI_eqR]; exact prodR_pos h.rev
theorem Pos.take {ws : List Int} (h : Pos ws) (j : Nat) : Pos (ws.take j) := fun w hw => h w (List.mem_of_mem_take hw)
/-- a product of a front is no greater -/
theorem prod_take_le {ws : List Int} (h : Pos ws) : ∀ j, prodI (ws.take j) ≤ prodI ws := by
  have step : ∀ j, prodI (ws.take j) ≤ prodI (ws.take (j + 1)) := fun j => by
    cases e : ws[j]? with
    | none =>
      have hl : ws.length ≤ j := by rw [List.getElem?_eq_none_iff] at e; exact e
      rw [List.take_of_length_le hl, List.take_of_length_le (by omega)]; exact Int.le_refl _
    | some z =>
      rw [LW.prod_snoc e]
      have h1 := prodI_pos0 (h.take j)
      have h2 := h z (List.mem_of_getElem? e)
      have : prodI (ws.take j) * 1 ≤ prodI (ws.take j) * z := Int.mul_le_mul_of_nonneg_left (by omega) (by omega)
      omega
  have far : ∀ k j, prodI (ws.take j) ≤ prodI (ws.take (j + k)) := fun k => by
    induction k with
    | zero => intro j; exact Int.le_refl _
    | succ k ih => intro j; exact Int.le_trans (ih j) (step (j + k))
  intro j
  have := far ws.length j
  rw [List.take_of_length_le (by omega : ws.length ≤ j + ws.length)] at this
  exact this
theorem WB.of {ws : List Int} (hl : ws.length ≤ 1000) (hp : Pos ws) (hh : ∀ w ∈ ws, w < 2 ^ 100) (hb : prodI ws < 2 ^ 200) : WB ws :=
  ⟨hl, fun w hw => by have := hp w hw; omega, hh, fun j => ⟨by have := prodI_pos0 (hp.take j); omega, by have := prod_take_le hp j; omega⟩⟩
end LW
set_option Elab.async false
set_option linter.all false
set_option maxRecDepth 100000
namespace LW
open PySem PySem.Spec L2 DW
inductive Am where
  | any | best (r : List Int) | second (r : List Int) | most | fewest | fixed | like (i : Nat) | unlike (i : Nat) | among (l : List Int) | only (l : List Int) | table (rows : List (List Int))
  | either (a b : Am) | both (a b : Am) | els (a b : Am) | not (a : Am) | first (a : Am) | recode (m : List Int) (a : Am) | reorder (p : List Int) (a : Am)
namespace Am
def iT (l : List Int) : D := .tup (l.map .int)
def d : Am → D
  | any => .tup [.str "any"]
  | best r => .tup [.str "best", iT r]
  | second r => .tup [.str "second", iT r]
  | most => .tup [.str "most"]
  | fewest => .tup [.str "fewest"]
  | fixed => .tup [.str "fixed"]
  | like i => .tup [.str "like", .int i]
  | unlike i => .tup [.str "unlike", .int i]
  | among l => .tup [.str "among", iT l]
  | only l => .tup [.str "only", iT l]
  | table rows => .tup [.str "table", .tup (rows.map iT)]
  | either a b => .tup [.str "either", a.d, b.d]
  | both a b => .tup [.str "both", a.d, b.d]
  | els a b => .tup [.str "else", a.d, b.d]
  | not a => .tup [.str "not", a.d]
  | first a => .tup [.str "first", a.d]
  | recode m a => .tup [.str "recode", iT m, a.d]
  | reorder p a => .tup [.str "reorder", iT p, a.d]
end Am
/-- ascending numbers from lo on, below hi -/
def Asc (hi : Int) : Int → List Int → Prop
  | _, [] => True
  | lo, x :: r => lo ≤ x ∧ x < hi ∧ Asc hi (x + 1) r
structure CtxOk (n k : Nat) (c : List Int) : Prop where
  len : c.length = n
  lo : ∀ r ∈ c, 0 ≤ r
  hi : ∀ r ∈ c, r < k
  n1 : 1 ≤ n
  n64 : n ≤ 64
  k1 : 1 ≤ k
  k4 : k ≤ 4
def NumOk (len lim : Nat) (r : List Int) : Prop := r.length = len ∧ ∀ x ∈ r, 0 ≤ x ∧ x < (lim : Int)
def AmOk (n k : Nat) : Am → Prop
  | .any => True
  | .best r => NumOk k 10 r
  | .second r => NumOk k 10 r
  | .most => True
  | .fewest => True
  | .fixed => True
  | .like i => i < n
  | .unlike i => i < n
  | .among l => Asc k 0 l
  | .only l => Asc n 0 l
  | .table rows => n ≤ 8 ∧ k ^ n ≤ 256 ∧ rows.length = k ^ n ∧ ∀ l ∈ rows, Asc n 0 l
  | .either a b => AmOk n k a ∧ AmOk n k b
  | .both a b => AmOk n k a ∧ AmOk n k b
  | .els a b => AmOk n k a ∧ AmOk n k b
  | .not a => AmOk n k a
  | .first a => AmOk n k a
  | .recode m a => NumOk k k m ∧ AmOk n k a
  | .reorder p a => NumOk n n p ∧ p.Nodup ∧ AmOk n k a
def at' (l : List Int) (i : Int) : Int := l.getD i.toNat 0
/-- the number of a context -/
def ctxIx (k : Nat) (c : List Int) : Int := c.foldl (fun s r => s * k + r) 0
def someI (n : Nat) (p : Nat → Bool) : Bool := (List.range n).any p
def isG (k : Nat) : Am → List Int → Nat → Bool
  | .any, _, _ => true
  | .best r, c, x => c.all fun s => decide (at' r s ≤ at' r (c.getD x 0))
  | .second r, c, x => let m := at' r (c.getD x 0); c.all (fun s => m == at' r s) || (let ab := (c.map (at' r)).filter (fun s => decide (m < s)); decide (0 < ab.length) && ab.all (· == ab.getD 0 0))
  | .most, c, x => c.all fun s => decide (c.count s ≤ c.count (c.getD x 0))
  | .fewest, c, x => c.all fun s => decide (c.count (c.getD x 0) ≤ c.count s)
  | .fixed, c, x => c.getD x 0 == (x : Int)
  | .like i, c, x => c.getD x 0 == c.getD i 0
  | .unlike i, c, x => c.getD x 0 != c.getD i 0
  | .among l, c, x => l.contains (c.getD x 0)
  | .only l, _, x => l.contains (x : Int)
  | .table rows, c, x => (rows.getD (ctxIx k c).toNat []).contains (x : Int)
  | .either a b, c, x => isG k a c x || isG k b c x
  | .both a b, c, x => isG k a c x && isG k b c x
  | .els a b, c, x => if someI c.length (isG k a c) then isG k a c x else isG k b c x
  | .not a, c, x => !isG k a c x
  | .first a, c, x => isG k a c x && !someI x (isG k a c)
  | .recode m a, c, x => isG k a (c.map (at' m)) x
  | .reorder p a, c, x => isG k a ((List.range c.length).map fun (y : Nat) => c.getD (p.idxOf (y : Int)) (0 : Int)) (at' p x).toNat
def flagL (k : Nat) (a : Am) (c : List Int) : List D := (List.range c.length).map fun x => .bl (isG k a c x)
def FlC (P : Am → Prop) : Con := fun ds μ Φ _ => ∃ (n k : Nat) (a : Am) (c : List Int), P a ∧ AmOk n k a ∧ CtxOk n k c ∧ ds = [a.d, .tup (c.map .int), .int k] ∧ Φ (.lst (flagL k a c)) μ
section
variable {Ψ : XP} {Φ : DK} {n : Nat} {φ : DE} {δw : DEnv} {μ1 : Sto}
/-- over a range -/
theorem lcR {m : Nat} (v : Nat → D) (hz : m ≤ 100000)
    (hs : ∀ (i : Nat) (μ2 : Sto) (X : DK), i < m → Sub μ1 μ2 → X (v i) μ2 → φ Ψ (δw.set n (some (.int (i : Int)))) μ2 X)
    (hd : Φ (.lst ((List.range m).map v)) μ1) : LcG (eName n) dYes φ δw Ψ (rngD 0 m) μ1 Φ := by
  refine lcG_mapN v (by rw [rngD_len]; exact hz) (fun i d μ2 X hi hsub hx => ?_) (by rw [rngD_len]; exact hd)
  obtain ⟨hj, rfl⟩ := rngD_get hi
  have := hs i μ2 X hj hsub hx
  rw [Int.zero_add]
  exact this
theorem atI_map {α : Type} {f : α → D} {l : List α} {i : Int} (h0 : 0 ≤ i) (h : i.toNat < l.length) : atI (l.map f) i = some (f l[i.toNat]) := by
  obtain ⟨j, rfl⟩ : ∃ j : Nat, i = (j : Int) := ⟨i.toNat, by omega⟩
  have hj : j < l.length := h
  show atI (l.map f) (j : Int) = some (f l[j])
  exact atI_nat (by rw [List.getElem?_map, List.getElem?_eq_getElem hj]; rfl)
end
theorem repI (n : Nat) (k : Int) : (List.replicate n [D.int k]).flatten = (List.replicate n k).map D.int := by
  induction n with
  | zero => rfl
  | succ n ih => rw [List.replicate_succ, List.flatten_cons, ih, List.replicate_succ, List.map_cons]; rfl
theorem prodI_rep (n : Nat) (k : Int) : prodI (List.replicate n k) = k ^ n := by
  induction n with
  | zero => rw [Int.pow_zero]; rfl
  | succ n ih => rw [List.replicate_succ', prodI_snoc, ih, Int.pow_succ]
theorem pow_small {k n : Nat} (hk1 : 1 ≤ k) (hk : k ≤ 4) (hn : n ≤ 64) : k ^ n ≤ 2 ^ 128 := by
  have h1 : k ^ n ≤ 4 ^ n := Nat.pow_le_pow_left hk n
  have h2 : 4 ^ n ≤ 4 ^ 64 := Nat.pow_le_pow_right (by decide) hn
  exact Nat.le_trans h1 (Nat.le_trans h2 (by decide))
theorem WB_rep {n k : Nat} (hn : n ≤ 64) (hk1 : 1 ≤ k) (hk : k ≤ 4) : WB (List.replicate n (k : Int)) := by
  refine WB.of (by rw [List.length_replicate]; omega) (fun w hw => ?_) (fun w hw => ?_) ?_
  · rw [List.eq_of_mem_replicate hw]; omega
  · rw [List.eq_of_mem_replicate hw]
    have : (k : Int) ≤ 4 := by omega
    exact Int.lt_of_le_of_lt this (by decide)
  · rw [prodI_rep, ← Int.natCast_pow]
    have := pow_small hk1 hk hn
    have h2 : ((k ^ n : Nat) : Int) ≤ ((2 ^ 128 : Nat) : Int) := Int.ofNat_le.mpr this
    exact Int.lt_of_le_of_lt h2 (by decide)
theorem idx_rep {k : Int} : ∀ (c : List Int) (a : Int), (∀ r ∈ c, 0 ≤ r ∧ r < k) → idxU a (List.replicate c.length k) c = some (c.foldl (fun s r => s * k + r) a)
  | [], a, _ => rfl
  | r :: c, a, h => by
    have h1 := h r List.mem_cons_self
    show (if 0 ≤ r ∧ r < k then idxU (a * k + r) (List.replicate c.length k) c else none) = _
    rw [if_pos h1, idx_rep c _ fun x hx => h x (List.mem_cons_of_mem _ hx)]
    rfl
theorem ctxIx_lt {k : Nat} : ∀ (c : List Int) (a M : Int), (∀ r ∈ c, 0 ≤ r ∧ r < (k : Int)) → 0 ≤ a → a < M → 0 ≤ c.foldl (fun (s r : Int) => s * (k : Int) + r) a ∧ c.foldl (fun (s r : Int) => s * (k : Int) + r) a < M * ((k ^ c.length : Nat) : Int)
  | [], a, M, _, h0, h1 => by simp; exact ⟨h0, h1⟩
  | r :: c, a, M, h, h0, h1 => by
    have hr := h r List.mem_cons_self
    have q0 : 0 ≤ a * (k : Int) := Int.mul_nonneg h0 (by omega)
    have q1 : (a + 1) * (k : Int) ≤ M * k := Int.mul_le_mul_of_nonneg_right (by omega) (by omega)
    rw [Int.add_mul, Int.one_mul] at q1
    have := ctxIx_lt c (a * k + r) (M * k) (fun x hx => h x (List.mem_cons_of_mem _ hx)) (by omega) (by omega)
    rw [List.foldl_cons, List.length_cons, Nat.pow_succ, Int.natCast_mul, Int.mul_comm ((k ^ c.length : Nat) : Int), ← Int.mul_assoc]
    exact this
theorem ctxIx_ok {n k : Nat} {c : List Int} (hc : CtxOk n k c) : 0 ≤ ctxIx k c ∧ (ctxIx k c).toNat < k ^ n := by
  have := ctxIx_lt c 0 1 (fun r hr => ⟨hc.lo r hr, hc.hi r hr⟩) (Int.le_refl 0) (by decide)
  rw [hc.len, Int.one_mul] at this
  unfold ctxIx
  omega
theorem en_get {l : List Int} {i : Nat} {d : D} (h : ((List.range l.length).map fun (i : Nat) => D.pr [D.int (i : Int), (l.map D.int).getD i D.non])[i]? = some d) : ∃ z, l[i]? = some z ∧ d = .pr [.int i, .int z] := by
  rw [List.getElem?_map, Option.map_eq_some_iff] at h
  obtain ⟨j, hj, rfl⟩ := h
  obtain ⟨hj1, hj2⟩ := List.getElem?_eq_some_iff.mp hj
  simp at hj2
  subst hj2
  have hlt : i < l.length := by simpa using hj1
  have e : (l.map D.int).getD i D.non = .int l[i] := by simp [List.getD_eq_getElem?_getD, hlt]
  rw [e]
  exact ⟨l[i], List.getElem?_eq_getElem hlt, rfl⟩
theorem FlC.len {P : Am → Prop} {ds μ Φ Ψ} (h : FlC P ds μ Φ Ψ) : ds.length = 3 := by obtain ⟨_, _, _, _, _, _, _, rfl, _⟩ := h; rfl
end LW
set_option Elab.async false
set_option linter.all false
set_option maxRecDepth 100000
namespace LW
open PySem PySem.Spec L2 DW
def optsI (n : Nat) : List Int := (List.range n).map fun (i : Nat) => (i : Int)
theorem rngD_opts (n : Nat) : rngD 0 n = (optsI n).map .int := by
  unfold rngD optsI
  rw [List.map_map]
  exact List.map_congr_left fun i _ => by show D.int (0 + (i : Int)) = D.int (i : Int); rw [Int.zero_add]
theorem optsI_len (n : Nat) : (optsI n).length = n := by unfold optsI; rw [List.length_map, List.length_range]
/-- the rows through columns -/
def thru (cols : List (List Int)) : List (List Int) := cols.foldl (fun rows col => rows.flatMap fun r => col.map fun e => r ++ [e]) [[]]
theorem thru_snoc (cols : List (List Int)) (c : List Int) : thru (cols ++ [c]) = (thru cols).flatMap fun r => c.map fun e => r ++ [e] := by
  unfold thru
  rw [List.foldl_append]
  rfl
/-- the contexts of a size, in their order -/
def ctxs (n k : Nat) : List (List Int) := thru (List.replicate n (optsI k))
/-- the context of a number -/
def digs (k : Nat) : Nat → Nat → List Int
  | 0, _ => []
  | n + 1, p => digs k n (p / k) ++ [((p % k : Nat) : Int)]
theorem range_mul (a k : Nat) : List.range (a * k) = (List.range a).flatMap fun p => (List.range k).map fun r => p * k + r := by
  induction a with
  | zero => simp
  | succ a ih => rw [Nat.succ_mul, List.range_add, ih, List.range_succ, List.flatMap_append]; simp
theorem ctxs_eq {k : Nat} (hk : 0 < k) : ∀ n, ctxs n k = (List.range (k ^ n)).map (digs k n)
  | 0 => rfl
  | n + 1 => by
    have ih := ctxs_eq hk n
    unfold ctxs at ih ⊢
    rw [List.replicate_succ', thru_snoc, ih, Nat.pow_succ, range_mul, List.flatMap_map, List.map_flatMap]
    refine congrArg (fun f => (List.range (k ^ n)).flatMap f) (funext fun p => ?_)
    unfold optsI
    rw [List.map_map, List.map_map]
    refine List.map_congr_left fun r hr => ?_
    have hr := List.mem_range.mp hr
    show digs k n p ++ [(r : Int)] = digs k n ((p * k + r) / k) ++ [(((p * k + r) % k : Nat) : Int)]
    have e1 : (p * k + r) / k = p := by rw [Nat.mul_comm, Nat.mul_add_div hk, Nat.div_eq_of_lt hr]; omega
    have e2 : (p * k + r) % k = r := by rw [Nat.mul_comm, Nat.mul_add_mod, Nat.mod_eq_of_lt hr]
    rw [e1, e2]
theorem ctxs_len {k : Nat} (hk : 0 < k) (n : Nat) : (ctxs n k).length = k ^ n := by rw [ctxs_eq hk, List.length_map, List.length_range]
theorem digs_ok {k : Nat} (hk : 0 < k) : ∀ n p, (digs k n p).length = n ∧ ∀ z ∈ digs k n p, 0 ≤ z ∧ z < (k : Int)
  | 0, _ => ⟨rfl, fun z hz => by cases hz⟩
  | n + 1, p => by
    obtain ⟨h1, h2⟩ := digs_ok hk n (p / k)
    refine ⟨by show (digs k n (p / k) ++ [((p % k : Nat) : Int)]).length = n + 1; rw [List.length_append, h1]; rfl, fun z hz => ?_⟩
    rcases List.mem_append.mp hz with q | q
    · exact h2 z q
    · rw [List.mem_singleton.mp q]
      have := Nat.mod_lt p hk
      omega
theorem ctxs_ok {n k : Nat} (n1 : 1 ≤ n) (n64 : n ≤ 64) (k1 : 1 ≤ k) (k4 : k ≤ 4) {c : List Int} (hc : c ∈ ctxs n k) : CtxOk n k c := by
  rw [ctxs_eq k1] at hc
  obtain ⟨p, _, rfl⟩ := List.mem_map.mp hc
  obtain ⟨h1, h2⟩ := digs_ok (k := k) k1 n p
  exact ⟨h1, fun r hr => (h2 r hr).1, fun r hr => (h2 r hr).2, n1, n64, k1, k4⟩
theorem digs_split (k : Nat) : ∀ (i m p : Nat), digs k (m + i) p = digs k m (p / k ^ i) ++ digs k i p
  | 0, m, p => by simp [digs]
  | i + 1, m, p => by
    show digs k (m + i) (p / k) ++ [((p % k : Nat) : Int)] = digs k m (p / k ^ (i + 1)) ++ (digs k i (p / k) ++ [((p % k : Nat) : Int)])
    rw [digs_split k i, ← List.append_assoc, Nat.div_div_eq_div_mul, ← Nat.pow_succ']
theorem digs_cons (k i p : Nat) : digs k (i + 1) p = ((p / k ^ i % k : Nat) : Int) :: digs k i p := by
  have h3 := digs_split k i 1 p
  rw [Nat.add_comm 1 i] at h3
  rw [h3]
  simp [digs]
end LW
set_option Elab.async false
set_option linter.all false
set_option maxRecDepth 100000
namespace LW
open PySem PySem.Spec L2 DW
theorem seq_cut {ω ζ : DSt} {Ψ : XP} {Δ : DEnds} {δ : DEnv} {μ : Sto} (h : ∀ M, M = ζ Ψ Δ → ω Ψ { Δ with nx := M } δ μ) : dSeq ω ζ Ψ Δ δ μ := h _ rfl
structure Ch where
  n : Nat
  k : Nat
  row : List Int
structure ChOk (c : Ch) : Prop where
  n1 : 1 ≤ c.n
  n8 : c.n ≤ 8
  k1 : 1 ≤ c.k
  k4 : c.k ≤ 4
  sm : c.k ^ c.n ≤ 256
  len : c.row.length = c.k ^ c.n
  en : ∀ x ∈ c.row, 0 ≤ x ∧ x < (c.n : Int)
def NSA : List Str := ["options", "outcomes", "row"]
def chO (C : Addr) (c : Ch) : D := .obj C NSA [.int c.n, .int c.k, .tup (c.row.map .int)]
/-- the option in a context -/
def pk (c : Ch) (x : List Int) : Nat := (c.row.getD (ctxIx c.k x).toNat 0).toNat
def CtxO (c : Ch) (x : List Int) : Prop := x.length = c.n ∧ ∀ r ∈ x, 0 ≤ r ∧ r < (c.k : Int)
theorem CtxO.ctx {c : Ch} {x : List Int} (h : CtxO c x) (hc : ChOk c) : CtxOk c.n c.k x := ⟨h.1, fun r hr => (h.2 r hr).1, fun r hr => (h.2 r hr).2, hc.n1, by have := hc.n8; omega, hc.k1, hc.k4⟩
theorem pk_at {c : Ch} {x : List Int} (hc : ChOk c) (h : CtxO c x) : atI (c.row.map D.int) (ctxIx c.k x) = some (D.int (pk c x)) ∧ pk c x < c.n := by
  obtain ⟨h0, h1⟩ := ctxIx_ok (h.ctx hc)
  have hl : (ctxIx c.k x).toNat < c.row.length := by rw [hc.len]; exact h1
  have he := hc.en _ (List.getElem_mem hl)
  have ep : ((pk c x : Nat) : Int) = c.row[(ctxIx c.k x).toNat] := by
    unfold pk
    rw [List.getD_eq_getElem?_getD, List.getElem?_eq_getElem hl, Option.getD_some]
    omega
  refine ⟨?_, by omega⟩
  rw [ep]
  exact atI_map h0 hl
def segs : List Nat → List Int → List (List Int)
  | [], _ => []
  | m :: ms, x => x.take m :: segs ms (x.drop m)
theorem segs_len : ∀ (ms : List Nat) (x : List Int), (segs ms x).length = ms.length
  | [], _ => rfl
  | m :: ms, x => by rw [segs, List.length_cons, List.length_cons, segs_len]
theorem segs_get : ∀ {ms : List Nat} {x : List Int} {i m : Nat}, ms[i]? = some m → (segs ms x)[i]? = some ((x.drop (ms.take i).sum).take m)
  | [], _, _, _, h => by simp at h
  | m :: ms, x, 0, m', h => by simp at h; subst h; simp [segs]
  | m :: ms, x, i + 1, m', h => by
    rw [List.getElem?_cons_succ] at h
    rw [segs, List.getElem?_cons_succ, segs_get h, List.drop_drop, List.take_succ_cons, List.sum_cons]
theorem segs_snoc (ms : List Nat) (m : Nat) (x : List Int) : segs (ms ++ [m]) x = segs ms x ++ [(x.drop ms.sum).take m] := by
  induction ms generalizing x with
  | nil => simp [segs]
  | cons a ms ih => rw [List.cons_append, segs, ih, segs, List.cons_append, List.drop_drop, List.sum_cons]
/-- the answers behind, the context that is faced, the option of all -/
def ansS (gs : List Ch) (S : List (List Int)) : List Nat := List.zipWith pk gs S
def facS (S : List (List Int)) (A : List Nat) : List Int := List.zipWith (fun s a => s.getD a 0) S A
def behS (f : Ch) (gs : List Ch) (S : List (List Int)) : Nat :=
  let A := ansS gs S
  let o := pk f (facS S A)
  ((gs.take o).map (·.n)).sum + A.getD o 0
def behT (f : Ch) (gs : List Ch) (x : List Int) : Nat := behS f gs (segs (gs.map (·.n)) x)
/-- the product of two, by places; a: the answers behind -/
def mulG (n m : Nat) (f : List Int → Nat) (a : Nat → Nat) (X : Nat → Int) : Nat :=
  f ((List.range n).map fun i => X (i * m + a i)) * m + a (f ((List.range n).map fun i => X (i * m + a i)))
def mulF (n m : Nat) (f g : List Int → Nat) (X : Nat → Int) : Nat := mulG n m f (fun i => g ((List.range m).map fun j => X (i * m + j))) X
def gt (y : List Int) : Nat → Int := fun i => y.getD i 0
theorem gt_rng {m i : Nat} {X : Nat → Int} (h : i < m) : gt ((List.range m).map X) i = X i := by
  unfold gt
  rw [List.getD_eq_getElem?_getD, List.getElem?_map, List.getElem?_range h]; rfl
theorem rng_eq {m : Nat} {X Y : Nat → Int} (h : ∀ i, i < m → X i = Y i) : (List.range m).map X = (List.range m).map Y := List.map_congr_left fun i hi => h i (List.mem_range.mp hi)
theorem lt_mul {n m i j : Nat} (hi : i < n) (hj : j < m) : i * m + j < n * m := by
  have : (i + 1) * m ≤ n * m := Nat.mul_le_mul_right m hi
  rw [Nat.add_mul, Nat.one_mul] at this
  omega
theorem mul_assocF {n m l : Nat} {f g h : List Int → Nat} {X : Nat → Int} (hf : ∀ Y : Nat → Int, (∀ i, i < n → ∃ q, Y i = X q) → f ((List.range n).map Y) < n) (hg : ∀ Y : Nat → Int, (∀ i, i < m → ∃ q, Y i = X q) → g ((List.range m).map Y) < m) (hh : ∀ Y : Nat → Int, (∀ i, i < l → ∃ q, Y i = X q) → h ((List.range l).map Y) < l) :
    mulF (n * m) l (fun y => mulF n m f g (gt y)) h X = mulF n (m * l) f (fun y => mulF m l g h (gt y)) X := by
  -- the answer of h behind place j
  obtain ⟨b, hb⟩ : ∃ b : Nat → Nat, b = fun j => h ((List.range l).map fun t => X (j * l + t)) := ⟨_, rfl⟩
  have hbl : ∀ j, b j < l := fun j => by rw [hb]; exact hh _ fun i _ => ⟨_, rfl⟩
  obtain ⟨Y, hY⟩ : ∃ Y : Nat → Int, Y = fun j => X (j * l + b j) := ⟨_, rfl⟩
  have hYX : ∀ j, ∃ q, Y j = X q := fun j => ⟨j * l + b j, by rw [hY]⟩
  obtain ⟨a, ha⟩ : ∃ a : Nat → Nat, a = fun i => g ((List.range m).map fun j => Y (i * m + j)) := ⟨_, rfl⟩
  have hal : ∀ i, a i < m := fun i => by rw [ha]; exact hg _ fun j _ => hYX _
  obtain ⟨o, ho⟩ : ∃ o : Nat, o = f ((List.range n).map fun i => Y (i * m + a i)) := ⟨_, rfl⟩
  have hol : o < n := by rw [ho]; exact hf _ fun i _ => hYX _
  have G : ∀ (n m : Nat) (f : List Int → Nat) (a a' : Nat → Nat) (X X' : Nat → Int) (o : Nat), ((List.range n).map fun i => X (i * m + a i)) = (List.range n).map (fun i => X' i) → o = f ((List.range n).map fun i => X' i) → mulG n m f a X = o * m + a o := fun n m f a a' X X' o h1 h2 => by
    unfold mulG
    rw [h1, ← h2]
  have L0 : mulF n m f g (gt ((List.range (n * m)).map Y)) = o * m + a o := by
    have e1 : ∀ i, i < n → g ((List.range m).map fun j => gt ((List.range (n * m)).map Y) (i * m + j)) = a i := fun i hi => by
      rw [ha, rng_eq fun j hj => gt_rng (lt_mul hi hj)]
    unfold mulF
    rw [G n m f _ a _ (fun i => Y (i * m + a i)) o (rng_eq fun i hi => by rw [e1 i hi]; exact gt_rng (lt_mul hi (hal i))) ho, e1 o hol]
  have L : mulF (n * m) l (fun y => mulF n m f g (gt y)) h X = (o * m + a o) * l + b (o * m + a o) := by
    unfold mulF
    have q := G (n * m) l (fun y => mulF n m f g (gt y)) (fun i => h ((List.range l).map fun j => X (i * l + j))) b X Y (o * m + a o) (rng_eq fun i _ => by rw [hY, hb]) (by rw [← L0])
    refine Eq.trans q ?_
    rw [hb]
  have R0 : ∀ i, mulF m l g h (gt ((List.range (m * l)).map fun s => X (i * (m * l) + s))) = a i * l + b (i * m + a i) := fun i => by
    have ix : ∀ j t, i * (m * l) + (j * l + t) = (i * m + j) * l + t := fun j t => by rw [Nat.add_mul, Nat.mul_assoc, Nat.add_assoc]
    have e1 : ∀ j, j < m → h ((List.range l).map fun t => gt ((List.range (m * l)).map fun s => X (i * (m * l) + s)) (j * l + t)) = b (i * m + j) := fun j hj => by
      rw [hb, rng_eq fun t ht => by rw [gt_rng (lt_mul hj ht), ix]]
    unfold mulF
    rw [G m l g _ b _ (fun j => Y (i * m + j)) (a i) (rng_eq fun j hj => by rw [e1 j hj, gt_rng (lt_mul hj (hbl _)), ix, hY]) (by rw [ha]), e1 _ (hal i)]
  have R : mulF n (m * l) f (fun y => mulF m l g h (gt y)) X = o * (m * l) + (a o * l + b (o * m + a o)) := by
    unfold mulF
    have q := G n (m * l) f (fun i => mulF m l g h (gt ((List.range (m * l)).map fun j => X (i * (m * l) + j)))) a X (fun i => Y (i * m + a i)) o (rng_eq fun i hi => by
      rw [R0, hY]
      show X _ = X _
      rw [Nat.add_mul, Nat.mul_assoc, Nat.add_assoc]) ho
    refine Eq.trans q ?_
    rw [R0]
  rw [L, R, Nat.add_mul, Nat.mul_assoc, Nat.add_assoc]
theorem seg_rng {x : List Int} {i m : Nat} (h : i * m + m ≤ x.length) : (x.drop (i * m)).take m = (List.range m).map fun j => gt x (i * m + j) := by
  apply List.ext_getElem
  · rw [List.length_take, List.length_drop, List.length_map, List.length_range]; omega
  · intro j h1 h2
    rw [List.getElem_take, List.getElem_drop, List.getElem_map, List.getElem_range]
    unfold gt
    rw [List.length_map, List.length_range] at h2
    rw [List.getD_eq_getElem?_getD, List.getElem?_eq_getElem (by omega)]; rfl
theorem rep_sum (n m : Nat) : (List.replicate n m).sum = n * m := by simp
theorem segs_rep {n m : Nat} {x : List Int} (h : x.length = n * m) : segs (List.replicate n m) x = (List.range n).map fun i => (List.range m).map fun j => gt x (i * m + j) := by
  apply List.ext_getElem
  · rw [segs_len, List.length_replicate, List.length_map, List.length_range]
  · intro i h1 h2
    rw [List.length_map, List.length_range] at h2
    have e := segs_get (ms := List.replicate n m) (x := x) (i := i) (m := m) (by rw [List.getElem?_replicate, if_pos h2])
    rw [List.getElem?_eq_getElem h1] at e
    have e := Option.some.inj e
    have := lt_mul (n := n) (m := m) (i := i) (j := 0)
    have h3 : (i + 1) * m ≤ n * m := Nat.mul_le_mul_right m h2
    rw [Nat.add_mul, Nat.one_mul] at h3
    rw [e, List.take_replicate, rep_sum, Nat.min_eq_left (Nat.le_of_lt h2), seg_rng (by omega), List.getElem_map, List.getElem_range]
theorem zip_rng {α β γ : Type} (f : α → β → γ) (a : Nat → α) (b : Nat → β) (n : Nat) : List.zipWith f ((List.range n).map a) ((List.range n).map b) = (List.range n).map fun i => f (a i) (b i) := by
  rw [List.zipWith_map]
  apply List.ext_getElem
  · simp
  · intro i h1 h2; simp
theorem behT_rep {f g : Ch} {x : List Int} (hg : ∀ Y : Nat → Int, (∀ i, i < g.n → ∃ q, Y i = gt x q) → pk g ((List.range g.n).map Y) < g.n) (hf : ∀ Y : Nat → Int, (∀ i, i < f.n → ∃ q, Y i = gt x q) → pk f ((List.range f.n).map Y) < f.n) (hx : x.length = f.n * g.n) : behT f (List.replicate f.n g) x = mulF f.n g.n (pk f) (pk g) (gt x) := by
  have eg : List.replicate f.n g = (List.range f.n).map fun _ => g := by
    apply List.ext_getElem
    · simp
    · intro i h1 h2; simp
  have eA : ansS (List.replicate f.n g) (segs ((List.replicate f.n g).map (·.n)) x) = (List.range f.n).map fun i => pk g ((List.range g.n).map fun j => gt x (i * g.n + j)) := by
    unfold ansS
    rw [List.map_replicate, segs_rep hx, eg, zip_rng]
  have al : ∀ i, pk g ((List.range g.n).map fun j => gt x (i * g.n + j)) < g.n := fun i => hg _ fun j _ => ⟨_, rfl⟩
  have eF : facS (segs ((List.replicate f.n g).map (·.n)) x) (ansS (List.replicate f.n g) (segs ((List.replicate f.n g).map (·.n)) x)) = (List.range f.n).map fun i => gt x (i * g.n + pk g ((List.range g.n).map fun j => gt x (i * g.n + j))) := by
    rw [eA]
    unfold facS
    rw [List.map_replicate, segs_rep hx, zip_rng]
    exact rng_eq fun i hi => gt_rng (al i)
  unfold behT behS mulF mulG
  simp only
  rw [eF, eA]
  have ol : pk f ((List.range f.n).map fun i => gt x (i * g.n + pk g ((List.range g.n).map fun j => gt x (i * g.n + j)))) < f.n := hf _ fun i _ => ⟨_, rfl⟩
  generalize pk f ((List.range f.n).map fun i => gt x (i * g.n + pk g ((List.range g.n).map fun j => gt x (i * g.n + j)))) = o at ol
  rw [List.take_replicate, List.map_replicate, rep_sum, Nat.min_eq_left (Nat.le_of_lt ol)]
  congr 1
  rw [List.getD_eq_getElem?_getD, List.getElem?_map, List.getElem?_range ol]
  rfl
end LW
set_option Elab.async false
set_option linter.all false
set_option maxRecDepth 100000
set_option maxHeartbeats 4000000
namespace LW
open PySem PySem.Spec L2 DW PyProof.Rows
def topS (i : Nat) : Stmt := PySem.Challenge.pw_choosersrow_k15_whole_brackets_of_choose.main.body.getD i (.Pass ⟨0, 0, 0, 0⟩)
local macro_rules | `(tactic| walk_at "wp") => `(tactic| try simp only [u_star, u_rev2L, u_callR, u_binXI, u_callX, u_getX, u_restF, u_binX, u_invX, w_neB, u_methXN, u_makeSN, u_tupR1, u_lc2, u_iZM, w_zipLT, w_zipTL, u_cntL, u_lstR1O, u_fld, w_fld, w_someE, u_setF, u_methX, w_objE, u_makeS, u_sortSet, u_lstR1, u_iZipL, u_iEnL, u_idx, u_popAt, u_cntT, u_idxT, u_callF, w_maxL, w_minL, w_ixDc, w_inDc, w_repL, w_listLs, w_tplT, w_tplP, u_isE, w_isE, u_kitER, u_kitET, u_excE, u_xf, w_xf1, u_slS, u_raise1, u_iEn, w_listStr, w_lenStr, w_catStr, w_ixStr, w_inStr, w_strE, w_strI, w_strS, u_rest, cut_to, cut_from1, Int.zero_add, u_revT, w_repT, u_tupG, u_try, u_gPlain, u_gThen, u_gNil, u_yield, u_gWhile, u_while, u_isX, u_kitR, u_kitT, u_excOk, w_zipE, u_goalX, u_lc, rngD_len, Int.toNat_natCast, u_for, u_iT, u_iL, u_iR1, u_iR2, u_iZ, u_iS, w_lstE, dwipe, u_asg, u_asgS, u_ret, u_retN, u_if, u_next, u_break, u_cont, u_drop, u_raise, u_aug, u_var, u_c, u_op, u_un, u_test, u_and, u_or, u_not, u_yes, u_andV, u_orV, u_notV, u_ifE, u_chain, u_nil, u_cons, u_tup, u_lst, u_own, u_cb, u_call, u_callS, u_name, u_etup, u_enil, u_econs, u_sub, u_app, u_slT, u_slL, u_noPart, u_part, u_revL, ex_some, w_I0, w_I, w_uI, w_int, w_bl, w_isi, w_someb, w_eqI, w_neI, w_eqS, w_neS, w_lenT, w_lenL, w_lenS, w_tupL, w_tupT, w_ixT, w_ixL, w_ixS, w_catT, w_catL, w_all, w_any, w_min2, w_divmod, w_listS, w_listL, w_listT, w_isN, w_notN, w_tupE, w_intE, w_consE, w_hdE, w_cellS, w_set, at0, at1, at2, at3, i_tT, i_tI, i_tB, i_tS, i_nT, i_nI, i_nB, i_nS, i_iT, i_iI, i_iB, i_iS, i_bT, i_bI, i_bB, i_bS, i_sT, i_sI, i_sB, i_sS, v_itemsS, w_eqB, isNone, dstart, List.map, List.length, List.replicate, List.cons_append, List.nil_append, List.append_nil, List.getElem?_cons_zero, List.getElem?_cons_succ, List.set_cons_zero, List.set_cons_succ, ix40, ix42, ix43, true_implies, false_implies, and_true, true_and, Bool.not_true, Bool.not_false, decide_eq_true_eq, decide_eq_false_iff_not, List.length_map, Nat.reduceAdd, reduceCtorEq, v_ixH, v_items, v_itemsT, v_itemsL, v_len, v_tuple, v_list, v_listOwn, sset_same, sset_sset, Option.some.injEq, Cell.lst.injEq, Cell.frz.injEq, false_and, exists_false, or_false, false_or, exists_eq_left', ne_eq, not_false_eq_true, isTup, Bool.true_eq_false, Bool.false_eq_true])
local macro_rules | `(tactic| walk_at "wps") => `(tactic| try simp only [u_seq, u_star, u_rev2L, u_callR, u_binXI, u_callX, u_getX, u_restF, u_binX, u_invX, w_neB, u_methXN, u_makeSN, u_tupR1, u_lc2, u_iZM, w_zipLT, w_zipTL, u_cntL, u_lstR1O, u_fld, w_fld, w_someE, u_setF, u_methX, w_objE, u_makeS, u_sortSet, u_lstR1, u_iZipL, u_iEnL, u_idx, u_popAt, u_cntT, u_idxT, u_callF, w_maxL, w_minL, w_ixDc, w_inDc, w_repL, w_listLs, w_tplT, w_tplP, u_isE, w_isE, u_kitER, u_kitET, u_excE, u_xf, w_xf1, u_slS, u_raise1, u_iEn, w_listStr, w_lenStr, w_catStr, w_ixStr, w_inStr, w_strE, w_strI, w_strS, u_rest, cut_to, cut_from1, Int.zero_add, u_revT, w_repT, u_tupG, u_try, u_gPlain, u_gThen, u_gNil, u_yield, u_gWhile, u_while, u_isX, u_kitR, u_kitT, u_excOk, w_zipE, u_goalX, u_lc, rngD_len, Int.toNat_natCast, u_for, u_iT, u_iL, u_iR1, u_iR2, u_iZ, u_iS, w_lstE, dwipe, u_asg, u_asgS, u_ret, u_retN, u_if, u_next, u_break, u_cont, u_drop, u_raise, u_aug, u_var, u_c, u_op, u_un, u_test, u_and, u_or, u_not, u_yes, u_andV, u_orV, u_notV, u_ifE, u_chain, u_nil, u_cons, u_tup, u_lst, u_own, u_cb, u_call, u_callS, u_name, u_etup, u_enil, u_econs, u_sub, u_app, u_slT, u_slL, u_noPart, u_part, u_revL, ex_some, w_I0, w_I, w_uI, w_int, w_bl, w_isi, w_someb, w_eqI, w_neI, w_eqS, w_neS, w_lenT, w_lenL, w_lenS, w_tupL, w_tupT, w_ixT, w_ixL, w_ixS, w_catT, w_catL, w_all, w_any, w_min2, w_divmod, w_listS, w_listL, w_listT, w_isN, w_notN, w_tupE, w_intE, w_consE, w_hdE, w_cellS, w_set, at0, at1, at2, at3, i_tT, i_tI, i_tB, i_tS, i_nT, i_nI, i_nB, i_nS, i_iT, i_iI, i_iB, i_iS, i_bT, i_bI, i_bB, i_bS, i_sT, i_sI, i_sB, i_sS, v_itemsS, w_eqB, isNone, dstart, List.map, List.length, List.replicate, List.cons_append, List.nil_append, List.append_nil, List.getElem?_cons_zero, List.getElem?_cons_succ, List.set_cons_zero, List.set_cons_succ, ix40, ix42, ix43, true_implies, false_implies, and_true, true_and, Bool.not_true, Bool.not_false, decide_eq_true_eq, decide_eq_false_iff_not, List.length_map, Nat.reduceAdd, reduceCtorEq, v_ixH, v_items, v_itemsT, v_itemsL, v_len, v_tuple, v_list, v_listOwn, sset_same, sset_sset, Option.some.injEq, Cell.lst.injEq, Cell.frz.injEq, false_and, exists_false, or_false, false_or, exists_eq_left', ne_eq, not_false_eq_true, isTup, Bool.true_eq_false, Bool.false_eq_true])
abbrev s_is_number : Stmt := topS 17
abbrev N_is_number : List Str := ["value"]
theorem sc_is_number : FnScope N_is_number ["value"] (defScope s_is_number) := ⟨rfl, rfl, rfl, by decide +kernel, rfl, by decide +kernel, by decide +kernel⟩
abbrev s_is_below : Stmt := topS 18
abbrev N_is_below : List Str := ["value", "limit"]
theorem sc_is_below : FnScope N_is_below ["value", "limit"] (defScope s_is_below) := ⟨rfl, rfl, rfl, by decide +kernel, rfl, by decide +kernel, by decide +kernel⟩
abbrev s_count_choices : Stmt := topS 29
abbrev N_count_choices : List Str := ["widths", "many", "width"]
theorem sc_count_choices : FnScope N_count_choices ["widths"] (defScope s_count_choices) := ⟨rfl, rfl, rfl, by decide +kernel, rfl, by decide +kernel, by decide +kernel⟩
abbrev s_choice_index : Stmt := topS 30
abbrev N_choice_index : List Str := ["widths", "choice", "index", "width", "entry"]
theorem sc_choice_index : FnScope N_choice_index ["widths", "choice"] (defScope s_choice_index) := ⟨rfl, rfl, rfl, by decide +kernel, rfl, by decide +kernel, by decide +kernel⟩
abbrev s_has_outcomes : Stmt := topS 35
abbrev N_has_outcomes : List Str := ["outcomes"]
theorem sc_has_outcomes : FnScope N_has_outcomes ["outcomes"] (defScope s_has_outcomes) := ⟨rfl, rfl, rfl, by decide +kernel, rfl, by decide +kernel, by decide +kernel⟩
abbrev s_is_small : Stmt := topS 36
abbrev N_is_small : List Str := ["options", "outcomes"]
theorem sc_is_small : FnScope N_is_small ["options", "outcomes"] (defScope s_is_small) := ⟨rfl, rfl, rfl, by decide +kernel, rfl, by decide +kernel, by decide +kernel⟩
abbrev s_require_same_outcomes : Stmt := topS 37
abbrev N_require_same_outcomes : List Str := ["first", "others", "other"]
theorem sc_require_same_outcomes : FnScope N_require_same_outcomes ["first", "others"] (defScope s_require_same_outcomes) := ⟨rfl, rfl, rfl, by decide +kernel, rfl, by decide +kernel, by decide +kernel⟩
abbrev s_count_contexts : Stmt := topS 38
abbrev N_count_contexts : List Str := ["options", "outcomes"]
theorem sc_count_contexts : FnScope N_count_contexts ["options", "outcomes"] (defScope s_count_contexts) := ⟨rfl, rfl, rfl, by decide +kernel, rfl, by decide +kernel, by decide +kernel⟩
abbrev s_rows_through : Stmt := topS 39
abbrev N_rows_through : List Str := ["columns", "rows", "column", "row", "entry"]
theorem sc_rows_through : FnScope N_rows_through ["columns"] (defScope s_rows_through) := ⟨rfl, rfl, rfl, by decide +kernel, rfl, by decide +kernel, by decide +kernel⟩
abbrev s_all_contexts : Stmt := topS 40
abbrev N_all_contexts : List Str := ["options", "outcomes"]
theorem sc_all_contexts : FnScope N_all_contexts ["options", "outcomes"] (defScope s_all_contexts) := ⟨rfl, rfl, rfl, by decide +kernel, rfl, by decide +kernel, by decide +kernel⟩
abbrev s_context_index : Stmt := topS 42
abbrev N_context_index : List Str := ["context", "outcomes"]
theorem sc_context_index : FnScope N_context_index ["context", "outcomes"] (defScope s_context_index) := ⟨rfl, rfl, rfl, by decide +kernel, rfl, by decide +kernel, by decide +kernel⟩
abbrev s_segments_of : Stmt := topS 43
abbrev N_segments_of : List Str := ["sizes", "entries", "segments", "start", "size"]
theorem sc_segments_of : FnScope N_segments_of ["sizes", "entries"] (defScope s_segments_of) := ⟨rfl, rfl, rfl, by decide +kernel, rfl, by decide +kernel, by decide +kernel⟩
abbrev s_wrong_index : Stmt := topS 46
abbrev N_wrong_index : List Str := ["options", "outcomes", "row", "many", "index", "option"]
theorem sc_wrong_index : FnScope N_wrong_index ["options", "outcomes", "row"] (defScope s_wrong_index) := ⟨rfl, rfl, rfl, by decide +kernel, rfl, by decide +kernel, by decide +kernel⟩
abbrev s_row_behind : Stmt := topS 47
abbrev N_row_behind : List Str := ["first", "nexts", "sizes", "contexts", "chooser", "context"]
theorem sc_row_behind : FnScope N_row_behind ["first", "nexts"] (defScope s_row_behind) := ⟨rfl, rfl, rfl, by decide +kernel, rfl, by decide +kernel, by decide +kernel⟩
abbrev s_option_behind : Stmt := topS 48
abbrev N_option_behind : List Str := ["first", "nexts", "segments", "answers", "option", "chooser"]
theorem sc_option_behind : FnScope N_option_behind ["first", "nexts", "segments"] (defScope s_option_behind) := ⟨rfl, rfl, rfl, by decide +kernel, rfl, by decide +kernel, by decide +kernel⟩
abbrev s_segment_answers : Stmt := topS 49
abbrev N_segment_answers : List Str := ["choosers", "segments", "chooser", "segment"]
theorem sc_segment_answers : FnScope N_segment_answers ["choosers", "segments"] (defScope s_segment_answers) := ⟨rfl, rfl, rfl, by decide +kernel, rfl, by decide +kernel, by decide +kernel⟩
abbrev s_answered_context : Stmt := topS 50
abbrev N_answered_context : List Str := ["segments", "answers", "segment", "answer"]
theorem sc_answered_context : FnScope N_answered_context ["segments", "answers"] (defScope s_answered_context) := ⟨rfl, rfl, rfl, by decide +kernel, rfl, by decide +kernel, by decide +kernel⟩
abbrev s_picked_option : Stmt := topS 51
abbrev N_picked_option : List Str := ["chooser", "context"]
theorem sc_picked_option : FnScope N_picked_option ["chooser", "context"] (defScope s_picked_option) := ⟨rfl, rfl, rfl, by decide +kernel, rfl, by decide +kernel, by decide +kernel⟩
abbrev s_Chooser___init__ : Stmt := clsS (topS 52) 0
abbrev N_Chooser___init__ : List Str := ["self", "options", "outcomes", "row", "index"]
theorem sc_Chooser___init__ : FnScope N_Chooser___init__ ["self", "options", "outcomes", "row"] (defScope s_Chooser___init__) := ⟨rfl, rfl, rfl, by decide +kernel, rfl, by decide +kernel, by decide +kernel⟩
abbrev s_Chooser___mul__ : Stmt := clsS (topS 52) 2
abbrev N_Chooser___mul__ : List Str := ["self", "other", "options"]
theorem sc_Chooser___mul__ : FnScope N_Chooser___mul__ ["self", "other"] (defScope s_Chooser___mul__) := ⟨rfl, rfl, rfl, by decide +kernel, rfl, by decide +kernel, by decide +kernel⟩
abbrev s_Chooser___pow__ : Stmt := clsS (topS 52) 3
abbrev N_Chooser___pow__ : List Str := ["self", "other", "power", "_"]
theorem sc_Chooser___pow__ : FnScope N_Chooser___pow__ ["self", "other"] (defScope s_Chooser___pow__) := ⟨rfl, rfl, rfl, by decide +kernel, rfl, by decide +kernel, by decide +kernel⟩
abbrev s_require_followed : Stmt := topS 54
abbrev N_require_followed : List Str := ["first", "nexts"]
theorem sc_require_followed : FnScope N_require_followed ["first", "nexts"] (defScope s_require_followed) := ⟨rfl, rfl, rfl, by decide +kernel, rfl, by decide +kernel, by decide +kernel⟩
abbrev s_require_small_behind : Stmt := topS 55
abbrev N_require_small_behind : List Str := ["first", "nexts"]
theorem sc_require_small_behind : FnScope N_require_small_behind ["first", "nexts"] (defScope s_require_small_behind) := ⟨rfl, rfl, rfl, by decide +kernel, rfl, by decide +kernel, by decide +kernel⟩
abbrev s_option_counts : Stmt := topS 56
abbrev N_option_counts : List Str := ["nexts", "each"]
theorem sc_option_counts : FnScope N_option_counts ["nexts"] (defScope s_option_counts) := ⟨rfl, rfl, rfl, by decide +kernel, rfl, by decide +kernel, by decide +kernel⟩
abbrev s_put_behind : Stmt := topS 57
abbrev N_put_behind : List Str := ["first", "nexts"]
theorem sc_put_behind : FnScope N_put_behind ["first", "nexts"] (defScope s_put_behind) := ⟨rfl, rfl, rfl, by decide +kernel, rfl, by decide +kernel, by decide +kernel⟩
abbrev s_put_in_turn : Stmt := topS 58
abbrev N_put_in_turn : List Str := ["first", "rest", "choosers", "joined", "chooser"]
theorem sc_put_in_turn : FnScope N_put_in_turn ["first", "rest"] (defScope s_put_in_turn) := ⟨rfl, rfl, rfl, by decide +kernel, rfl, by decide +kernel, by decide +kernel⟩
abbrev s__law_start : Stmt := topS 60
abbrev N__law_start : List Str := ["_law_script", "_law_seed", "_law_k"]
theorem sc__law_start : FnScope N__law_start ["_law_script"] (defScope s__law_start) := ⟨rfl, rfl, rfl, by decide +kernel, rfl, by decide +kernel, by decide +kernel⟩
abbrev s__law_pick : Stmt := topS 61
abbrev N__law_pick : List Str := ["_law_state", "_law_limit_here", "_law_cell", "_law_mixed", "_law_rest"]
theorem sc__law_pick : FnScope N__law_pick ["_law_state", "_law_limit_here"] (defScope s__law_pick) := ⟨rfl, rfl, rfl, by decide +kernel, rfl, by decide +kernel, by decide +kernel⟩
abbrev s__law_same : Stmt := topS 62
abbrev N__law_same : List Str := ["_law_actual", "_law_due", "_law_p"]
theorem sc__law_same : FnScope N__law_same ["_law_actual", "_law_due"] (defScope s__law_same) := ⟨rfl, rfl, rfl, by decide +kernel, rfl, by decide +kernel, by decide +kernel⟩
abbrev s__law_contexts : Stmt := topS 63
abbrev N__law_contexts : List Str := ["_law_n", "_law_k", "_law_many", "_law_x"]
theorem sc__law_contexts : FnScope N__law_contexts ["_law_n", "_law_k"] (defScope s__law_contexts) := ⟨rfl, rfl, rfl, by decide +kernel, rfl, by decide +kernel, by decide +kernel⟩
abbrev s__law_context : Stmt := topS 64
abbrev N__law_context : List Str := ["_law_number_here", "_law_n", "_law_k", "_law_entries", "_law_rest", "_law_x"]
theorem sc__law_context : FnScope N__law_context ["_law_number_here", "_law_n", "_law_k"] (defScope s__law_context) := ⟨rfl, rfl, rfl, by decide +kernel, rfl, by decide +kernel, by decide +kernel⟩
abbrev s__law_number : Stmt := topS 65
abbrev N__law_number : List Str := ["_law_k", "_law_context_here", "_law_number_here", "_law_r"]
theorem sc__law_number : FnScope N__law_number ["_law_k", "_law_context_here"] (defScope s__law_number) := ⟨rfl, rfl, rfl, by decide +kernel, rfl, by decide +kernel, by decide +kernel⟩
abbrev s__law_row : Stmt := topS 66
abbrev N__law_row : List Str := ["_law_state", "_law_n", "_law_k", "_law_p"]
theorem sc__law_row : FnScope N__law_row ["_law_state", "_law_n", "_law_k"] (defScope s__law_row) := ⟨rfl, rfl, rfl, by decide +kernel, rfl, by decide +kernel, by decide +kernel⟩
abbrev s__law_segments : Stmt := topS 67
abbrev N__law_segments : List Str := ["_law_sizes", "_law_context_here", "_law_segments_here", "_law_at", "_law_size"]
theorem sc__law_segments : FnScope N__law_segments ["_law_sizes", "_law_context_here"] (defScope s__law_segments) := ⟨rfl, rfl, rfl, by decide +kernel, rfl, by decide +kernel, by decide +kernel⟩
abbrev s__law_put : Stmt := topS 68
abbrev N__law_put : List Str := ["_law_row_here", "_law_rows", "_law_sizes", "_law_k", "_law_context_here", "_law_segments_here", "_law_answers", "_law_x", "_law_z"]
theorem sc__law_put : FnScope N__law_put ["_law_row_here", "_law_rows", "_law_sizes", "_law_k", "_law_context_here"] (defScope s__law_put) := ⟨rfl, rfl, rfl, by decide +kernel, rfl, by decide +kernel, by decide +kernel⟩
abbrev s__law_limit : Stmt := topS 69
abbrev N__law_limit : List Str := ["_law_state", "_law_k"]
theorem sc__law_limit : FnScope N__law_limit ["_law_state", "_law_k"] (defScope s__law_limit) := ⟨rfl, rfl, rfl, by decide +kernel, rfl, by decide +kernel, by decide +kernel⟩
abbrev s__law_nested : Stmt := topS 70
abbrev N__law_nested : List Str := ["_law_state", "_law_k", "_law_left", "_law_many", "_law_levels", "_law_level", "_law_sizes", "_law_p", "_law_more"]
theorem sc__law_nested : FnScope N__law_nested ["_law_state", "_law_k"] (defScope s__law_nested) := ⟨rfl, rfl, rfl, by decide +kernel, rfl, by decide +kernel, by decide +kernel⟩
abbrev s__law_put_row : Stmt := topS 71
abbrev N__law_put_row : List Str := ["_law_row_here", "_law_rows", "_law_sizes", "_law_k", "_law_many", "_law_p"]
theorem sc__law_put_row : FnScope N__law_put_row ["_law_row_here", "_law_rows", "_law_sizes", "_law_k"] (defScope s__law_put_row) := ⟨rfl, rfl, rfl, by decide +kernel, rfl, by decide +kernel, by decide +kernel⟩
abbrev s__law_fits : Stmt := topS 72
abbrev N__law_fits : List Str := ["_law_chooser", "_law_n", "_law_k", "_law_row_here"]
theorem sc__law_fits : FnScope N__law_fits ["_law_chooser", "_law_n", "_law_k", "_law_row_here"] (defScope s__law_fits) := ⟨rfl, rfl, rfl, by decide +kernel, rfl, by decide +kernel, by decide +kernel⟩
abbrev s__law_brackets : Stmt := topS 73
abbrev N__law_brackets : List Str := ["_law_state", "_law_k", "_law_levels", "_law_sizes", "_law_n", "_law_row_here", "_law_rows", "_law_ends", "_law_first", "_law_nexts", "_law_lasts", "_law_due", "_law_many", "_law_parts", "_law_at", "_law_z", "_law_whole", "_law_single", "_law_size", "_law_p"]
theorem sc__law_brackets : FnScope N__law_brackets ["_law_state", "_law_k"] (defScope s__law_brackets) := ⟨rfl, rfl, rfl, by decide +kernel, rfl, by decide +kernel, by decide +kernel⟩
abbrev s__law_sizes_in_turn : Stmt := topS 74
abbrev N__law_sizes_in_turn : List Str := ["_law_state", "_law_k", "_law_left", "_law_sizes", "_law_p"]
theorem sc__law_sizes_in_turn : FnScope N__law_sizes_in_turn ["_law_state", "_law_k"] (defScope s__law_sizes_in_turn) := ⟨rfl, rfl, rfl, by decide +kernel, rfl, by decide +kernel, by decide +kernel⟩
abbrev s__law_turned_row : Stmt := topS 75
abbrev N__law_turned_row : List Str := ["_law_rows", "_law_sizes", "_law_k", "_law_row_here", "_law_many", "_law_back", "_law_n"]
theorem sc__law_turned_row : FnScope N__law_turned_row ["_law_rows", "_law_sizes", "_law_k"] (defScope s__law_turned_row) := ⟨rfl, rfl, rfl, by decide +kernel, rfl, by decide +kernel, by decide +kernel⟩
abbrev s__law_in_turn : Stmt := topS 76
abbrev N__law_in_turn : List Str := ["_law_parts"]
theorem sc__law_in_turn : FnScope N__law_in_turn ["_law_parts"] (defScope s__law_in_turn) := ⟨rfl, rfl, rfl, by decide +kernel, rfl, by decide +kernel, by decide +kernel⟩
abbrev s__law_power : Stmt := topS 77
abbrev N__law_power : List Str := ["_law_part", "_law_exponent"]
theorem sc__law_power : FnScope N__law_power ["_law_part", "_law_exponent"] (defScope s__law_power) := ⟨rfl, rfl, rfl, by decide +kernel, rfl, by decide +kernel, by decide +kernel⟩
abbrev s__law_do : Stmt := topS 78
abbrev N__law_do : List Str := ["_law_door", "_law_first", "_law_second", "e", "_law_made", "_law_kinds", "_law_beside", "_law_kind"]
theorem sc__law_do : FnScope N__law_do ["_law_door", "_law_first", "_law_second"] (defScope s__law_do) := ⟨rfl, rfl, rfl, by decide +kernel, rfl, by decide +kernel, by decide +kernel⟩
abbrev s__law_products : Stmt := topS 79
abbrev N__law_products : List Str := ["_law_state", "_law_k", "_law_sizes", "_law_rows", "_law_parts", "_law_row_here", "_law_many", "_law_size", "_law_right", "_law_back", "_law_left", "_law_part", "_law_before", "_law_p"]
theorem sc__law_products : FnScope N__law_products ["_law_state", "_law_k"] (defScope s__law_products) := ⟨rfl, rfl, rfl, by decide +kernel, rfl, by decide +kernel, by decide +kernel⟩
abbrev s__law_powers : Stmt := topS 80
abbrev N__law_powers : List Str := ["_law_state", "_law_part", "_law_n", "_law_row_here", "_law_k", "_law_exponent", "_law_many", "_law_turn", "_law_due"]
theorem sc__law_powers : FnScope N__law_powers ["_law_state", "_law_part", "_law_n", "_law_row_here", "_law_k"] (defScope s__law_powers) := ⟨rfl, rfl, rfl, by decide +kernel, rfl, by decide +kernel, by decide +kernel⟩
abbrev s__law_refused : Stmt := topS 81
abbrev N__law_refused : List Str := ["_law_k", "_law_part", "_law_large", "_law_turned", "_law_other", "_law_pair", "_law_parts", "_law_exponent"]
theorem sc__law_refused : FnScope N__law_refused ["_law_k", "_law_part"] (defScope s__law_refused) := ⟨rfl, rfl, rfl, by decide +kernel, rfl, by decide +kernel, by decide +kernel⟩
abbrev s_law : Stmt := topS 82
abbrev N_law : List Str := ["_law_script", "_law_state", "_law_k", "_law_n"]
theorem sc_law : FnScope N_law ["_law_script"] (defScope s_law) := ⟨rfl, rfl, rfl, by decide +kernel, rfl, by decide +kernel, by decide +kernel⟩
set_option genInjectivity false in
structure Txt (P : Program) (w : World) (K : Fg) (mg : Str → Option Value) where
  f_is_number : Addr
  d_is_number : FuncData
  F_is_number : Fun K "is_number" "is_number" s_is_number f_is_number d_is_number
  g_is_number : mg "is_number" = some (.ref f_is_number)
  b_is_number : Binds K d_is_number ["value"] []
  f_is_below : Addr
  d_is_below : FuncData
  F_is_below : Fun K "is_below" "is_below" s_is_below f_is_below d_is_below
  g_is_below : mg "is_below" = some (.ref f_is_below)
  b_is_below : Binds K d_is_below ["value", "limit"] []
  f_count_choices : Addr
  d_count_choices : FuncData
  F_count_choices : Fun K "count_choices" "count_choices" s_count_choices f_count_choices d_count_choices
  g_count_choices : mg "count_choices" = some (.ref f_count_choices)
  b_count_choices : Binds K d_count_choices ["widths"] []
  f_choice_index : Addr
  d_choice_index : FuncData
  F_choice_index : Fun K "choice_index" "choice_index" s_choice_index f_choice_index d_choice_index
  g_choice_index : mg "choice_index" = some (.ref f_choice_index)
  b_choice_index : Binds K d_choice_index ["widths", "choice"] []
  f_has_outcomes : Addr
  d_has_outcomes : FuncData
  F_has_outcomes : Fun K "has_outcomes" "has_outcomes" s_has_outcomes f_has_outcomes d_has_outcomes
  g_has_outcomes : mg "has_outcomes" = some (.ref f_has_outcomes)
  b_has_outcomes : Binds K d_has_outcomes ["outcomes"] []
  f_is_small : Addr
  d_is_small : FuncData
  F_is_small : Fun K "is_small" "is_small" s_is_small f_is_small d_is_small
  g_is_small : mg "is_small" = some (.ref f_is_small)
  b_is_small : Binds K d_is_small ["options", "outcomes"] []
  f_require_same_outcomes : Addr
  d_require_same_outcomes : FuncData
  F_require_same_outcomes : Fun K "require_same_outcomes" "require_same_outcomes" s_require_same_outcomes f_require_same_outcomes d_require_same_outcomes
  g_require_same_outcomes : mg "require_same_outcomes" = some (.ref f_require_same_outcomes)
  b_require_same_outcomes : Binds K d_require_same_outcomes ["first", "others"] []
  f_count_contexts : Addr
  d_count_contexts : FuncData
  F_count_contexts : Fun K "count_contexts" "count_contexts" s_count_contexts f_count_contexts d_count_contexts
  g_count_contexts : mg "count_contexts" = some (.ref f_count_contexts)
  b_count_contexts : Binds K d_count_contexts ["options", "outcomes"] []
  f_rows_through : Addr
  d_rows_through : FuncData
  F_rows_through : Fun K "rows_through" "rows_through" s_rows_through f_rows_through d_rows_through
  g_rows_through : mg "rows_through" = some (.ref f_rows_through)
  b_rows_through : Binds K d_rows_through ["columns"] []
  f_all_contexts : Addr
  d_all_contexts : FuncData
  F_all_contexts : Fun K "all_contexts" "all_contexts" s_all_contexts f_all_contexts d_all_contexts
  g_all_contexts : mg "all_contexts" = some (.ref f_all_contexts)
  b_all_contexts : Binds K d_all_contexts ["options", "outcomes"] []
  f_context_index : Addr
  d_context_index : FuncData
  F_context_index : Fun K "context_index" "context_index" s_context_index f_context_index d_context_index
  g_context_index : mg "context_index" = some (.ref f_context_index)
  b_context_index : Binds K d_context_index ["context", "outcomes"] []
  f_segments_of : Addr
  d_segments_of : FuncData
  F_segments_of : Fun K "segments_of" "segments_of" s_segments_of f_segments_of d_segments_of
  g_segments_of : mg "segments_of" = some (.ref f_segments_of)
  b_segments_of : Binds K d_segments_of ["sizes", "entries"] []
  f_wrong_index : Addr
  d_wrong_index : FuncData
  F_wrong_index : Fun K "wrong_index" "wrong_index" s_wrong_index f_wrong_index d_wrong_index
  g_wrong_index : mg "wrong_index" = some (.ref f_wrong_index)
  b_wrong_index : Binds K d_wrong_index ["options", "outcomes", "row"] []
  f_row_behind : Addr
  d_row_behind : FuncData
  F_row_behind : Fun K "row_behind" "row_behind" s_row_behind f_row_behind d_row_behind
  g_row_behind : mg "row_behind" = some (.ref f_row_behind)
  b_row_behind : Binds K d_row_behind ["first", "nexts"] []
  f_option_behind : Addr
  d_option_behind : FuncData
  F_option_behind : Fun K "option_behind" "option_behind" s_option_behind f_option_behind d_option_behind
  g_option_behind : mg "option_behind" = some (.ref f_option_behind)
  b_option_behind : Binds K d_option_behind ["first", "nexts", "segments"] []
  f_segment_answers : Addr
  d_segment_answers : FuncData
  F_segment_answers : Fun K "segment_answers" "segment_answers" s_segment_answers f_segment_answers d_segment_answers
  g_segment_answers : mg "segment_answers" = some (.ref f_segment_answers)
  b_segment_answers : Binds K d_segment_answers ["choosers", "segments"] []
  f_answered_context : Addr
  d_answered_context : FuncData
  F_answered_context : Fun K "answered_context" "answered_context" s_answered_context f_answered_context d_answered_context
  g_answered_context : mg "answered_context" = some (.ref f_answered_context)
  b_answered_context : Binds K d_answered_context ["segments", "answers"] []
  f_picked_option : Addr
  d_picked_option : FuncData
  F_picked_option : Fun K "picked_option" "picked_option" s_picked_option f_picked_option d_picked_option
  g_picked_option : mg "picked_option" = some (.ref f_picked_option)
  b_picked_option : Binds K d_picked_option ["chooser", "context"] []
  f_Chooser___init__ : Addr
  d_Chooser___init__ : FuncData
  F_Chooser___init__ : Fun K "__init__" "Chooser.__init__" s_Chooser___init__ f_Chooser___init__ d_Chooser___init__
  b_Chooser___init__ : Binds K d_Chooser___init__ ["self", "options", "outcomes", "row"] []
  f_Chooser___mul__ : Addr
  d_Chooser___mul__ : FuncData
  F_Chooser___mul__ : Fun K "__mul__" "Chooser.__mul__" s_Chooser___mul__ f_Chooser___mul__ d_Chooser___mul__
  b_Chooser___mul__ : Binds K d_Chooser___mul__ ["self", "other"] []
  f_Chooser___pow__ : Addr
  d_Chooser___pow__ : FuncData
  F_Chooser___pow__ : Fun K "__pow__" "Chooser.__pow__" s_Chooser___pow__ f_Chooser___pow__ d_Chooser___pow__
  b_Chooser___pow__ : Binds K d_Chooser___pow__ ["self", "other"] []
  f_require_followed : Addr
  d_require_followed : FuncData
  F_require_followed : Fun K "require_followed" "require_followed" s_require_followed f_require_followed d_require_followed
  g_require_followed : mg "require_followed" = some (.ref f_require_followed)
  b_require_followed : Binds K d_require_followed ["first", "nexts"] []
  f_require_small_behind : Addr
  d_require_small_behind : FuncData
  F_require_small_behind : Fun K "require_small_behind" "require_small_behind" s_require_small_behind f_require_small_behind d_require_small_behind
  g_require_small_behind : mg "require_small_behind" = some (.ref f_require_small_behind)
  b_require_small_behind : Binds K d_require_small_behind ["first", "nexts"] []
  f_option_counts : Addr
  d_option_counts : FuncData
  F_option_counts : Fun K "option_counts" "option_counts" s_option_counts f_option_counts d_option_counts
  g_option_counts : mg "option_counts" = some (.ref f_option_counts)
  b_option_counts : Binds K d_option_counts ["nexts"] []
  f_put_behind : Addr
  d_put_behind : FuncData
  F_put_behind : Fun K "put_behind" "put_behind" s_put_behind f_put_behind d_put_behind
  g_put_behind : mg "put_behind" = some (.ref f_put_behind)
  b_put_behind : Binds K d_put_behind ["first", "nexts"] []
  f_put_in_turn : Addr
  d_put_in_turn : FuncData
  F_put_in_turn : Fun K "put_in_turn" "put_in_turn" s_put_in_turn f_put_in_turn d_put_in_turn
  g_put_in_turn : mg "put_in_turn" = some (.ref f_put_in_turn)
  b_put_in_turn : ∀ us rest : List Value, us.length = (["first"] : List Str).length → bindArgs d_put_in_turn ⟨us ++ rest, []⟩ = (newTuple rest >>= fun t => pure ((["first"] : List Str).zip us ++ [(("rest" : Str), t)]))
  f__law_start : Addr
  d__law_start : FuncData
  F__law_start : Fun K "_law_start" "_law_start" s__law_start f__law_start d__law_start
  g__law_start : mg "_law_start" = some (.ref f__law_start)
  b__law_start : Binds K d__law_start ["_law_script"] []
  f__law_pick : Addr
  d__law_pick : FuncData
  F__law_pick : Fun K "_law_pick" "_law_pick" s__law_pick f__law_pick d__law_pick
  g__law_pick : mg "_law_pick" = some (.ref f__law_pick)
  b__law_pick : Binds K d__law_pick ["_law_state", "_law_limit_here"] []
  f__law_same : Addr
  d__law_same : FuncData
  F__law_same : Fun K "_law_same" "_law_same" s__law_same f__law_same d__law_same
  g__law_same : mg "_law_same" = some (.ref f__law_same)
  b__law_same : Binds K d__law_same ["_law_actual", "_law_due"] []
  f__law_contexts : Addr
  d__law_contexts : FuncData
  F__law_contexts : Fun K "_law_contexts" "_law_contexts" s__law_contexts f__law_contexts d__law_contexts
  g__law_contexts : mg "_law_contexts" = some (.ref f__law_contexts)
  b__law_contexts : Binds K d__law_contexts ["_law_n", "_law_k"] []
  f__law_context : Addr
  d__law_context : FuncData
  F__law_context : Fun K "_law_context" "_law_context" s__law_context f__law_context d__law_context
  g__law_context : mg "_law_context" = some (.ref f__law_context)
  b__law_context : Binds K d__law_context ["_law_number_here", "_law_n", "_law_k"] []
  f__law_number : Addr
  d__law_number : FuncData
  F__law_number : Fun K "_law_number" "_law_number" s__law_number f__law_number d__law_number
  g__law_number : mg "_law_number" = some (.ref f__law_number)
  b__law_number : Binds K d__law_number ["_law_k", "_law_context_here"] []
  f__law_row : Addr
  d__law_row : FuncData
  F__law_row : Fun K "_law_row" "_law_row" s__law_row f__law_row d__law_row
  g__law_row : mg "_law_row" = some (.ref f__law_row)
  b__law_row : Binds K d__law_row ["_law_state", "_law_n", "_law_k"] []
  f__law_segments : Addr
  d__law_segments : FuncData
  F__law_segments : Fun K "_law_segments" "_law_segments" s__law_segments f__law_segments d__law_segments
  g__law_segments : mg "_law_segments" = some (.ref f__law_segments)
  b__law_segments : Binds K d__law_segments ["_law_sizes", "_law_context_here"] []
  f__law_put : Addr
  d__law_put : FuncData
  F__law_put : Fun K "_law_put" "_law_put" s__law_put f__law_put d__law_put
  g__law_put : mg "_law_put" = some (.ref f__law_put)
  b__law_put : Binds K d__law_put ["_law_row_here", "_law_rows", "_law_sizes", "_law_k", "_law_context_here"] []
  f__law_limit : Addr
  d__law_limit : FuncData
  F__law_limit : Fun K "_law_limit" "_law_limit" s__law_limit f__law_limit d__law_limit
  g__law_limit : mg "_law_limit" = some (.ref f__law_limit)
  b__law_limit : Binds K d__law_limit ["_law_state", "_law_k"] []
  f__law_nested : Addr
  d__law_nested : FuncData
  F__law_nested : Fun K "_law_nested" "_law_nested" s__law_nested f__law_nested d__law_nested
  g__law_nested : mg "_law_nested" = some (.ref f__law_nested)
  b__law_nested : Binds K d__law_nested ["_law_state", "_law_k"] []
  f__law_put_row : Addr
  d__law_put_row : FuncData
  F__law_put_row : Fun K "_law_put_row" "_law_put_row" s__law_put_row f__law_put_row d__law_put_row
  g__law_put_row : mg "_law_put_row" = some (.ref f__law_put_row)
  b__law_put_row : Binds K d__law_put_row ["_law_row_here", "_law_rows", "_law_sizes", "_law_k"] []
  f__law_fits : Addr
  d__law_fits : FuncData
  F__law_fits : Fun K "_law_fits" "_law_fits" s__law_fits f__law_fits d__law_fits
  g__law_fits : mg "_law_fits" = some (.ref f__law_fits)
  b__law_fits : Binds K d__law_fits ["_law_chooser", "_law_n", "_law_k", "_law_row_here"] []
  f__law_brackets : Addr
  d__law_brackets : FuncData
  F__law_brackets : Fun K "_law_brackets" "_law_brackets" s__law_brackets f__law_brackets d__law_brackets
  g__law_brackets : mg "_law_brackets" = some (.ref f__law_brackets)
  b__law_brackets : Binds K d__law_brackets ["_law_state", "_law_k"] []
  f__law_sizes_in_turn : Addr
  d__law_sizes_in_turn : FuncData
  F__law_sizes_in_turn : Fun K "_law_sizes_in_turn" "_law_sizes_in_turn" s__law_sizes_in_turn f__law_sizes_in_turn d__law_sizes_in_turn
  g__law_sizes_in_turn : mg "_law_sizes_in_turn" = some (.ref f__law_sizes_in_turn)
  b__law_sizes_in_turn : Binds K d__law_sizes_in_turn ["_law_state", "_law_k"] []
  f__law_turned_row : Addr
  d__law_turned_row : FuncData
  F__law_turned_row : Fun K "_law_turned_row" "_law_turned_row" s__law_turned_row f__law_turned_row d__law_turned_row
  g__law_turned_row : mg "_law_turned_row" = some (.ref f__law_turned_row)
  b__law_turned_row : Binds K d__law_turned_row ["_law_rows", "_law_sizes", "_law_k"] []
  f__law_in_turn : Addr
  d__law_in_turn : FuncData
  F__law_in_turn : Fun K "_law_in_turn" "_law_in_turn" s__law_in_turn f__law_in_turn d__law_in_turn
  g__law_in_turn : mg "_law_in_turn" = some (.ref f__law_in_turn)
  b__law_in_turn : Binds K d__law_in_turn ["_law_parts"] []
  f__law_power : Addr
  d__law_power : FuncData
  F__law_power : Fun K "_law_power" "_law_power" s__law_power f__law_power d__law_power
  g__law_power : mg "_law_power" = some (.ref f__law_power)
  b__law_power : Binds K d__law_power ["_law_part", "_law_exponent"] []
  f__law_do : Addr
  d__law_do : FuncData
  F__law_do : Fun K "_law_do" "_law_do" s__law_do f__law_do d__law_do
  g__law_do : mg "_law_do" = some (.ref f__law_do)
  b__law_do : Binds K d__law_do ["_law_door", "_law_first", "_law_second"] []
  f__law_products : Addr
  d__law_products : FuncData
  F__law_products : Fun K "_law_products" "_law_products" s__law_products f__law_products d__law_products
  g__law_products : mg "_law_products" = some (.ref f__law_products)
  b__law_products : Binds K d__law_products ["_law_state", "_law_k"] []
  f__law_powers : Addr
  d__law_powers : FuncData
  F__law_powers : Fun K "_law_powers" "_law_powers" s__law_powers f__law_powers d__law_powers
  g__law_powers : mg "_law_powers" = some (.ref f__law_powers)
  b__law_powers : Binds K d__law_powers ["_law_state", "_law_part", "_law_n", "_law_row_here", "_law_k"] []
  f__law_refused : Addr
  d__law_refused : FuncData
  F__law_refused : Fun K "_law_refused" "_law_refused" s__law_refused f__law_refused d__law_refused
  g__law_refused : mg "_law_refused" = some (.ref f__law_refused)
  b__law_refused : Binds K d__law_refused ["_law_k", "_law_part"] []
  f_law : Addr
  d_law : FuncData
  F_law : Fun K "law" "law" s_law f_law d_law
  g_law : mg "law" = some (.ref f_law)
  b_law : Binds K d_law ["_law_script"] []
  z_isinstance : mg "isinstance" = none
  z_int : mg "int" = none
  z_bool : mg "bool" = none
  z_all : mg "all" = none
  z_str : mg "str" = none
  z_len : mg "len" = none
  z_enumerate : mg "enumerate" = none
  z_tuple : mg "tuple" = none
  z_zip : mg "zip" = none
  z_range : mg "range" = none
  z_min : mg "min" = none
  z_sum : mg "sum" = none
  z_list : mg "list" = none
  z_max : mg "max" = none
  z_any : mg "any" = none
  z_ValueError : mg "ValueError" = none
  g_LETTERS : ∃ t, mg "LETTERS" = some (.str "abcdefghijklmnopqrstuvwxyz" t)
  g_DIGITS : ∃ t, mg "DIGITS" = some (.str "0123456789" t)
  g_LONGEST_WORD : ∃ t, mg "LONGEST_WORD" = some (.int 12 t)
  g_LONGEST_NUMBER : ∃ t, mg "LONGEST_NUMBER" = some (.int 9 t)
  g_NUMBERS_END : ∃ t, mg "NUMBERS_END" = some (.int 1000000000 t)
  g_DEEPEST_TUPLE : ∃ t, mg "DEEPEST_TUPLE" = some (.int 30 t)
  g_MOST_OUTCOMES : ∃ t, mg "MOST_OUTCOMES" = some (.int 4 t)
  g_MOST_SMALL_OPTIONS : ∃ t, mg "MOST_SMALL_OPTIONS" = some (.int 8 t)
  g_MOST_SMALL_CONTEXTS : ∃ t, mg "MOST_SMALL_CONTEXTS" = some (.int 256 t)
  g_MOST_EXPONENT : ∃ t, mg "MOST_EXPONENT" = some (.int 8 t)
  c_OutOfRange : Addr
  g_OutOfRange : mg "OutOfRange" = some (.ref c_OutOfRange)
  c_SizeMismatch : Addr
  g_SizeMismatch : mg "SizeMismatch" = some (.ref c_SizeMismatch)
  c_InvalidChooser : Addr
  g_InvalidChooser : mg "InvalidChooser" = some (.ref c_InvalidChooser)
  c_TooLarge : Addr
  g_TooLarge : mg "TooLarge" = some (.ref c_TooLarge)
  c_InvalidTerm : Addr
  g_InvalidTerm : mg "InvalidTerm" = some (.ref c_InvalidTerm)
  c_InvalidContext : Addr
  g_InvalidContext : mg "InvalidContext" = some (.ref c_InvalidContext)
  c_ChoosersError : Addr
  g_ChoosersError : mg "ChoosersError" = some (.ref c_ChoosersError)
  fi_InvalidChooser : Addr
  di_InvalidChooser : FuncData
  ox_InvalidChooser : OexC K c_InvalidChooser
  ic_InvalidChooser : PySem.W.findIn K (.ref c_InvalidChooser) "__init__" = some (some (.ref fi_InvalidChooser))
  ti_InvalidChooser : PySem.W.typeIn K (.ref fi_InvalidChooser) = some (.type "function")
  no_InvalidChooser : PySem.W.findIn K (.ref c_InvalidChooser) "index" = some none
  xf_InvalidChooser : XfC K c_InvalidChooser
  ec_InvalidChooser : L2.ExcC K c_InvalidChooser
  in_InvalidChooser : ∀ {w : World} {base : Heap} {cx : CXT}, FnOk P w K mg base cx 1 fi_InvalidChooser di_InvalidChooser ["self", "index"] (spInit K c_InvalidChooser "index" okInt)
  bi_InvalidChooser : Binds K di_InvalidChooser ["self", "index"] []
  i_InvalidChooser_SizeMismatch : PySem.W.kitOne K (.ref c_InvalidChooser) (.ref c_SizeMismatch) = some false
  i_InvalidChooser_TooLarge : PySem.W.kitOne K (.ref c_InvalidChooser) (.ref c_TooLarge) = some false
  i_InvalidChooser_OutOfRange : PySem.W.kitOne K (.ref c_InvalidChooser) (.ref c_OutOfRange) = some false
  i_InvalidChooser_InvalidTerm : PySem.W.kitOne K (.ref c_InvalidChooser) (.ref c_InvalidTerm) = some false
  i_InvalidChooser_InvalidChooser : PySem.W.kitOne K (.ref c_InvalidChooser) (.ref c_InvalidChooser) = some true
  i_InvalidChooser_InvalidContext : PySem.W.kitOne K (.ref c_InvalidChooser) (.ref c_InvalidContext) = some false
  i_InvalidChooser_ValueError : PySem.W.kitOne K (.ref c_InvalidChooser) (.type "ValueError") = some true
  m_InvalidChooser_ChoosersError : PySem.W.exmOne K (.ref c_InvalidChooser) (.ref c_ChoosersError) = some true
  x_OutOfRange : PySem.W.excIn K c_OutOfRange [.type "ValueError", .type "Exception", .type "BaseException", .type "object"] "ValueError.__new__" = true
  k_OutOfRange : PySem.W.keepIn K (.ref c_OutOfRange) = true
  e_OutOfRange : PySem.W.subIn K (.ref c_OutOfRange) (.type "BaseException") = some true
  t_OutOfRange : PySem.W.typeIn K (.ref c_OutOfRange) = some (.type "type")
  ec_OutOfRange : L2.ExcC K c_OutOfRange
  i_OutOfRange_SizeMismatch : PySem.W.kitOne K (.ref c_OutOfRange) (.ref c_SizeMismatch) = some false
  i_OutOfRange_TooLarge : PySem.W.kitOne K (.ref c_OutOfRange) (.ref c_TooLarge) = some false
  i_OutOfRange_OutOfRange : PySem.W.kitOne K (.ref c_OutOfRange) (.ref c_OutOfRange) = some true
  i_OutOfRange_InvalidTerm : PySem.W.kitOne K (.ref c_OutOfRange) (.ref c_InvalidTerm) = some false
  i_OutOfRange_InvalidChooser : PySem.W.kitOne K (.ref c_OutOfRange) (.ref c_InvalidChooser) = some false
  i_OutOfRange_InvalidContext : PySem.W.kitOne K (.ref c_OutOfRange) (.ref c_InvalidContext) = some false
  i_OutOfRange_ValueError : PySem.W.kitOne K (.ref c_OutOfRange) (.type "ValueError") = some true
  m_OutOfRange_ChoosersError : PySem.W.exmOne K (.ref c_OutOfRange) (.ref c_ChoosersError) = some true
  x_SizeMismatch : PySem.W.excIn K c_SizeMismatch [.type "ValueError", .type "Exception", .type "BaseException", .type "object"] "ValueError.__new__" = true
  k_SizeMismatch : PySem.W.keepIn K (.ref c_SizeMismatch) = true
  e_SizeMismatch : PySem.W.subIn K (.ref c_SizeMismatch) (.type "BaseException") = some true
  t_SizeMismatch : PySem.W.typeIn K (.ref c_SizeMismatch) = some (.type "type")
  ec_SizeMismatch : L2.ExcC K c_SizeMismatch
  i_SizeMismatch_SizeMismatch : PySem.W.kitOne K (.ref c_SizeMismatch) (.ref c_SizeMismatch) = some true
  i_SizeMismatch_TooLarge : PySem.W.kitOne K (.ref c_SizeMismatch) (.ref c_TooLarge) = some false
  i_SizeMismatch_OutOfRange : PySem.W.kitOne K (.ref c_SizeMismatch) (.ref c_OutOfRange) = some false
  i_SizeMismatch_InvalidTerm : PySem.W.kitOne K (.ref c_SizeMismatch) (.ref c_InvalidTerm) = some false
  i_SizeMismatch_InvalidChooser : PySem.W.kitOne K (.ref c_SizeMismatch) (.ref c_InvalidChooser) = some false
  i_SizeMismatch_InvalidContext : PySem.W.kitOne K (.ref c_SizeMismatch) (.ref c_InvalidContext) = some false
  i_SizeMismatch_ValueError : PySem.W.kitOne K (.ref c_SizeMismatch) (.type "ValueError") = some true
  m_SizeMismatch_ChoosersError : PySem.W.exmOne K (.ref c_SizeMismatch) (.ref c_ChoosersError) = some true
  x_TooLarge : PySem.W.excIn K c_TooLarge [.type "ValueError", .type "Exception", .type "BaseException", .type "object"] "ValueError.__new__" = true
  k_TooLarge : PySem.W.keepIn K (.ref c_TooLarge) = true
  e_TooLarge : PySem.W.subIn K (.ref c_TooLarge) (.type "BaseException") = some true
  t_TooLarge : PySem.W.typeIn K (.ref c_TooLarge) = some (.type "type")
  ec_TooLarge : L2.ExcC K c_TooLarge
  i_TooLarge_SizeMismatch : PySem.W.kitOne K (.ref c_TooLarge) (.ref c_SizeMismatch) = some false
  i_TooLarge_TooLarge : PySem.W.kitOne K (.ref c_TooLarge) (.ref c_TooLarge) = some true
  i_TooLarge_OutOfRange : PySem.W.kitOne K (.ref c_TooLarge) (.ref c_OutOfRange) = some false
  i_TooLarge_InvalidTerm : PySem.W.kitOne K (.ref c_TooLarge) (.ref c_InvalidTerm) = some false
  i_TooLarge_InvalidChooser : PySem.W.kitOne K (.ref c_TooLarge) (.ref c_InvalidChooser) = some false
  i_TooLarge_InvalidContext : PySem.W.kitOne K (.ref c_TooLarge) (.ref c_InvalidContext) = some false
  i_TooLarge_ValueError : PySem.W.kitOne K (.ref c_TooLarge) (.type "ValueError") = some true
  m_TooLarge_ChoosersError : PySem.W.exmOne K (.ref c_TooLarge) (.ref c_ChoosersError) = some true
  c_Chooser : Addr
  g_Chooser : mg "Chooser" = some (.ref c_Chooser)
  mk_Chooser : Mk K c_Chooser f_Chooser___init__
  cls_Chooser : Cls K c_Chooser
  sf_Chooser : PySem.W.selfFirst K c_Chooser = true
  rp_Chooser : PySem.W.findIn K (.ref c_Chooser) "__rpow__" = some none
  ip_Chooser : ∃ fo, PySem.W.findIn K (.type "int") "__pow__" = some fo
  jp_Chooser : ∃ fo, PySem.W.findIn K (.type "int") "__rpow__" = some fo
  su_Chooser : PySem.W.subIn K (.type "int") (.ref c_Chooser) = some false
  na_Chooser_options : NoAttr K c_Chooser "options"
  na_Chooser_outcomes : NoAttr K c_Chooser "outcomes"
  na_Chooser_row : NoAttr K c_Chooser "row"
  me_Chooser___mul__ : Meth K c_Chooser "__mul__" f_Chooser___mul__
  me_Chooser___pow__ : Meth K c_Chooser "__pow__" f_Chooser___pow__
section
variable {P : Program} {w : World} {K : Fg} {mg : Str → Option Value} {base : Heap}
def c_is_number : Con := fun ds μ Φ _ => ∃ i, ds = [.int i] ∧ Φ (.bl true) μ
theorem len_is_number {ds μ Φ Ψ} (h : c_is_number ds μ Φ Ψ) : ds.length = 1 := by obtain ⟨i, rfl, _⟩ := h; rfl
theorem w_is_number {i μ Φ Ψ} : c_is_number [.int i] μ Φ Ψ = Φ (.bl true) μ := propext ⟨fun ⟨j, e, q⟩ => q, fun q => ⟨i, rfl, q⟩⟩
theorem ok_is_number {cx : CXT} (T : Txt P w K mg) : FnOk P w K mg base cx 1 T.f_is_number T.d_is_number ["value"] (spOf K c_is_number) := by
  refine def_okC T.F_is_number sc_is_number _ (fun ds μ Φ Ψ h => len_is_number h) (fun cdv A outer s H E B hW hr =>
    ⟨_, (pss_one (ps_ret (pe_and (pe_callB call_isi (by rfl) T.z_isinstance (by decide +kernel) (pa_cons (pv 0) (pa_cons (pe_bltn (v := .ty "int") rfl T.z_int (by decide +kernel) rfl) pa_nil))) (pe_one (pe_not (pe_callB call_isi (by rfl) T.z_isinstance (by decide +kernel) (pa_cons (pv 0) (pa_cons (pe_bltn (v := .ty "bool") rfl T.z_bool (by decide +kernel) rfl) pa_nil)))))))),
      (sRet (sAndV (sCB (rcIsi (T := "int")) (sCons sVar (sCons sHd sNil))) (sNotV (sCB (rcIsi (T := "bool")) (sCons sVar (sCons sHd sNil))))))⟩) (fun ds μ Φ Ψ h => ?hv)
  case hv =>
    obtain ⟨i, rfl, h⟩ := h
    walk_at "wps"
    exact ret_same h
def c_is_below : Con := fun ds μ Φ _ => ∃ i m, ds = [.int i, .int m] ∧ Φ (.bl (decide (0 ≤ i ∧ i < m))) μ
theorem len_is_below {ds μ Φ Ψ} (h : c_is_below ds μ Φ Ψ) : ds.length = 2 := by obtain ⟨i, m, rfl, _⟩ := h; rfl
theorem w_is_below {i m μ Φ Ψ} : c_is_below [.int i, .int m] μ Φ Ψ = Φ (.bl (decide (0 ≤ i ∧ i < m))) μ := propext ⟨fun ⟨a, b, e, q⟩ => by cases e; exact q, fun q => ⟨i, m, rfl, q⟩⟩
theorem ok_is_below (T : Txt P w K mg) : FnOk P w K mg base (L2N.CX P w) 2 T.f_is_below T.d_is_below ["value", "limit"] (spOf K c_is_below) := by
  refine def_okC T.F_is_below sc_is_below _ (fun ds μ Φ Ψ h => len_is_below h) (fun cdv A outer s H E B hW hr =>
    have tk : L2N.Takes (cxOf (L2N.CX P w) P w K mg base N_is_below "is_below" (defScope s_is_below) T.f_is_below cdv A outer s H E) (fun cls d _ H => E cls d H) := L2N.takes_of rfl rfl rfl rfl
    ⟨_, (pss_one (ps_ret (pe_and (pe_call (ok_is_number T) hr rfl T.g_is_number T.F_is_number.kp T.b_is_number .nil passN (pa_cons (pv 0) pa_nil)) (pe_one (pe_chain op_le op_lt pe_int (pv 0) (pv 1)))))),
      (sRet (sAndV (sCall (sCons sVar sNil)) (sChain roBl0 roBl0 sInt sVar sVar)))⟩) (fun ds μ Φ Ψ h => ?hv)
  case hv =>
    obtain ⟨i, m, rfl, h⟩ := h
    walk_at "wps"
    simp only [w_is_number]
    walk_at "wps"
    refine ⟨fun h1 => ret_same ?_, fun h1 => ret_same ?_⟩
    · simpa [h1] using h
    · simpa [h1] using h
def c_count_choices : Con := fun ds μ Φ _ => ∃ ws : List Int, ds = [.tup (ws.map .int)] ∧ (∀ i z, ws[i]? = some z → CMulX (prodI (ws.take i)) z) ∧ Φ (.int (prodI ws)) μ
theorem len_count_choices {ds μ Φ Ψ} (h : c_count_choices ds μ Φ Ψ) : ds.length = 1 := by obtain ⟨i, rfl, _⟩ := h; rfl
theorem ok_count_choices {cx : CXT} (T : Txt P w K mg) : FnOk P w K mg base cx 1 T.f_count_choices T.d_count_choices ["widths"] (spOf K c_count_choices) := by
  refine def_okC T.F_count_choices sc_count_choices _ (fun ds μ Φ Ψ h => len_count_choices h) (fun cdv A outer s H E B hW hr =>
    ⟨_, (pss_cons (ps_set (i := 1) sc_count_choices.nd rfl (Or.inl rfl) pe_int)
      (pss_cons (ps_for (passes_of rfl) rfl (pi_tup (pv 0)) (pg_name (i := 2) sc_count_choices.nd rfl (Or.inl rfl)) (pss_one (ps_set (i := 1) sc_count_choices.nd rfl (Or.inl rfl) (pe_op op_mulX (pv 1) (pv 2)))))
      (pss_one (ps_ret (pv 1))))),
      (sSeq (sAsg sInt sName)
      (sSeq (sFor (siT sVar) (fun _ _ _ => sName) (fun _ _ _ => (sAsg (sOp roInt sVar sVar) sName)))
      (sRet sVar)))⟩) (fun ds μ Φ Ψ h => ?hv)
  case hv =>
    obtain ⟨ws, rfl, hc, h⟩ := h
    walk_at "wps"
    refine ⟨fun i δ' μ' => μ' = μ ∧ ∃ x, δ' = [some (.tup (ws.map .int)), some (.int (prodI (ws.take i))), x], ⟨rfl, none, rfl⟩, ?_, ?_⟩
    · rintro i d δ' μ' hi ⟨rfl, x, rfl⟩
      obtain ⟨z, hz, rfl⟩ := mapI_get hi
      walk_at "wps"
      exact ⟨hc i z hz, _, by rw [prod_snoc hz]⟩
    · rintro δ' μ' ⟨rfl, x, rfl⟩
      rw [List.take_length]
      walk_at "wps"
      exact ret_same h
def c_choice_index (C : Addr) : Con := fun ds μ Φ Ψ => ∃ ws cs, ds = [.tup (ws.map .int), .tup (cs.map .int)] ∧ WB ws ∧ (∀ v, cs.length = ws.length → idxU 0 ws cs = some v → Φ (.int v) μ) ∧ (cs.length ≠ ws.length ∨ idxU 0 ws cs = none → Ψ (.mk C none) μ)
theorem len_choice_index {C ds μ Φ Ψ} (h : c_choice_index C ds μ Φ Ψ) : ds.length = 2 := by obtain ⟨_, _, rfl, _⟩ := h; rfl
theorem ok_choice_index (T : Txt P w K mg) : FnOk P w K mg base (L2N.CX P w) 3 T.f_choice_index T.d_choice_index ["widths", "choice"] (spOf K (c_choice_index T.c_OutOfRange)) := by
  refine def_okC T.F_choice_index sc_choice_index _ (fun ds μ Φ Ψ h => len_choice_index h) (fun cdv A outer s H E B hW hr =>
    have tk : L2N.Takes (cxOf (L2N.CX P w) P w K mg base N_choice_index "choice_index" (defScope s_choice_index) T.f_choice_index cdv A outer s H E) (fun cls d _ H => E cls d H) := L2N.takes_of rfl rfl rfl rfl
    ⟨_, (pss_cons (ps_if (pt_cmpR op_ne (pe_callB call_len_seq (by rfl) T.z_len PySem.boot_len (pa_cons (pv 1) pa_nil)) (pe_callB call_len_seq (by rfl) T.z_len PySem.boot_len (pa_cons (pv 0) pa_nil)) (nomark _)) (pss_one (L2N.ps_raise rfl tk (L2N.pmk_own PySem.F.excBase_ValueError T.x_OutOfRange T.g_OutOfRange T.k_OutOfRange (raises_own T.e_OutOfRange T.t_OutOfRange) rfl))) pss_nil)
      (pss_cons (ps_set (i := 2) sc_choice_index.nd rfl (Or.inl rfl) pe_int)
      (pss_cons (ps_for (passes_of rfl) rfl (RZ.pi_zipA (by rfl) T.z_zip (pa_cons (pv 0) (pa_cons (pv 1) pa_nil))) (pg_tup (n := 2) rfl (pgs_cons (pg_name (i := 3) sc_choice_index.nd rfl (Or.inl rfl)) (pgs_cons (pg_name (i := 4) sc_choice_index.nd rfl (Or.inl rfl)) pgs_nil))) (pss_cons (ps_if (pt_not (pt_val (pe_call (ok_is_below T) hr rfl T.g_is_below T.F_is_below.kp T.b_is_below .nil passN (pa_cons (pv 4) (pa_cons (pv 3) pa_nil))))) (pss_one (L2N.ps_raise rfl tk (L2N.pmk_own PySem.F.excBase_ValueError T.x_OutOfRange T.g_OutOfRange T.k_OutOfRange (raises_own T.e_OutOfRange T.t_OutOfRange) rfl))) pss_nil)
      (pss_one (ps_set (i := 2) sc_choice_index.nd rfl (Or.inl rfl) (pe_op op_add (pe_op op_mulX (pv 2) (pv 3)) (pv 4))))))
      (pss_one (ps_ret (pv 2)))))),
      (sSeq (sIfS (sTest (sOp roNe (sCB rcLen (sCons sVar sNil)) (sCB rcLen (sCons sVar sNil)))) (sRaise0W (W := fun cls d _ H => E cls d H) (C := T.c_OutOfRange) (by exact hW)) sNext)
      (sSeq (sAsg sInt sName)
      (sSeq (sFor (siZipT sVar sVar) (fun _ _ _ => (sgTup (sgCons sName (sgCons sName sgNil)))) (fun _ _ _ => (sSeq (sIfS (sNot (sB (sCall (sCons sVar (sCons sVar sNil))))) (sRaise0W (W := fun cls d _ H => E cls d H) (C := T.c_OutOfRange) (by exact hW)) sNext)
      (sAsg (sOp roInt0 (sOp roInt sVar sVar) sVar) sName))))
      (sRet sVar))))⟩) (fun ds μ Φ Ψ h => ?hv)
  case hv =>
    obtain ⟨ws, cs, rfl, hb, h1, h2⟩ := h
    walk_at "wps"
    refine ⟨fun c1 => ⟨_, Sub.refl, h2 (.inl (by intro z; rw [z] at c1; simp at c1))⟩, fun c1 => ?_⟩
    have hlen : cs.length = ws.length := by simp at c1; omega
    refine ⟨fun i δ' μ' => μ' = μ ∧ ∃ a x y, δ' = [some (.tup (ws.map .int)), some (.tup (cs.map .int)), some (.int a), x, y] ∧ idxU 0 ws cs = idxU a (ws.drop i) (cs.drop i) ∧ 0 ≤ a ∧ a < prodI (ws.take i), ⟨rfl, 0, none, none, rfl, rfl, Int.le_refl 0, (by decide : (0 : Int) < 1)⟩, ?_, ?_⟩
    · rintro i d δ' μ' hi ⟨rfl, a, x, y, rfl, e, h3, h4⟩
      rw [List.getElem?_map, Option.map_eq_some_iff] at hi
      obtain ⟨⟨d1, d2⟩, hi, rfl⟩ := hi
      obtain ⟨g1, g2⟩ := List.getElem?_zip_eq_some.mp hi
      obtain ⟨wi, hw, rfl⟩ := mapI_get g1
      obtain ⟨ci, hc, rfl⟩ := mapI_get g2
      have b0 := hb.lo wi (List.mem_of_getElem? hw)
      have b1 := hb.hi wi (List.mem_of_getElem? hw)
      have b2 := hb.pr i
      have el : idxU 0 ws cs = if 0 ≤ ci ∧ ci < wi then idxU (a * wi + ci) (ws.drop (i + 1)) (cs.drop (i + 1)) else none := by
        have l1 := (List.getElem?_eq_some_iff.mp hw)
        have l2 := (List.getElem?_eq_some_iff.mp hc)
        obtain ⟨l1, r1⟩ := l1
        obtain ⟨l2, r2⟩ := l2
        rw [e, List.drop_eq_getElem_cons l1, List.drop_eq_getElem_cons l2, r1, r2]
        rfl
      walk_at "wps"
      simp only [w_is_below]
      walk_at "wps"
      refine ⟨fun c2 => ⟨_, Sub.refl, h2 (.inr ?_)⟩, fun c2 => ?_⟩
      · rw [el, if_neg (by intro z; simp [z] at c2)]
      · have c3 : 0 ≤ ci ∧ ci < wi := by simp at c2; exact c2
        rw [if_pos c3] at el
        refine ⟨mulx 200 100 (by omega) (by omega) (by decide), _, _, _, rfl, el, ?_, ?_⟩
        · have := Int.mul_nonneg h3 b0; omega
        · rw [LW.prod_snoc hw]
          have q : (a + 1) * wi ≤ prodI (ws.take i) * wi := Int.mul_le_mul_of_nonneg_right (by omega) b0
          rw [Int.add_mul, Int.one_mul] at q
          omega
    · rintro δ' μ' ⟨rfl, a, x, y, rfl, e, h3, h4⟩
      have ez : ((ws.map D.int).zip (cs.map D.int)).length = ws.length := by rw [List.length_zip, List.length_map, List.length_map, hlen]; simp
      rw [ez, List.drop_length, ← hlen, List.drop_length] at e
      walk_at "wps"
      exact ret_same (h1 a hlen e)
def c_has_outcomes : Con := fun ds μ Φ _ => ∃ i : Int, ds = [.int i] ∧ Φ (.bl (decide (1 ≤ i ∧ i ≤ 4))) μ
theorem len_has_outcomes {ds μ Φ Ψ} (h : c_has_outcomes ds μ Φ Ψ) : ds.length = 1 := by obtain ⟨i, rfl, _⟩ := h; rfl
theorem w_has_outcomes {i μ Φ Ψ} : c_has_outcomes [.int i] μ Φ Ψ = Φ (.bl (decide (1 ≤ i ∧ i ≤ 4))) μ := propext ⟨fun ⟨a, e, q⟩ => by cases e; exact q, fun q => ⟨i, rfl, q⟩⟩
theorem ok_has_outcomes {cx : CXT} (T : Txt P w K mg) : FnOk P w K mg base cx 1 T.f_has_outcomes T.d_has_outcomes ["outcomes"] (spOf K c_has_outcomes) := by
  refine def_okC T.F_has_outcomes sc_has_outcomes _ (fun ds μ Φ Ψ h => len_has_outcomes h) (fun cdv A outer s H E B hW hr =>
    ⟨_, (pss_one (ps_ret (pe_chain op_le op_le pe_int (pv 0) (pe_glob (v := .int 4) rfl T.g_MOST_OUTCOMES.choose_spec ⟨_, rfl⟩)))),
      (sRet (sChain roBl0 roBl0 sInt sVar sInt))⟩) (fun ds μ Φ Ψ h => ?hv)
  case hv =>
    obtain ⟨i, rfl, h⟩ := h
    walk_at "wps"
    refine ⟨fun h1 => ret_same ?_, fun h1 => ret_same ?_⟩
    · simpa [h1] using h
    · simpa [h1] using h
def c_count_contexts : Con := fun ds μ Φ _ => ∃ n k : Nat, ds = [.int n, .int k] ∧ n ≤ 8 ∧ k ≤ 4 ∧ 1 ≤ k ∧ Φ (.int ((k ^ n : Nat) : Int)) μ
theorem len_count_contexts {ds μ Φ Ψ} (h : c_count_contexts ds μ Φ Ψ) : ds.length = 2 := by obtain ⟨i, j, rfl, _⟩ := h; rfl
theorem w_count_choices {ws μ Φ Ψ} (h : WB ws) : (c_count_choices [.tup (ws.map .int)] μ Φ Ψ) = Φ (.int (prodI ws)) μ := propext ⟨fun ⟨us, e, _, q⟩ => by
  injection e with e _
  injection e with e
  have : ws = us := (List.map_inj_right (fun _ _ z => by cases z; rfl)).mp e
  rw [this]; exact q, fun q => ⟨ws, rfl, fun i z e => h.mul e, q⟩⟩
theorem ok_count_contexts {cx : CXT} (T : Txt P w K mg) : FnOk P w K mg base cx 2 T.f_count_contexts T.d_count_contexts ["options", "outcomes"] (spOf K c_count_contexts) := by
  refine def_okC T.F_count_contexts sc_count_contexts _ (fun ds μ Φ Ψ h => len_count_contexts h) (fun cdv A outer s H E B hW hr =>
    ⟨_, (pss_one (ps_ret (pe_call (ok_count_choices T) hr rfl T.g_count_choices T.F_count_choices.kp T.b_count_choices .nil passN (pa_cons (pe_op op_repA (pe_tupN (pa_cons (pv 1) pa_nil)) (pv 0)) pa_nil)))),
      (sRet (sCall (sCons (sOp roRepT (sTup (sCons sVar sNil)) sVar) sNil)))⟩) (fun ds μ Φ Ψ h => ?hv)
  case hv =>
    obtain ⟨n, k, rfl, hn, hk, hk1, h⟩ := h
    walk_at "wps"
    refine ⟨by omega, by omega, by omega, by omega, ?_⟩
    rw [repI, w_count_choices (WB_rep (by omega) hk1 hk), prodI_rep, ← Int.natCast_pow]
    exact ret_same h
def c_is_small : Con := fun ds μ Φ _ => ∃ n k : Nat, ds = [.int n, .int k] ∧ 1 ≤ n ∧ 1 ≤ k ∧ k ≤ 4 ∧ Φ (.bl (decide (n ≤ 8 ∧ k ^ n ≤ 256))) μ
theorem len_is_small {ds μ Φ Ψ} (h : c_is_small ds μ Φ Ψ) : ds.length = 2 := by obtain ⟨i, j, rfl, _⟩ := h; rfl
theorem ok_is_small {cx : CXT} (T : Txt P w K mg) : FnOk P w K mg base cx 3 T.f_is_small T.d_is_small ["options", "outcomes"] (spOf K c_is_small) := by
  refine def_okC T.F_is_small sc_is_small _ (fun ds μ Φ Ψ h => len_is_small h) (fun cdv A outer s H E B hW hr =>
    ⟨_, (pss_cons (ps_if (PW.pt (pw_or (pt_not (pt_chain op_le op_le pe_int (pv 0) (pe_glob (v := .int 8) rfl T.g_MOST_SMALL_OPTIONS.choose_spec ⟨_, rfl⟩))) (pw_or1 (pt_not (pt_val (pe_call (ok_has_outcomes T) (hr.mono (by decide)) rfl T.g_has_outcomes T.F_has_outcomes.kp T.b_has_outcomes .nil passN (pa_cons (pv 1) pa_nil))))))) (pss_one (ps_ret pe_bl)) pss_nil)
      (pss_one (ps_ret (pe_cmpR op_le (pe_call (ok_count_contexts T) hr rfl T.g_count_contexts T.F_count_contexts.kp T.b_count_contexts .nil passN (pa_cons (pv 0) (pa_cons (pv 1) pa_nil))) (pe_glob (v := .int 256) rfl T.g_MOST_SMALL_CONTEXTS.choose_spec ⟨_, rfl⟩) (nomark _))))),
      (sSeq (sIfS (sOr (sNot (sTest (sChain roBl0 roBl0 sInt sVar sInt))) (sNot (sB (sCall (sCons sVar sNil))))) (sRet sBl) sNext)
      (sRet (sOp roBl0 (sCall (sCons sVar (sCons sVar sNil))) sInt)))⟩) (fun ds μ Φ Ψ h => ?hv)
  case hv =>
    obtain ⟨n, k, rfl, hn, hk1, hk, h⟩ := h
    walk_at "wps"
    simp only [w_has_outcomes]
    walk_at "wps"
    refine ⟨fun _ => ⟨fun h2 => ret_same ?_, fun h2 => ⟨fun h3 => ?_, fun _ => ?_⟩⟩, fun h1 => absurd (by omega) h1⟩
    · have : ¬ n ≤ 8 := by simp at h2; omega
      simpa [this] using h
    · exfalso; simp at h3; omega
    · have h4 : n ≤ 8 := by simp at h2; omega
      refine ⟨n, k, rfl, h4, hk, hk1, ?_⟩
      walk_at "wps"
      refine ret_same ?_
      have e : (decide (((k ^ n : Nat) : Int) ≤ 256)) = decide (n ≤ 8 ∧ k ^ n ≤ 256) := decide_eq_decide.mpr ⟨fun z => ⟨h4, by omega⟩, fun z => by omega⟩
      rw [e]; exact h
def c_context_index : Con := fun ds μ Φ _ => ∃ (n k : Nat) (c : List Int), ds = [.tup (c.map .int), .int k] ∧ CtxOk n k c ∧ n ≤ 8 ∧ Φ (.int (ctxIx k c)) μ
theorem len_context_index {ds μ Φ Ψ} (h : c_context_index ds μ Φ Ψ) : ds.length = 2 := by obtain ⟨i, j, _, rfl, _⟩ := h; rfl
theorem ok_context_index (T : Txt P w K mg) : FnOk P w K mg base (L2N.CX P w) 4 T.f_context_index T.d_context_index ["context", "outcomes"] (spOf K c_context_index) := by
  refine def_okC T.F_context_index sc_context_index _ (fun ds μ Φ Ψ h => len_context_index h) (fun cdv A outer s H E B hW hr =>
    have tk : L2N.Takes (cxOf (L2N.CX P w) P w K mg base N_context_index "context_index" (defScope s_context_index) T.f_context_index cdv A outer s H E) (fun cls d _ H => E cls d H) := L2N.takes_of rfl rfl rfl rfl
    ⟨_, (pss_one (ps_ret (pe_callS (ok_choice_index T) hr rfl T.g_choice_index T.F_choice_index.kp T.b_choice_index (fun σ => L2N.passAt tk σ) (pa_cons (pe_op op_repA (pe_tupN (pa_cons (pv 1) pa_nil)) (pe_callB call_len_seq (by rfl) T.z_len PySem.boot_len (pa_cons (pv 0) pa_nil))) (pa_cons (pv 0) pa_nil))))),
      (sRet (sCallSW (W := fun cls d _ H => E cls d H) (by exact hW) (sCons (sOp roRepT (sTup (sCons sVar sNil)) (sCB rcLen (sCons sVar sNil))) (sCons sVar sNil))))⟩) (fun ds μ Φ Ψ h => ?hv)
  case hv =>
    obtain ⟨n, k, c, rfl, hc, hn, h⟩ := h
    walk_at "wps"
    refine ⟨by omega, by have := hc.len; omega, by omega, by omega, ?_⟩
    rw [repI]
    have hl := hc.len
    have hb : WB (List.replicate c.length (k : Int)) := by rw [hl]; exact WB_rep (by omega) hc.k1 hc.k4
    have hx := idx_rep (k := (k : Int)) c 0 fun r hr => ⟨hc.lo r hr, hc.hi r hr⟩
    refine ⟨_, _, rfl, hb, fun v _ e => ?_, fun z => ?_⟩
    · rw [hx] at e
      cases e
      exact ret_same h
    · exfalso
      rcases z with z | z
      · rw [List.length_replicate] at z; exact z rfl
      · rw [hx] at z; cases z
end
section
variable {P : Program} {w : World} {K : Fg} {mg : Str → Option Value} {base : Heap}
theorem rng_getD (ws : List Int) : (List.range ws.length).map (fun i => ws.getD i 0) = ws := by
  apply List.ext_getElem
  · simp
  · intro i h1 h2
    simp at h1
    simp [List.getD_eq_getElem?_getD, List.getElem?_eq_getElem h1]
def c_rows_through : Con := fun ds μ Φ _ => ∃ cols : List (List Int), ds = [.tup (cols.map Am.iT)] ∧ (∀ i, (thru (cols.take i)).length ≤ 50000) ∧ (∀ c ∈ cols, c.length ≤ 50000 ∧ c ≠ []) ∧ cols.length ≤ 1000 ∧ Φ (.tup ((thru cols).map Am.iT)) μ
theorem len_rows_through {ds μ Φ Ψ} (h : c_rows_through ds μ Φ Ψ) : ds.length = 1 := by obtain ⟨_, rfl, _⟩ := h; rfl
theorem thru_row : ∀ (cols : List (List Int)) (rows : List (List Int)) (m : Nat), (∀ r ∈ rows, r.length = m) → ∀ r ∈ cols.foldl (fun rows col => rows.flatMap fun r => col.map fun e => r ++ [e]) rows, r.length = m + cols.length
  | [], rows, m, h, r, hr => h r hr
  | c :: cols, rows, m, h, r, hr => by
    have := thru_row cols (rows.flatMap fun r => c.map fun e => r ++ [e]) (m + 1) (fun r hr => by
      obtain ⟨r0, h0, h1⟩ := List.mem_flatMap.mp hr
      obtain ⟨e, _, rfl⟩ := List.mem_map.mp h1
      rw [List.length_append, h r0 h0]; rfl) r hr
    rw [List.length_cons]
    omega
theorem thru_rng (a : List (List Int)) (c : List Int) : ((List.range (a.map Am.iT).length).flatMap fun i => (List.range (c.map D.int).length).map fun j => Am.iT (a.getD i [] ++ [c.getD j 0])) = (a.flatMap fun r => c.map fun e => r ++ [e]).map Am.iT := by
  rw [List.length_map, List.length_map, List.map_flatMap]
  have e1 : a.flatMap (fun r => (c.map fun e => r ++ [e]).map Am.iT) = ((List.range a.length).map fun i => a.getD i []).flatMap (fun r => (c.map fun e => r ++ [e]).map Am.iT) := by
    congr 1
    apply List.ext_getElem
    · simp
    · intro i h1 h2
      simp [List.getD_eq_getElem?_getD, List.getElem?_eq_getElem h1]
  rw [e1, List.flatMap_map]
  refine congrArg (fun f => (List.range a.length).flatMap f) (funext fun i => ?_)
  rw [List.map_map]
  conv => rhs; rw [← rng_getD c, List.map_map]
  rfl
theorem thru_max {cols : List (List Int)} {i : Nat} {c : List Int} (hi : cols[i]? = some c) (hc : c ≠ []) (hz : ∀ i, (thru (cols.take i)).length ≤ 50000) : (thru (cols.take i)).length * c.length ≤ 50000 := by
  have := hz (i + 1)
  rw [List.take_add_one, hi, Option.toList_some, thru_snoc, List.length_flatMap] at this
  simp only [List.length_map, List.map_const', List.sum_replicate_nat] at this
  exact this
theorem ok_rows_through {cx : CXT} (T : Txt P w K mg) : FnOk P w K mg base cx 1 T.f_rows_through T.d_rows_through ["columns"] (spOf K c_rows_through) := by
  refine def_okC T.F_rows_through sc_rows_through _ (fun ds μ Φ Ψ h => len_rows_through h) (fun cdv A outer s H E B hW hr =>
    ⟨_, (pss_cons (ps_set (i := 1) sc_rows_through.nd rfl (Or.inl rfl) (pe_lst (pa_cons (pe_tupN pa_nil) pa_nil)))
      (pss_cons (ps_for (passes_of rfl) rfl (pi_tup (pv 0)) (pg_name (i := 2) sc_rows_through.nd rfl (Or.inr rfl)) (pss_one (ps_setLc2 (i := 1) (own := [("row", 3), ("entry", 4)]) (vs1 := [4]) rfl sc_rows_through.nd rfl rfl (sw_true rfl rfl rfl (by decide +kernel)) (pi_list (pv 1)) (blkOk_by (N := N_rows_through) (sc := defScope s_rows_through) (by decide +kernel)) (by decide) (fun _ _ _ _ _ => (pg_name (i := 3) sc_rows_through.nd rfl (Or.inl rfl))) (fun _ _ _ _ _ => pts_nil) (fun _ _ _ _ _ => (pi_tup (pv 2))) (fun _ _ _ _ _ => (pg_name (i := 4) sc_rows_through.nd rfl (Or.inl rfl))) (fun _ _ _ _ _ => pts_nil) (fun _ _ _ _ _ => (pe_op op_catN (pv 3) (pe_tupN (pa_cons (pv 4) pa_nil)))))))
      (pss_one (ps_ret (pe_callTy call_tupleN (by rfl) T.z_tuple (by decide +kernel) (pa_cons (pv 1) pa_nil)))))),
      (sSeq (sAsg (sLst (sCons (sTup sNil) sNil)) sName)
      (sSeq (sFor (siT sVar) (fun _ _ _ => sName) (fun _ _ _ => (sAsg (sLc2 (siL sVar) (gwName List.mem_cons_self) (gwName List.mem_cons_self) (fun _ _ _ => sName) (fun _ _ _ => sYes) (fun _ _ _ => (siT sVar)) (fun _ _ _ => sName) (fun _ _ _ => sYes) (fun _ _ _ => (sOp roCatT sVar (sTup (sCons sVar sNil))))) sName)))
      (sRet (sCB rcTuple (sCons sVar sNil)))))⟩) (fun ds μ Φ Ψ h => ?hv)
  case hv =>
    obtain ⟨cols, rfl, hz, hc, hl, h⟩ := h
    walk_at "wps"
    refine ⟨by decide, by decide, fun i δ' μ' => μ' = μ ∧ ∃ x y z : Option D, δ' = [some (.tup (cols.map Am.iT)), some (.lst ((thru (cols.take i)).map Am.iT)), x, y, z], ⟨rfl, none, none, none, rfl⟩, ?_, ?_⟩
    · rintro i d δ' μ' hi ⟨rfl, x, y, z, rfl⟩
      rw [List.getElem?_map, Option.map_eq_some_iff] at hi
      obtain ⟨c, hi, rfl⟩ := hi
      have hc1 := hc c (List.mem_of_getElem? hi)
      have hm := thru_max hi hc1.2 hz
      have hp : 0 < c.length := List.length_pos_iff.mpr hc1.2
      have hle : (thru (cols.take i)).length ≤ (thru (cols.take i)).length * c.length := Nat.le_mul_of_pos_right _ hp
      refine ⟨_, rfl, _, rfl, ?_⟩
      refine lcG2_pure (fun _ => c.map .int) (fun i' j => Am.iT ((thru (cols.take i)).getD i' [] ++ [c.getD j 0])) (fun i' hi' => ?_) (fun _ => by rw [List.length_map]; exact hc1.1) (fun i' d μ2 X hd hs hx => ?_) (fun i' d j d1 μ2 X hd hd1 hs hx => ?_) ?_
      · rw [List.length_flatMap]
        simp only [List.length_map, List.length_range, List.map_const', List.sum_replicate_nat] at hi' ⊢
        exact Nat.le_trans (Nat.mul_le_mul_right _ hi') hm
      · unfold Am.iT
        walk_at "wps"
        exact hx
      · rw [List.getElem?_map, Option.map_eq_some_iff] at hd
        obtain ⟨r, hr, rfl⟩ := hd
        obtain ⟨e, he, rfl⟩ := mapI_get hd1
        rw [List.getD_eq_getElem?_getD, hr, List.getD_eq_getElem?_getD, he] at hx
        unfold Am.iT
        walk_at "wps"
        have hrl := thru_row (cols.take i) [[]] 0 (by simp) r (List.mem_of_getElem? hr)
        rw [List.length_take] at hrl
        refine ⟨by decide, by omega, ?_⟩
        unfold Am.iT at hx
        rw [List.map_append] at hx
        exact hx
      · rw [thru_rng]
        refine ⟨rfl, some (Am.iT c), y, z, ?_⟩
        rw [List.take_add_one, hi, Option.toList_some, thru_snoc]
        rfl
    · rintro δ' μ' ⟨rfl, x, y, z, rfl⟩
      rw [List.take_length]
      exact ⟨_, rfl, _, .lst _, ret_same h⟩
theorem thru_pos : ∀ (n : Nat) (c : List Int), (thru (List.replicate n c)).length = c.length ^ n
  | 0, c => rfl
  | n + 1, c => by
    rw [List.replicate_succ', thru_snoc, List.length_flatMap]
    simp only [List.length_map, List.map_const', List.sum_replicate_nat, thru_pos n c]
    rw [Nat.pow_succ]
def c_all_contexts : Con := fun ds μ Φ _ => ∃ n k : Nat, ds = [.int n, .int k] ∧ 1 ≤ n ∧ n ≤ 8 ∧ 1 ≤ k ∧ k ≤ 4 ∧ k ^ n ≤ 256 ∧ Φ (.tup ((ctxs n k).map Am.iT)) μ
theorem len_all_contexts {ds μ Φ Ψ} (h : c_all_contexts ds μ Φ Ψ) : ds.length = 2 := by obtain ⟨_, _, rfl, _⟩ := h; rfl
theorem ok_all_contexts {cx : CXT} (T : Txt P w K mg) : FnOk P w K mg base cx 2 T.f_all_contexts T.d_all_contexts ["options", "outcomes"] (spOf K c_all_contexts) := by
  refine def_okC T.F_all_contexts sc_all_contexts _ (fun ds μ Φ Ψ h => len_all_contexts h) (fun cdv A outer s H E B hW hr =>
    ⟨_, (pss_one (ps_ret (pe_call (ok_rows_through T) hr rfl T.g_rows_through T.F_rows_through.kp T.b_rows_through .nil passN (pa_cons (pe_op op_repA (pe_tupN (pa_cons (pe_tupRgN rfl rfl T.z_tuple (prg_1 rfl T.z_range (pv 1))) pa_nil)) (pv 0)) pa_nil)))),
      (sRet (sCall (sCons (sOp roRepT (sTup (sCons (sTupR1 sVar) sNil)) sVar) sNil)))⟩) (fun ds μ Φ Ψ h => ?hv)
  case hv =>
    obtain ⟨n, k, rfl, n1, n8, k1, k4, h256, h⟩ := h
    walk_at "wps"
    refine ⟨by omega, by omega, by omega, by omega, by omega, by omega, ?_⟩
    have e : (List.replicate n [D.tup (rngD 0 k)]).flatten = (List.replicate n (optsI k)).map Am.iT := by
      rw [List.flatten_replicate_singleton, List.map_replicate, rngD_opts]
      rfl
    rw [e]
    refine ⟨_, rfl, fun i => ?_, fun c hc => ?_, by rw [List.length_replicate]; omega, ret_same h⟩
    · rw [List.take_replicate, thru_pos, optsI_len]
      have h1 : k ^ min i n ≤ k ^ n := Nat.pow_le_pow_right k1 (Nat.min_le_right _ _)
      omega
    · rw [List.eq_of_mem_replicate hc]
      refine ⟨by rw [optsI_len]; omega, fun z => ?_⟩
      have := optsI_len k
      rw [z] at this
      simp at this
      omega
def c_segments_of_L : Con := fun ds μ Φ _ => ∃ (ms : List Nat) (x : List Int), ds = [.lst (ms.map fun (m : Nat) => D.int (m : Int)), .tup (x.map .int)] ∧ ms.length ≤ 1000 ∧ x.length ≤ 1000 ∧ Φ (.tup ((segs ms x).map Am.iT)) μ
theorem len_segments_of_L {ds μ Φ Ψ} (h : c_segments_of_L ds μ Φ Ψ) : ds.length = 2 := by obtain ⟨_, _, rfl, _⟩ := h; rfl
theorem cut_mid {ds : List D} {a b : Nat} : DW.cutD ds (some (a : Int)) (some ((a : Int) + (b : Int))) = (ds.drop a).take b := by
  have e : (a : Int) + (b : Int) = ((a + b : Nat) : Int) := by omega
  rw [e]
  unfold DW.cutD
  show (ds.drop (min (a : Int).toNat ds.length)).take (min ((a + b : Nat) : Int).toNat ds.length - min (a : Int).toNat ds.length) = _
  rw [Int.toNat_natCast, Int.toNat_natCast]
  by_cases h : a ≤ ds.length
  · rw [Nat.min_eq_left h]
    by_cases h2 : a + b ≤ ds.length
    · rw [Nat.min_eq_left h2, Nat.add_sub_cancel_left]
    · rw [Nat.min_eq_right (by omega), List.take_of_length_le (by rw [List.length_drop]; exact Nat.le_refl _), List.take_of_length_le (by rw [List.length_drop]; omega)]
  · rw [show min a ds.length = ds.length by omega, List.drop_length, List.take_nil, List.drop_eq_nil_of_le (by omega), List.take_nil]
theorem ok_segments_of_L {cx : CXT} (T : Txt P w K mg) : FnOk P w K mg base cx 1 T.f_segments_of T.d_segments_of ["sizes", "entries"] (spOf K c_segments_of_L) := by
  refine def_okC T.F_segments_of sc_segments_of _ (fun ds μ Φ Ψ h => len_segments_of_L h) (fun cdv A outer s H E B hW hr =>
    ⟨_, (pss_cons (ps_set (i := 2) sc_segments_of.nd rfl (Or.inl rfl) (pe_lst pa_nil))
      (pss_cons (ps_set (i := 3) sc_segments_of.nd rfl (Or.inl rfl) pe_int)
      (pss_cons (ps_for (passes_of rfl) rfl (pi_list (pv 0)) (pg_name (i := 4) sc_segments_of.nd rfl (Or.inl rfl)) (pss_cons (ps_expr (pe_bm PySem.F.plainAttrs_list PySem.F.slot_list_append PySem.F.type_list_append mt_append (pv 2) (pa_cons (pe_slice sl_tupN (pv 1) (po_some (pv 3)) (po_some (pe_op op_add (pv 3) (pv 4)))) pa_nil)))
      (pss_one (ps_set (i := 3) sc_segments_of.nd rfl (Or.inl rfl) (pe_op op_add (pv 3) (pv 4))))))
      (pss_one (ps_ret (pe_callTy call_tupleN (by rfl) T.z_tuple (by decide +kernel) (pa_cons (pv 2) pa_nil))))))),
      (sSeq (sAsg (sOwn sNil) sName)
      (sSeq (sAsg sInt sName)
      (sSeq (sFor (siL sVar) (fun _ _ _ => sName) (fun _ _ _ => (sSeq (sDrop (sApp sVar (sSlT sVar (sPart sVar) (sPart (sOp roInt0 sVar sVar)))))
      (sAsg (sOp roInt0 sVar sVar) sName))))
      (sRet (sCB rcTuple (sCons sVar sNil))))))⟩) (fun ds μ Φ Ψ h => ?hv)
  case hv =>
    obtain ⟨ms, x, rfl, hm, hx, h⟩ := h
    walk_at "wps"
    refine ⟨by decide, fun p hp => ⟨fun i δ' μ' => ∃ x4 : Option D, δ' = [some (.lst (ms.map fun (m : Nat) => D.int (m : Int))), some (.tup (x.map .int)), some (.hd (.ref p)), some (.int (((ms.take i).sum : Nat) : Int)), x4] ∧ μ' = sset μ p (.lst ((segs (ms.take i) x).map Am.iT)) ∧ i ≤ ms.length, ⟨none, rfl, rfl, Nat.zero_le _⟩, ?_, ?_⟩⟩
    · rintro i d δ' μ' hi ⟨x4, rfl, rfl, hil⟩
      rw [List.getElem?_map, Option.map_eq_some_iff] at hi
      obtain ⟨m, hm2, rfl⟩ := hi
      have hlt := (List.getElem?_eq_some_iff.mp hm2).1
      walk_at "wps"
      rw [cut_mid]
      have es : segs (ms.take (i + 1)) x = segs (ms.take i) x ++ [(x.drop (ms.take i).sum).take m] := by
        rw [List.take_add_one, hm2, Option.toList_some, segs_snoc]
      have em : (ms.take (i + 1)).sum = (ms.take i).sum + m := by
        rw [List.take_add_one, hm2, Option.toList_some, List.sum_append]; simp
      refine ⟨by rw [segs_len, List.length_take]; omega, some (.int m), ?_, ?_, hlt⟩
      · rw [em, Int.natCast_add]
      · rw [es, List.map_append, ← List.map_drop, ← List.map_take]
        rfl
    · rintro δ' μ' ⟨x4, rfl, rfl, hil⟩
      rw [List.take_length]
      walk_at "wps"
      exact ⟨μ, Sub.set Sub.refl hp, h⟩
def c_segments_of_T : Con := fun ds μ Φ _ => ∃ (ms : List Nat) (x : List Int), ds = [.tup (ms.map fun (m : Nat) => D.int (m : Int)), .tup (x.map .int)] ∧ ms.length ≤ 1000 ∧ x.length ≤ 1000 ∧ Φ (.tup ((segs ms x).map Am.iT)) μ
theorem len_segments_of_T {ds μ Φ Ψ} (h : c_segments_of_T ds μ Φ Ψ) : ds.length = 2 := by obtain ⟨_, _, rfl, _⟩ := h; rfl
theorem ok_segments_of_T {cx : CXT} (T : Txt P w K mg) : FnOk P w K mg base cx 1 T.f_segments_of T.d_segments_of ["sizes", "entries"] (spOf K c_segments_of_T) := by
  refine def_okC T.F_segments_of sc_segments_of _ (fun ds μ Φ Ψ h => len_segments_of_T h) (fun cdv A outer s H E B hW hr =>
    ⟨_, (pss_cons (ps_set (i := 2) sc_segments_of.nd rfl (Or.inl rfl) (pe_lst pa_nil))
      (pss_cons (ps_set (i := 3) sc_segments_of.nd rfl (Or.inl rfl) pe_int)
      (pss_cons (ps_for (passes_of rfl) rfl (pi_tup (pv 0)) (pg_name (i := 4) sc_segments_of.nd rfl (Or.inl rfl)) (pss_cons (ps_expr (pe_bm PySem.F.plainAttrs_list PySem.F.slot_list_append PySem.F.type_list_append mt_append (pv 2) (pa_cons (pe_slice sl_tupN (pv 1) (po_some (pv 3)) (po_some (pe_op op_add (pv 3) (pv 4)))) pa_nil)))
      (pss_one (ps_set (i := 3) sc_segments_of.nd rfl (Or.inl rfl) (pe_op op_add (pv 3) (pv 4))))))
      (pss_one (ps_ret (pe_callTy call_tupleN (by rfl) T.z_tuple (by decide +kernel) (pa_cons (pv 2) pa_nil))))))),
      (sSeq (sAsg (sOwn sNil) sName)
      (sSeq (sAsg sInt sName)
      (sSeq (sFor (siT sVar) (fun _ _ _ => sName) (fun _ _ _ => (sSeq (sDrop (sApp sVar (sSlT sVar (sPart sVar) (sPart (sOp roInt0 sVar sVar)))))
      (sAsg (sOp roInt0 sVar sVar) sName))))
      (sRet (sCB rcTuple (sCons sVar sNil))))))⟩) (fun ds μ Φ Ψ h => ?hv)
  case hv =>
    obtain ⟨ms, x, rfl, hm, hx, h⟩ := h
    walk_at "wps"
    refine ⟨by decide, fun p hp => ⟨fun i δ' μ' => ∃ x4 : Option D, δ' = [some (.tup (ms.map fun (m : Nat) => D.int (m : Int))), some (.tup (x.map .int)), some (.hd (.ref p)), some (.int (((ms.take i).sum : Nat) : Int)), x4] ∧ μ' = sset μ p (.lst ((segs (ms.take i) x).map Am.iT)) ∧ i ≤ ms.length, ⟨none, rfl, rfl, Nat.zero_le _⟩, ?_, ?_⟩⟩
    · rintro i d δ' μ' hi ⟨x4, rfl, rfl, hil⟩
      rw [List.getElem?_map, Option.map_eq_some_iff] at hi
      obtain ⟨m, hm2, rfl⟩ := hi
      have hlt := (List.getElem?_eq_some_iff.mp hm2).1
      walk_at "wps"
      rw [cut_mid]
      have es : segs (ms.take (i + 1)) x = segs (ms.take i) x ++ [(x.drop (ms.take i).sum).take m] := by
        rw [List.take_add_one, hm2, Option.toList_some, segs_snoc]
      have em : (ms.take (i + 1)).sum = (ms.take i).sum + m := by
        rw [List.take_add_one, hm2, Option.toList_some, List.sum_append]; simp
      refine ⟨by rw [segs_len, List.length_take]; omega, some (.int m), ?_, ?_, hlt⟩
      · rw [em, Int.natCast_add]
      · rw [es, List.map_append, ← List.map_drop, ← List.map_take]
        rfl
    · rintro δ' μ' ⟨x4, rfl, rfl, hil⟩
      rw [List.take_length]
      walk_at "wps"
      exact ⟨μ, Sub.set Sub.refl hp, h⟩
theorem FnOk_or {P : Program} {w : World} {K : Fg} {mg : Str → Option Value} {base : Heap} {CX : CXT} {k : Nat} {f : Addr} {fd : FuncData} {ps : List Str} {c1 c2 : Con} (h1 : FnOk P w K mg base CX k f fd ps (spOf K c1)) (h2 : FnOk P w K mg base CX k f fd ps (spOf K c2)) : FnOk P w K mg base CX k f fd ps (spOf K fun ds μ Φ Ψ => c1 ds μ Φ Ψ ∨ c2 ds μ Φ Ψ) :=
  ⟨fun vs H Q E q => by
    obtain ⟨μ, ds, Φ, Ψ, s, r, hc, k⟩ := q
    rcases hc with hc | hc
    · exact h1.1 vs H Q E ⟨μ, ds, Φ, Ψ, s, r, hc, k⟩
    · exact h2.1 vs H Q E ⟨μ, ds, Φ, Ψ, s, r, hc, k⟩, fun A outer s H args us vs Q E a1 a2 a3 a4 q => by
    obtain ⟨μ, ds, Φ, Ψ, s, r, hc, k⟩ := q
    rcases hc with hc | hc
    · exact h1.2 A outer _ H args us vs Q E a1 a2 a3 a4 ⟨μ, ds, Φ, Ψ, s, r, hc, k⟩
    · exact h2.2 A outer _ H args us vs Q E a1 a2 a3 a4 ⟨μ, ds, Φ, Ψ, s, r, hc, k⟩⟩
def c_segments_of : Con := fun ds μ Φ Ψ => c_segments_of_T ds μ Φ Ψ ∨ c_segments_of_L ds μ Φ Ψ
section
variable {P : Program} {w : World} {K : Fg} {mg : Str → Option Value} {base : Heap}
theorem ok_segments_of {cx : CXT} (T : Txt P w K mg) : FnOk P w K mg base cx 1 T.f_segments_of T.d_segments_of ["sizes", "entries"] (spOf K c_segments_of) := FnOk_or (ok_segments_of_T T) (ok_segments_of_L T)
end
def c_wrong_index : Con := fun ds μ Φ _ => ∃ (n k : Nat) (r : List Int), ds = [.int n, .int k, .tup (r.map .int)] ∧ n ≤ 8 ∧ 1 ≤ k ∧ k ≤ 4 ∧ r.length = k ^ n ∧ k ^ n ≤ 256 ∧ (∀ x ∈ r, 0 ≤ x ∧ x < (n : Int)) ∧ Φ .non μ
theorem len_wrong_index {ds μ Φ Ψ} (h : c_wrong_index ds μ Φ Ψ) : ds.length = 3 := by obtain ⟨_, _, _, rfl, _⟩ := h; rfl
theorem ok_wrong_index (T : Txt P w K mg) : FnOk P w K mg base (L2N.CX P w) 3 T.f_wrong_index T.d_wrong_index ["options", "outcomes", "row"] (spOf K c_wrong_index) := by
  refine def_okC T.F_wrong_index sc_wrong_index _ (fun ds μ Φ Ψ h => len_wrong_index h) (fun cdv A outer s H E B hW hr =>
    have tk : L2N.Takes (cxOf (L2N.CX P w) P w K mg base N_wrong_index "wrong_index" (defScope s_wrong_index) T.f_wrong_index cdv A outer s H E) (fun cls d _ H => E cls d H) := L2N.takes_of rfl rfl rfl rfl
    ⟨_, (pss_cons (ps_set (i := 3) sc_wrong_index.nd rfl (Or.inl rfl) (pe_call (ok_count_contexts T) hr rfl T.g_count_contexts T.F_count_contexts.kp T.b_count_contexts .nil passN (pa_cons (pv 0) (pa_cons (pv 1) pa_nil))))
      (pss_cons (ps_for (passes_of rfl) rfl (pi_enumT (by rfl) T.z_enumerate (pa_cons (pe_slice sl_tupN (pv 2) po_none (po_some (pv 3))) pa_nil)) (pg_tup (n := 2) rfl (pgs_cons (pg_name (i := 4) sc_wrong_index.nd rfl (Or.inl rfl)) (pgs_cons (pg_name (i := 5) sc_wrong_index.nd rfl (Or.inl rfl)) pgs_nil))) (pss_one (ps_if (pt_not (pt_val (pe_call (ok_is_below T) hr rfl T.g_is_below T.F_is_below.kp T.b_is_below .nil passN (pa_cons (pv 5) (pa_cons (pv 0) pa_nil))))) (pss_one (ps_ret (pv 4))) pss_nil)))
      (pss_one (ps_ret (pe_ifExp (pt_cmpR op_eq (pe_callB call_len_seq (by rfl) T.z_len PySem.boot_len (pa_cons (pv 2) pa_nil)) (pv 3) (nomark _)) pe_non (pe_callB (call_min2 rfl) (by rfl) T.z_min (by decide +kernel) (pa_cons (pe_callB call_len_seq (by rfl) T.z_len PySem.boot_len (pa_cons (pv 2) pa_nil)) (pa_cons (pv 3) pa_nil)))))))),
      (sSeq (sAsg (sCall (sCons sVar (sCons sVar sNil))) sName)
      (sSeq (sFor (siEnumT (sSlT sVar sNoPart (sPart sVar))) (fun _ _ _ => (sgTup (sgCons sName (sgCons sName sgNil)))) (fun _ _ _ => (sIfS (sNot (sB (sCall (sCons sVar (sCons sVar sNil))))) (sRet sVar) sNext)))
      (sRet (sIf (sTest (sOp roEq (sCB rcLen (sCons sVar sNil)) sVar)) sNon (sCB rcMin2 (sCons (sCB rcLen (sCons sVar sNil)) (sCons sVar sNil)))))))⟩) (fun ds μ Φ Ψ h => ?hv)
  case hv =>
    obtain ⟨n, k, r, rfl, hn, hk1, hk, hl, hsm, he, h⟩ := h
    walk_at "wps"
    refine ⟨n, k, rfl, hn, hk, hk1, ?_⟩
    rw [← hl]
    walk_at "wps"
    have et : List.take r.length (List.map D.int r) = r.map .int := List.take_of_length_le (by rw [List.length_map]; exact Nat.le_refl _)
    simp only [et]
    refine ⟨fun i δ' μ' => μ' = μ ∧ ∃ x y : Option D, δ' = [some (.int n), some (.int k), some (.tup (r.map .int)), some (.int r.length), x, y], ⟨rfl, none, none, rfl⟩, ?_, ?_⟩
    · rintro i d δ' μ' hi ⟨rfl, x, y, rfl⟩
      rw [List.length_map] at hi
      obtain ⟨z, hz, rfl⟩ := en_get hi
      walk_at "wps"
      simp only [w_is_below]
      rw [decide_eq_true (he z (List.mem_of_getElem? hz))]
      walk_at "wps"
      exact ⟨_, _, rfl⟩
    · rintro δ' μ' ⟨rfl, x, y, rfl⟩
      walk_at "wps"
      exact ⟨ret_same h, fun z => absurd trivial z⟩
def c_picked_option (C : Addr) : Con := fun ds μ Φ _ => ∃ (c : Ch) (x : List Int), ds = [chO C c, .tup (x.map .int)] ∧ ChOk c ∧ CtxO c x ∧ Φ (.int (pk c x)) μ
theorem len_picked_option {C ds μ Φ Ψ} (h : c_picked_option C ds μ Φ Ψ) : ds.length = 2 := by obtain ⟨_, _, rfl, _⟩ := h; rfl
theorem ok_picked_option (T : Txt P w K mg) : FnOk P w K mg base (L2N.CX P w) 5 T.f_picked_option T.d_picked_option ["chooser", "context"] (spOf K (c_picked_option T.c_Chooser)) := by
  refine def_okC T.F_picked_option sc_picked_option _ (fun ds μ Φ Ψ h => len_picked_option h) (fun cdv A outer s H E B hW hr =>
    have tk : L2N.Takes (cxOf (L2N.CX P w) P w K mg base N_picked_option "picked_option" (defScope s_picked_option) T.f_picked_option cdv A outer s H E) (fun cls d _ H => E cls d H) := L2N.takes_of rfl rfl rfl rfl
    ⟨_, (pss_one (ps_ret (pe_ix ix_tup (pe_fld (pv 0) rfl) (pe_callS (ok_context_index T) hr rfl T.g_context_index T.F_context_index.kp T.b_context_index (fun σ => L2N.passAt tk σ) (pa_cons (pv 1) (pa_cons (pe_fld (pv 0) rfl) pa_nil))) (fun _ _ => rfl)))),
      (sRet (sOp roIxT (sFldO (NS := NSA) (i := 2) T.cls_Chooser T.na_Chooser_row rfl (by decide) sVar) (sCallSW (W := fun cls d _ H => E cls d H) (by exact hW) (sCons sVar (sCons (sFldO (NS := NSA) (i := 1) T.cls_Chooser T.na_Chooser_outcomes rfl (by decide) sVar) sNil)))))⟩) (fun ds μ Φ Ψ h => ?hv)
  case hv =>
    obtain ⟨c, x, rfl, hc, hx, h⟩ := h
    unfold chO
    walk_at "wps"
    obtain ⟨h1, h2⟩ := pk_at hc hx
    refine ⟨c.n, c.k, x, rfl, hx.ctx hc, hc.n8, ?_⟩
    walk_at "wps"
    exact ⟨_, h1, ret_same h⟩
section
variable {Ψ : XP} {Φ : DK} {φ : DE} {δw : DEnv} {μ1 : Sto}
theorem lcZip {a b : Nat} {xs ys : List D} (v : Nat → D) (hl : xs.length = ys.length) (hz : xs.length ≤ 100000)
    (hs : ∀ (i : Nat) (x y : D) (μ2 : Sto) (X : DK), xs[i]? = some x → ys[i]? = some y → Sub μ1 μ2 → X (v i) μ2 → φ Ψ ((δw.set a (some x)).set b (some y)) μ2 X)
    (hd : Φ (.lst ((List.range xs.length).map v)) μ1) : LcG (eTup 2 (eCons (eName a) (eCons (eName b) eNil))) dYes φ δw Ψ ((xs.zip ys).map fun p => .pr [p.1, p.2]) μ1 Φ := by
  have hl2 : ((xs.zip ys).map fun p => D.pr [p.1, p.2]).length = xs.length := by rw [List.length_map, List.length_zip]; omega
  refine lcG_pure (fun _ => true) v (by rw [hl2]; exact hz) (fun i d μ2 X Y hi hsub hx hy => ?_) (by rw [givenD_all, hl2]; exact hd)
  rw [List.getElem?_map, Option.map_eq_some_iff] at hi
  obtain ⟨⟨x, y⟩, hi, rfl⟩ := hi
  obtain ⟨h1, h2⟩ := List.getElem?_zip_eq_some.mp hi
  have := hs i x y μ2 X h1 h2 hsub (hx rfl)
  simp only [u_etup, w_tplP, u_econs, u_enil, u_name, u_yes, List.length_cons, List.length_nil, w_consE, ex_some]
  simpa using this
end
def natL (l : List Nat) : List D := l.map fun (i : Nat) => D.int (i : Int)
def c_answered_context : Con := fun ds μ Φ _ => ∃ (S : List (List Int)) (A : List Nat), ds = [.tup (S.map Am.iT), .tup (natL A)] ∧ S.length = A.length ∧ S.length ≤ 1000 ∧ (∀ (i : Nat) s a, S[i]? = some s → A[i]? = some a → a < s.length) ∧ Φ (.tup ((facS S A).map .int)) μ
theorem len_answered_context {ds μ Φ Ψ} (h : c_answered_context ds μ Φ Ψ) : ds.length = 2 := by obtain ⟨_, _, rfl, _⟩ := h; rfl
theorem zw_rng {α β γ : Type} (f : α → β → γ) (da : α) (db : β) {l : List α} {m : List β} (h : l.length = m.length) : List.zipWith f l m = (List.range l.length).map fun i => f (l.getD i da) (m.getD i db) := by
  apply List.ext_getElem
  · simp [h]
  · intro i h1 h2
    rw [List.length_zipWith] at h1
    simp [List.getD_eq_getElem?_getD, List.getElem?_eq_getElem (show i < l.length by omega), List.getElem?_eq_getElem (show i < m.length by omega)]
theorem ok_answered_context {cx : CXT} (T : Txt P w K mg) : FnOk P w K mg base cx 1 T.f_answered_context T.d_answered_context ["segments", "answers"] (spOf K c_answered_context) := by
  refine def_okC T.F_answered_context sc_answered_context _ (fun ds μ Φ Ψ h => len_answered_context h) (fun cdv A outer s H E B hW hr =>
    ⟨_, (pss_one (ps_ret (pe_callTy call_tupleN (by rfl) T.z_tuple (by decide +kernel) (pa_cons (pe_lc (own := [("segment", 2), ("answer", 3)]) rfl sc_answered_context.nd (RZ.pi_zipA (by rfl) T.z_zip (pa_cons (pv 0) (pa_cons (pv 1) pa_nil))) (blkOk_by (N := N_answered_context) (sc := defScope s_answered_context) (by decide +kernel)) (fun _ _ _ _ _ => (pg_tup (n := 2) rfl (pgs_cons (pg_name (i := 2) sc_answered_context.nd rfl (Or.inl rfl)) (pgs_cons (pg_name (i := 3) sc_answered_context.nd rfl (Or.inl rfl)) pgs_nil)))) (fun _ _ _ _ _ => pts_nil) (fun _ _ _ _ _ => (pe_ix ix_tup (pv 2) (pv 3) (fun _ _ => rfl)))) pa_nil)))),
      (sRet (sCB rcTuple (sCons (sLc (siZipT sVar sVar) (gwTup (gwConsN List.mem_cons_self (gwConsN (List.mem_cons_of_mem _ List.mem_cons_self) gwNil))) (fun _ _ _ => (sgTup (sgCons sName (sgCons sName sgNil)))) (fun _ _ _ => sYes) (fun _ _ _ => (sOp roIxT sVar sVar))) sNil)))⟩) (fun ds μ Φ Ψ h => ?hv)
  case hv =>
    obtain ⟨S, A, rfl, hl, hS, hin, h⟩ := h
    unfold natL
    walk_at "wps"
    refine lcZip (fun i => .int ((S.getD i []).getD (A.getD i 0) 0)) (by rw [List.length_map, List.length_map]; exact hl) (by rw [List.length_map]; omega) (fun i x y μ2 X hx hy hsub hX => ?_) ?_
    · rw [List.getElem?_map, Option.map_eq_some_iff] at hx hy
      obtain ⟨s, hs, rfl⟩ := hx
      obtain ⟨a, ha, rfl⟩ := hy
      have hlt := hin i s a hs ha
      simp only [List.getD_eq_getElem?_getD, hs, ha, Option.getD_some] at hX
      rw [List.getElem?_eq_getElem hlt] at hX
      unfold Am.iT
      walk_at "wps"
      exact ⟨_, atI_nat (by rw [List.getElem?_map, List.getElem?_eq_getElem hlt]; rfl), hX⟩
    · refine ⟨_, .lst _, ret_same ?_⟩
      have e : (facS S A).map D.int = (List.range (S.map Am.iT).length).map fun i => D.int ((S.getD i []).getD (A.getD i 0) 0) := by
        unfold facS
        rw [zw_rng (fun s a => List.getD s a 0) [] 0 hl, List.map_map, List.length_map]
        rfl
      rw [← e]
      exact h
def c_segment_answers (C : Addr) : Con := fun ds μ Φ _ => ∃ (gs : List Ch) (S : List (List Int)), ds = [.tup (gs.map (chO C)), .tup (S.map Am.iT)] ∧ gs.length = S.length ∧ S.length ≤ 1000 ∧ (∀ (i : Nat) g s, gs[i]? = some g → S[i]? = some s → ChOk g ∧ CtxO g s) ∧ Φ (.tup (natL (ansS gs S))) μ
theorem len_segment_answers {C ds μ Φ Ψ} (h : c_segment_answers C ds μ Φ Ψ) : ds.length = 2 := by obtain ⟨_, _, rfl, _⟩ := h; rfl
def ch0 : Ch := ⟨0, 0, []⟩
theorem ok_segment_answers (T : Txt P w K mg) : FnOk P w K mg base (L2N.CX P w) 6 T.f_segment_answers T.d_segment_answers ["choosers", "segments"] (spOf K (c_segment_answers T.c_Chooser)) := by
  refine def_okC T.F_segment_answers sc_segment_answers _ (fun ds μ Φ Ψ h => len_segment_answers h) (fun cdv A outer s H E B hW hr =>
    have tk : L2N.Takes (cxOf (L2N.CX P w) P w K mg base N_segment_answers "segment_answers" (defScope s_segment_answers) T.f_segment_answers cdv A outer s H E) (fun cls d _ H => E cls d H) := L2N.takes_of rfl rfl rfl rfl
    ⟨_, (pss_one (ps_ret (pe_callTy call_tupleN (by rfl) T.z_tuple (by decide +kernel) (pa_cons (pe_lc (own := [("chooser", 2), ("segment", 3)]) rfl sc_segment_answers.nd (RZ.pi_zipA (by rfl) T.z_zip (pa_cons (pv 0) (pa_cons (pv 1) pa_nil))) (blkOk_by (N := N_segment_answers) (sc := defScope s_segment_answers) (by decide +kernel)) (fun _ _ _ _ _ => (pg_tup (n := 2) rfl (pgs_cons (pg_name (i := 2) sc_segment_answers.nd rfl (Or.inl rfl)) (pgs_cons (pg_name (i := 3) sc_segment_answers.nd rfl (Or.inl rfl)) pgs_nil)))) (fun _ _ _ _ _ => pts_nil) (fun _ _ _ _ _ => (pe_call (ok_picked_option T) hr rfl T.g_picked_option T.F_picked_option.kp T.b_picked_option .nil passN (pa_cons (pv 2) (pa_cons (pv 3) pa_nil))))) pa_nil)))),
      (sRet (sCB rcTuple (sCons (sLc (siZipT sVar sVar) (gwTup (gwConsN List.mem_cons_self (gwConsN (List.mem_cons_of_mem _ List.mem_cons_self) gwNil))) (fun _ _ _ => (sgTup (sgCons sName (sgCons sName sgNil)))) (fun _ _ _ => sYes) (fun _ _ _ => (sCall (sCons sVar (sCons sVar sNil))))) sNil)))⟩) (fun ds μ Φ Ψ h => ?hv)
  case hv =>
    obtain ⟨gs, S, rfl, hl, hS, hin, h⟩ := h
    walk_at "wps"
    refine lcZip (fun i => .int ((pk (gs.getD i ch0) (S.getD i []) : Nat) : Int)) (by rw [List.length_map, List.length_map]; exact hl) (by rw [List.length_map]; omega) (fun i x y μ2 X hx hy hsub hX => ?_) ?_
    · rw [List.getElem?_map, Option.map_eq_some_iff] at hx hy
      obtain ⟨g, hg, rfl⟩ := hx
      obtain ⟨s, hs, rfl⟩ := hy
      obtain ⟨hgo, hso⟩ := hin i g s hg hs
      simp only [List.getD_eq_getElem?_getD, hs, hg, Option.getD_some] at hX
      unfold Am.iT
      walk_at "wps"
      exact ⟨g, s, rfl, hgo, hso, hX⟩
    · refine ⟨_, .lst _, ret_same ?_⟩
      have e : natL (ansS gs S) = (List.range (gs.map (chO T.c_Chooser)).length).map fun i => D.int ((pk (gs.getD i ch0) (S.getD i []) : Nat) : Int) := by
        unfold natL ansS
        rw [zw_rng pk ch0 [] hl, List.map_map, List.length_map]
        rfl
      rw [← e]
      exact h
/-- a chooser and what stands behind its options -/
structure Beh (f : Ch) (gs : List Ch) : Prop where
  fo : ChOk f
  ln : gs.length = f.n
  go : ∀ g ∈ gs, ChOk g ∧ g.k = f.k
def SegOk (gs : List Ch) (S : List (List Int)) : Prop := gs.length = S.length ∧ ∀ (i : Nat) g s, gs[i]? = some g → S[i]? = some s → CtxO g s
theorem ans_len {gs : List Ch} {S : List (List Int)} (h : SegOk gs S) : (ansS gs S).length = gs.length := by unfold ansS; rw [List.length_zipWith, h.1, Nat.min_self]
theorem ans_get {gs : List Ch} {S : List (List Int)} {i : Nat} {g : Ch} {s : List Int} (hg : gs[i]? = some g) (hs : S[i]? = some s) : (ansS gs S)[i]? = some (pk g s) := by
  unfold ansS; rw [List.getElem?_zipWith, hg, hs]
theorem fac_ok {f : Ch} {gs : List Ch} {S : List (List Int)} (hb : Beh f gs) (h : SegOk gs S) : CtxO f (facS S (ansS gs S)) ∧ ∀ (i : Nat) s a, S[i]? = some s → (ansS gs S)[i]? = some a → a < s.length := by
  have key : ∀ (i : Nat) s a, S[i]? = some s → (ansS gs S)[i]? = some a → a < s.length ∧ ∃ g, ChOk g ∧ g.k = f.k ∧ CtxO g s := fun i s a hs ha => by
    have hi : i < gs.length := by rw [h.1]; exact (List.getElem?_eq_some_iff.mp hs).1
    have hg : gs[i]? = some gs[i] := List.getElem?_eq_getElem hi
    rw [ans_get hg hs] at ha
    cases ha
    have hgo := hb.go _ (List.getElem_mem hi)
    have hso := h.2 i _ s hg hs
    exact ⟨by rw [hso.1]; exact (pk_at hgo.1 hso).2, _, hgo.1, hgo.2, hso⟩
  refine ⟨⟨?_, fun r hr => ?_⟩, fun i s a hs ha => (key i s a hs ha).1⟩
  · unfold facS; rw [List.length_zipWith, ans_len h, h.1, Nat.min_self, ← h.1, hb.ln]
  · obtain ⟨i, hi⟩ := List.mem_iff_getElem?.mp hr
    unfold facS at hi
    rw [List.getElem?_zipWith] at hi
    cases hs : S[i]? with
    | none => rw [hs] at hi; simp at hi
    | some s =>
      cases ha : (ansS gs S)[i]? with
      | none => rw [hs, ha] at hi; simp at hi
      | some a =>
        rw [hs, ha] at hi
        obtain ⟨hlt, g, _, hk, hso⟩ := key i s a hs ha
        simp only [Option.some.injEq] at hi
        rw [List.getD_eq_getElem?_getD, List.getElem?_eq_getElem hlt, Option.getD_some] at hi
        rw [← hi, ← hk]
        exact hso.2 _ (List.getElem_mem hlt)
def c_option_behind (C : Addr) : Con := fun ds μ Φ _ => ∃ (f : Ch) (gs : List Ch) (S : List (List Int)), ds = [chO C f, .tup (gs.map (chO C)), .tup (S.map Am.iT)] ∧ Beh f gs ∧ SegOk gs S ∧ Φ (.int (behS f gs S)) μ
theorem len_option_behind {C ds μ Φ Ψ} (h : c_option_behind C ds μ Φ Ψ) : ds.length = 3 := by obtain ⟨_, _, _, rfl, _⟩ := h; rfl
theorem nat_sum (l : List Nat) : (l.map fun (i : Nat) => (i : Int)).sum = ((l.sum : Nat) : Int) := by
  induction l with
  | nil => rfl
  | cons a l ih => rw [List.map_cons, List.sum_cons, List.sum_cons, ih, Int.natCast_add]
theorem natL_int (l : List Nat) : natL l = (l.map fun (i : Nat) => (i : Int)).map .int := by unfold natL; rw [List.map_map]; rfl
theorem natL_at {l : List Nat} {i : Nat} (h : i < l.length) : atI (natL l) (i : Int) = some (.int ((l.getD i 0 : Nat) : Int)) := by
  refine atI_nat ?_
  unfold natL
  rw [List.getElem?_map, List.getElem?_eq_getElem h, List.getD_eq_getElem?_getD, List.getElem?_eq_getElem h]; rfl
theorem opts_rng (gs : List Ch) : ((List.range gs.length).map fun i => D.int ((gs.getD i ch0).n : Int)) = natL (gs.map (·.n)) := by
  unfold natL
  rw [List.map_map]
  apply List.ext_getElem
  · simp
  · intro i h1 h2
    simp at h1
    simp [List.getD_eq_getElem?_getD, List.getElem?_eq_getElem h1]
theorem ok_option_behind (T : Txt P w K mg) : FnOk P w K mg base (L2N.CX P w) 7 T.f_option_behind T.d_option_behind ["first", "nexts", "segments"] (spOf K (c_option_behind T.c_Chooser)) := by
  refine def_okC T.F_option_behind sc_option_behind _ (fun ds μ Φ Ψ h => len_option_behind h) (fun cdv A outer s H E B hW hr =>
    have tk : L2N.Takes (cxOf (L2N.CX P w) P w K mg base N_option_behind "option_behind" (defScope s_option_behind) T.f_option_behind cdv A outer s H E) (fun cls d _ H => E cls d H) := L2N.takes_of rfl rfl rfl rfl
    ⟨_, (pss_cons (ps_set (i := 3) sc_option_behind.nd rfl (Or.inl rfl) (pe_call (ok_segment_answers T) hr rfl T.g_segment_answers T.F_segment_answers.kp T.b_segment_answers .nil passN (pa_cons (pv 1) (pa_cons (pv 2) pa_nil))))
      (pss_cons (ps_set (i := 4) sc_option_behind.nd rfl (Or.inl rfl) (pe_call (ok_picked_option T) (hr.mono (by decide)) rfl T.g_picked_option T.F_picked_option.kp T.b_picked_option .nil passN (pa_cons (pv 0) (pa_cons (pe_call (ok_answered_context T) (hr.mono (by decide)) rfl T.g_answered_context T.F_answered_context.kp T.b_answered_context .nil passN (pa_cons (pv 2) (pa_cons (pv 3) pa_nil))) pa_nil))))
      (pss_one (ps_ret (pe_op op_add (pe_callB (cr_sum rfl) (by rfl) T.z_sum (by decide +kernel) (pa_cons (pe_lc (own := [("chooser", 5)]) rfl sc_option_behind.nd (pi_tup (pe_slice sl_tupN (pv 1) po_none (po_some (pv 4)))) (blkOk_by (N := N_option_behind) (sc := defScope s_option_behind) (by decide +kernel)) (fun _ _ _ _ _ => (pg_name (i := 5) sc_option_behind.nd rfl (Or.inl rfl))) (fun _ _ _ _ _ => pts_nil) (fun _ _ _ _ _ => (pe_fld (pv 5) rfl))) pa_nil)) (pe_ix ix_tup (pv 3) (pv 4) (fun _ _ => rfl))))))),
      (sSeq (sAsg (sCall (sCons sVar (sCons sVar sNil))) sName)
      (sSeq (sAsg (sCall (sCons sVar (sCons (sCall (sCons sVar (sCons sVar sNil))) sNil))) sName)
      (sRet (sOp roInt0 (sCB rcSum (sCons (sLc (siT (sSlT sVar sNoPart (sPart sVar))) (gwName List.mem_cons_self) (fun _ _ _ => sName) (fun _ _ _ => sYes) (fun _ _ _ => (sFldO (NS := NSA) (i := 0) T.cls_Chooser T.na_Chooser_options rfl (by decide) sVar))) sNil)) (sOp roIxT sVar sVar)))))⟩) (fun ds μ Φ Ψ h => ?hv)
  case hv =>
    obtain ⟨f, gs, S, rfl, hb, hS, h⟩ := h
    have hf8 := hb.fo.n8
    have hln := hb.ln
    have hS1 := hS.1
    obtain ⟨hfo, hin⟩ := fac_ok hb hS
    refine seq_cut fun M hM => ?_
    walk_at "wp"
    refine ⟨gs, S, rfl, hS.1, by omega, fun i g s hg hs => ⟨(hb.go g (List.mem_of_getElem? hg)).1, hS.2 i g s hg hs⟩, ?_⟩
    rw [hM]; clear hM M
    refine seq_cut fun M hM => ?_
    walk_at "wp"
    refine ⟨S, ansS gs S, rfl, by rw [ans_len hS, hS.1], by omega, hin, ?_⟩
    refine ⟨f, facS S (ansS gs S), rfl, hb.fo, hfo, ?_⟩
    obtain ⟨o, ho⟩ : ∃ o, o = pk f (facS S (ansS gs S)) := ⟨_, rfl⟩
    have hol : o < gs.length := by rw [ho, hb.ln]; exact (pk_at hb.fo hfo).2
    have hres : behS f gs S = ((gs.take o).map (·.n)).sum + (ansS gs S).getD o 0 := by unfold behS; simp only; rw [← ho]
    rw [hres] at h
    rw [← ho]
    rw [hM]; clear hM M
    walk_at "wps"
    rw [← List.map_take]
    refine lcG_mapN (fun i => .int (((gs.take o).getD i ch0).n : Int)) (by rw [List.length_map, List.length_take]; omega) (fun i d μ2 X hi hsub hx => ?_) ?_
    · rw [List.getElem?_map, Option.map_eq_some_iff] at hi
      obtain ⟨g, hg, rfl⟩ := hi
      rw [List.getD_eq_getElem?_getD, hg] at hx
      unfold chO
      walk_at "wps"
      exact hx
    · rw [List.length_map, opts_rng, natL_int]
      refine w_sumL ⟨_, natL_at (by rw [ans_len hS]; exact hol), ?_⟩
      rw [nat_sum]
      walk_at "wps"
      refine ret_same ?_
      rw [Int.natCast_add] at h
      exact h
def c_row_behind (C : Addr) : Con := fun ds μ Φ _ => ∃ (f : Ch) (gs : List Ch) (T : Nat), ds = [chO C f, .tup (gs.map (chO C))] ∧ Beh f gs ∧ (gs.map (·.n)).sum = T ∧ 1 ≤ T ∧ T ≤ 8 ∧ f.k ^ T ≤ 256 ∧ Φ (.tup (natL ((ctxs T f.k).map (behT f gs)))) μ
theorem len_row_behind {C ds μ Φ Ψ} (h : c_row_behind C ds μ Φ Ψ) : ds.length = 2 := by obtain ⟨_, _, _, rfl, _⟩ := h; rfl
theorem seg_ok : ∀ {gs : List Ch} {x : List Int} {k : Nat}, (∀ g ∈ gs, g.k = k) → x.length = (gs.map (·.n)).sum → (∀ r ∈ x, 0 ≤ r ∧ r < (k : Int)) → SegOk gs (segs (gs.map (·.n)) x)
  | [], x, k, _, _, _ => ⟨rfl, fun i g s hg _ => by simp at hg⟩
  | g :: gs, x, k, hk, hx, hr => by
    rw [List.map_cons, List.sum_cons] at hx
    have ih := seg_ok (gs := gs) (x := x.drop g.n) (k := k) (fun y hy => hk y (List.mem_cons_of_mem _ hy)) (by rw [List.length_drop]; omega) (fun r h => hr r (List.mem_of_mem_drop h))
    refine ⟨by rw [List.map_cons, segs, List.length_cons, List.length_cons, ih.1], fun i g' s hg hs => ?_⟩
    rw [List.map_cons, segs] at hs
    cases i with
    | zero =>
      simp at hg hs
      subst hg hs
      exact ⟨by rw [List.length_take]; omega, fun r h => by rw [hk g List.mem_cons_self]; exact hr r (List.mem_of_mem_take h)⟩
    | succ i => exact ih.2 i g' s hg hs
theorem ok_row_behind (T : Txt P w K mg) : FnOk P w K mg base (L2N.CX P w) 8 T.f_row_behind T.d_row_behind ["first", "nexts"] (spOf K (c_row_behind T.c_Chooser)) := by
  refine def_okC T.F_row_behind sc_row_behind _ (fun ds μ Φ Ψ h => len_row_behind h) (fun cdv A outer s H E B hW hr =>
    have tk : L2N.Takes (cxOf (L2N.CX P w) P w K mg base N_row_behind "row_behind" (defScope s_row_behind) T.f_row_behind cdv A outer s H E) (fun cls d _ H => E cls d H) := L2N.takes_of rfl rfl rfl rfl
    ⟨_, (pss_cons (ps_set (i := 2) sc_row_behind.nd rfl (Or.inr rfl) (pe_lc (own := [("chooser", 4)]) rfl sc_row_behind.nd (pi_tup (pv 1)) (blkOk_by (N := N_row_behind) (sc := defScope s_row_behind) (by decide +kernel)) (fun _ _ _ _ _ => (pg_name (i := 4) sc_row_behind.nd rfl (Or.inl rfl))) (fun _ _ _ _ _ => pts_nil) (fun _ _ _ _ _ => (pe_fld (pv 4) rfl))))
      (pss_cons (ps_set (i := 3) sc_row_behind.nd rfl (Or.inl rfl) (pe_call (ok_all_contexts T) (hr.mono (by decide)) rfl T.g_all_contexts T.F_all_contexts.kp T.b_all_contexts .nil passN (pa_cons (pe_callB (cr_sum rfl) (by rfl) T.z_sum (by decide +kernel) (pa_cons (pv 2) pa_nil)) (pa_cons (pe_fld (pv 0) rfl) pa_nil))))
      (pss_one (ps_ret (pe_callTy call_tupleN (by rfl) T.z_tuple (by decide +kernel) (pa_cons (pe_lc (own := [("context", 5)]) rfl sc_row_behind.nd (pi_tup (pv 3)) (blkOk_by (N := N_row_behind) (sc := defScope s_row_behind) (by decide +kernel)) (fun _ _ _ _ _ => (pg_name (i := 5) sc_row_behind.nd rfl (Or.inl rfl))) (fun _ _ _ _ _ => pts_nil) (fun _ _ _ _ _ => (pe_call (ok_option_behind T) hr rfl T.g_option_behind T.F_option_behind.kp T.b_option_behind .nil passN (pa_cons (pv 0) (pa_cons (pv 1) (pa_cons (pe_call (ok_segments_of T) (hr.mono (by decide)) rfl T.g_segments_of T.F_segments_of.kp T.b_segments_of .nil passN (pa_cons (pv 2) (pa_cons (pv 5) pa_nil))) pa_nil)))))) pa_nil)))))),
      (sSeq (sAsg (sLc (siT sVar) (gwName List.mem_cons_self) (fun _ _ _ => sName) (fun _ _ _ => sYes) (fun _ _ _ => (sFldO (NS := NSA) (i := 0) T.cls_Chooser T.na_Chooser_options rfl (by decide) sVar))) sName)
      (sSeq (sAsg (sCall (sCons (sCB rcSum (sCons sVar sNil)) (sCons (sFldO (NS := NSA) (i := 1) T.cls_Chooser T.na_Chooser_outcomes rfl (by decide) sVar) sNil))) sName)
      (sRet (sCB rcTuple (sCons (sLc (siT sVar) (gwName List.mem_cons_self) (fun _ _ _ => sName) (fun _ _ _ => sYes) (fun _ _ _ => (sCall (sCons sVar (sCons sVar (sCons (sCall (sCons sVar (sCons sVar sNil))) sNil)))))) sNil)))))⟩) (fun ds μ Φ Ψ h => ?hv)
  case hv =>
    obtain ⟨f, gs, m, rfl, hb, hm, m1, m8, hk, h⟩ := h
    have hf8 := hb.fo.n8
    have hln := hb.ln
    refine seq_cut fun M hM => ?_
    walk_at "wp"
    refine lcG_mapN (fun i => .int ((gs.getD i ch0).n : Int)) (by rw [List.length_map]; omega) (fun i d μ2 X hi hsub hx => ?_) ?_
    · rw [List.getElem?_map, Option.map_eq_some_iff] at hi
      obtain ⟨g, hg, rfl⟩ := hi
      rw [List.getD_eq_getElem?_getD, hg] at hx
      unfold chO
      walk_at "wps"
      exact hx
    rw [List.length_map, opts_rng]
    rw [hM]; clear hM M
    refine seq_cut fun M hM => ?_
    rw [show chO T.c_Chooser f = D.obj T.c_Chooser NSA [.int f.n, .int f.k, .tup (f.row.map .int)] from rfl]
    walk_at "wp"
    rw [natL_int]
    refine w_sumL ?_
    rw [nat_sum, hm, ← natL_int]
    refine ⟨m, f.k, rfl, m1, m8, hb.fo.k1, hb.fo.k4, hk, ?_⟩
    rw [hM]; clear hM M
    walk_at "wps"
    have hcl : (ctxs m f.k).length = f.k ^ m := ctxs_len hb.fo.k1 m
    refine lcG_mapN (fun i => .int ((behT f gs ((ctxs m f.k).getD i []) : Nat) : Int)) (by rw [List.length_map, hcl]; omega) (fun i d μ2 X hi hsub hx => ?_) ?_
    · rw [List.getElem?_map, Option.map_eq_some_iff] at hi
      obtain ⟨x, hx0, rfl⟩ := hi
      have hxm := List.mem_of_getElem? hx0
      have hok := ctxs_ok m1 (by omega) hb.fo.k1 hb.fo.k4 hxm
      rw [List.getD_eq_getElem?_getD, hx0] at hx
      unfold Am.iT
      walk_at "wps"
      refine .inr ⟨gs.map (·.n), x, rfl, by rw [List.length_map]; omega, by rw [hok.len]; omega, ?_⟩
      refine ⟨f, gs, segs (gs.map (·.n)) x, rfl, hb, seg_ok (fun g hg => (hb.go g hg).2) (by rw [hok.len, hm]) (fun r hr => ⟨hok.lo r hr, hok.hi r hr⟩), ?_⟩
      exact hx
    · refine ⟨_, .lst _, ret_same ?_⟩
      have e : natL ((ctxs m f.k).map (behT f gs)) = (List.range ((ctxs m f.k).map Am.iT).length).map fun i => D.int ((behT f gs ((ctxs m f.k).getD i []) : Nat) : Int) := by
        unfold natL
        rw [List.map_map, List.length_map]
        apply List.ext_getElem
        · simp
        · intro i h1 h2
          simp at h1
          simp [List.getD_eq_getElem?_getD, List.getElem?_eq_getElem h1]
      rw [← e]
      exact h
def c_Chooser___init__ (C : Addr) : Con := fun ds μ Φ _ => ∃ (x : Addr) (c : Ch), ds = [.hd (.ref x), .int c.n, .int c.k, .tup (c.row.map .int)] ∧ ChOk c ∧ μ x = some (.ins C [] []) ∧ Φ .non (sset μ x (.ins C NSA [.int c.n, .int c.k, .tup (c.row.map .int)]))
theorem len_Chooser___init__ {C ds μ Φ Ψ} (h : c_Chooser___init__ C ds μ Φ Ψ) : ds.length = 4 := by obtain ⟨_, _, rfl, _⟩ := h; rfl
theorem ok_Chooser___init__ (T : Txt P w K mg) : FnOk P w K mg base (L2N.CX P w) 9 T.f_Chooser___init__ T.d_Chooser___init__ ["self", "options", "outcomes", "row"] (spOf K (c_Chooser___init__ T.c_Chooser)) := by
  refine def_okC T.F_Chooser___init__ sc_Chooser___init__ _ (fun ds μ Φ Ψ h => len_Chooser___init__ h) (fun cdv A outer s H E B hW hr =>
    have tk : L2N.Takes (cxOf (L2N.CX P w) P w K mg base N_Chooser___init__ "Chooser.__init__" (defScope s_Chooser___init__) T.f_Chooser___init__ cdv A outer s H E) (fun cls d _ H => E cls d H) := L2N.takes_of rfl rfl rfl rfl
    ⟨_, (pss_cons (ps_if (pt_not (pt_val (pe_call (ok_is_small T) (hr.mono (by decide)) rfl T.g_is_small T.F_is_small.kp T.b_is_small .nil passN (pa_cons (pv 1) (pa_cons (pv 2) pa_nil))))) (pss_one (L2N.ps_raise rfl tk (L2N.pmk_own PySem.F.excBase_ValueError T.x_OutOfRange T.g_OutOfRange T.k_OutOfRange (raises_own T.e_OutOfRange T.t_OutOfRange) rfl))) pss_nil)
      (pss_cons (ps_set (i := 4) sc_Chooser___init__.nd rfl (Or.inl rfl) (pe_call (ok_wrong_index T) (hr.mono (by decide)) rfl T.g_wrong_index T.F_wrong_index.kp T.b_wrong_index .nil passN (pa_cons (pv 1) (pa_cons (pv 2) (pa_cons (pv 3) pa_nil)))))
      (pss_cons (ps_if (pt_cmpR op_notN (pv 4) pe_non (nomark _)) (pss_one (L2N.ps_raise rfl tk (pmk_sup T.ox_InvalidChooser T.ic_InvalidChooser T.ti_InvalidChooser T.no_InvalidChooser T.in_InvalidChooser (hr.mono (by decide)) T.bi_InvalidChooser passN rfl T.g_InvalidChooser (pa_cons (pv 4) pa_nil)))) pss_nil)
      (pss_cons (ps_fld (pv 0) (pv 1) rfl)
      (pss_cons (ps_fld (pv 0) (pv 2) rfl)
      (pss_one (ps_fld (pv 0) (pv 3) rfl))))))),
      (sSeq (sIfS (sNot (sB (sCall (sCons sVar (sCons sVar sNil))))) (sRaise0W (W := fun cls d _ H => E cls d H) (C := T.c_OutOfRange) (by exact hW)) sNext)
      (sSeq (sAsg (sCall (sCons sVar (sCons sVar (sCons sVar sNil)))) sName)
      (sSeq (sIfS (sTest (sOp roNotN sVar sNon)) (sRaise1 (W := fun cls d _ H => E cls d H) (C := T.c_InvalidChooser) (fld := "index") (by exact hW) okdInt_ok sVar) sNext)
      (sSeq (sSetF T.cls_Chooser T.na_Chooser_options sVar sVar)
      (sSeq (sSetF T.cls_Chooser T.na_Chooser_outcomes sVar sVar)
      (sSetF T.cls_Chooser T.na_Chooser_row sVar sVar))))))⟩) (fun ds μ Φ Ψ h => ?hv)
  case hv =>
    obtain ⟨x, c, rfl, hc, hx, h⟩ := h
    walk_at "wps"
    refine ⟨c.n, c.k, rfl, hc.n1, hc.k1, hc.k4, ?_⟩
    rw [decide_eq_true (show c.n ≤ 8 ∧ c.k ^ c.n ≤ 256 from ⟨hc.n8, hc.sm⟩)]
    walk_at "wps"
    refine ⟨c.n, c.k, c.row, rfl, hc.n8, hc.k1, hc.k4, hc.len, hc.sm, hc.en, ?_⟩
    walk_at "wps"
    refine ⟨x, [], [], rfl, hx, by decide, by decide, x, _, _, rfl, sset_same, by decide, by decide, x, _, _, rfl, sset_same, by decide, by decide, ?_⟩
    rw [sset_sset, sset_sset]
    exact ret_same h
end
section
variable {P : Program} {w : World} {K : Fg} {mg : Str → Option Value} {base : Heap}
def c_require_same_outcomes (C S : Addr) : Con := fun ds μ Φ Ψ => ∃ (f : Ch) (gs : List Ch), ds = [chO C f, .tup (gs.map (chO C))] ∧ gs.length ≤ 1000 ∧ ((∃ g ∈ gs, g.k ≠ f.k) → Ψ (.mk S none) μ) ∧ ((∀ g ∈ gs, g.k = f.k) → Φ .non μ)
theorem len_require_same_outcomes {C S ds μ Φ Ψ} (h : c_require_same_outcomes C S ds μ Φ Ψ) : ds.length = 2 := by obtain ⟨_, _, rfl, _⟩ := h; rfl
theorem chO_eq (C : Addr) (c : Ch) : chO C c = D.obj C NSA [.int c.n, .int c.k, .tup (c.row.map .int)] := rfl
theorem ok_require_same_outcomes (T : Txt P w K mg) : FnOk P w K mg base (L2N.CX P w) 1 T.f_require_same_outcomes T.d_require_same_outcomes ["first", "others"] (spOf K (c_require_same_outcomes T.c_Chooser T.c_SizeMismatch)) := by
  refine def_okC T.F_require_same_outcomes sc_require_same_outcomes _ (fun ds μ Φ Ψ h => len_require_same_outcomes h) (fun cdv A outer s H E B hW hr =>
    have tk : L2N.Takes (cxOf (L2N.CX P w) P w K mg base N_require_same_outcomes "require_same_outcomes" (defScope s_require_same_outcomes) T.f_require_same_outcomes cdv A outer s H E) (fun cls d _ H => E cls d H) := L2N.takes_of rfl rfl rfl rfl
    ⟨_, (pss_one (ps_for (passes_of rfl) rfl (pi_tup (pv 1)) (pg_name (i := 2) sc_require_same_outcomes.nd rfl (Or.inl rfl)) (pss_one (ps_if (pt_cmpR op_ne (pe_fld (pv 2) rfl) (pe_fld (pv 0) rfl) (nomark _)) (pss_one (L2N.ps_raise rfl tk (L2N.pmk_own PySem.F.excBase_ValueError T.x_SizeMismatch T.g_SizeMismatch T.k_SizeMismatch (raises_own T.e_SizeMismatch T.t_SizeMismatch) rfl))) pss_nil)))),
      (sFor (siT sVar) (fun _ _ _ => sName) (fun _ _ _ => (sIfS (sTest (sOp roNe (sFldO (NS := NSA) (i := 1) T.cls_Chooser T.na_Chooser_outcomes rfl (by decide) sVar) (sFldO (NS := NSA) (i := 1) T.cls_Chooser T.na_Chooser_outcomes rfl (by decide) sVar))) (sRaise0W (W := fun cls d _ H => E cls d H) (C := T.c_SizeMismatch) (by exact hW)) sNext)))⟩) (fun ds μ Φ Ψ h => ?hv)
  case hv =>
    obtain ⟨f, gs, rfl, hl, h1, h2⟩ := h
    walk_at "wps"
    refine ⟨fun i δ' μ' => μ' = μ ∧ (∀ (j : Nat) g, j < i → gs[j]? = some g → g.k = f.k) ∧ ∃ x : Option D, δ' = [some (chO T.c_Chooser f), some (.tup (gs.map (chO T.c_Chooser))), x], ⟨rfl, fun j g hj => by omega, none, rfl⟩, ?_, ?_⟩
    · rintro i d δ' μ' hi ⟨rfl, hall, x, rfl⟩
      rw [List.getElem?_map, Option.map_eq_some_iff] at hi
      obtain ⟨g, hg, rfl⟩ := hi
      rw [chO_eq _ g, chO_eq _ f]
      walk_at "wps"
      refine ⟨fun q => ⟨_, Sub.refl, h1 ⟨g, List.mem_of_getElem? hg, fun z => by rw [z] at q; simp at q⟩⟩, fun q => ⟨fun j g' hj hg' => ?_, _, rfl⟩⟩
      rcases Nat.lt_or_ge j i with hj2 | hj2
      · exact hall j g' hj2 hg'
      · have : j = i := by omega
        subst this
        rw [hg] at hg'; cases hg'
        exact Classical.byContradiction fun z => by
          have : decide ((g.k : Int) = (f.k : Int)) = false := decide_eq_false fun e => z (Int.ofNat.inj e)
          rw [this] at q; cases q
    · rintro δ' μ' ⟨rfl, hall, x, rfl⟩
      walk_at "wps"
      refine ret_same (h2 fun g hg => ?_)
      obtain ⟨j, hj⟩ := List.mem_iff_getElem?.mp hg
      exact hall j g (by simpa using (List.getElem?_eq_some_iff.mp hj).1) hj
/-- one for each option, of the same outcomes -/
def Fol (f : Ch) (gs : List Ch) : Prop := gs.length = f.n ∧ ∀ g ∈ gs, g.k = f.k
def c_require_followed (C S : Addr) : Con := fun ds μ Φ Ψ => ∃ (f : Ch) (gs : List Ch), ds = [chO C f, .tup (gs.map (chO C))] ∧ gs.length ≤ 1000 ∧ (¬ Fol f gs → Ψ (.mk S none) μ) ∧ (Fol f gs → Φ .non μ)
theorem len_require_followed {C S ds μ Φ Ψ} (h : c_require_followed C S ds μ Φ Ψ) : ds.length = 2 := by obtain ⟨_, _, rfl, _⟩ := h; rfl
theorem ok_require_followed (T : Txt P w K mg) : FnOk P w K mg base (L2N.CX P w) 2 T.f_require_followed T.d_require_followed ["first", "nexts"] (spOf K (c_require_followed T.c_Chooser T.c_SizeMismatch)) := by
  refine def_okC T.F_require_followed sc_require_followed _ (fun ds μ Φ Ψ h => len_require_followed h) (fun cdv A outer s H E B hW hr =>
    have tk : L2N.Takes (cxOf (L2N.CX P w) P w K mg base N_require_followed "require_followed" (defScope s_require_followed) T.f_require_followed cdv A outer s H E) (fun cls d _ H => E cls d H) := L2N.takes_of rfl rfl rfl rfl
    ⟨_, (pss_cons (ps_if (pt_cmpR op_ne (pe_callB call_len_seq (by rfl) T.z_len PySem.boot_len (pa_cons (pv 1) pa_nil)) (pe_fld (pv 0) rfl) (nomark _)) (pss_one (L2N.ps_raise rfl tk (L2N.pmk_own PySem.F.excBase_ValueError T.x_SizeMismatch T.g_SizeMismatch T.k_SizeMismatch (raises_own T.e_SizeMismatch T.t_SizeMismatch) rfl))) pss_nil)
      (pss_one (ps_expr (pe_callS (ok_require_same_outcomes T) hr rfl T.g_require_same_outcomes T.F_require_same_outcomes.kp T.b_require_same_outcomes (fun σ => L2N.passAt tk σ) (pa_cons (pv 0) (pa_cons (pv 1) pa_nil)))))),
      (sSeq (sIfS (sTest (sOp roNe (sCB rcLen (sCons sVar sNil)) (sFldO (NS := NSA) (i := 0) T.cls_Chooser T.na_Chooser_options rfl (by decide) sVar))) (sRaise0W (W := fun cls d _ H => E cls d H) (C := T.c_SizeMismatch) (by exact hW)) sNext)
      (sDrop (sCallSW (W := fun cls d _ H => E cls d H) (by exact hW) (sCons sVar (sCons sVar sNil)))))⟩) (fun ds μ Φ Ψ h => ?hv)
  case hv =>
    obtain ⟨f, gs, rfl, hl, h1, h2⟩ := h
    refine seq_cut fun M hM => ?_
    rw [chO_eq]
    walk_at "wp"
    refine ⟨fun q => ⟨_, Sub.refl, h1 fun z => ?_⟩, fun q => ?_⟩
    · have := z.1
      rw [this] at q; simp at q
    · have hn : gs.length = f.n := Classical.byContradiction fun z => by
        have : decide ((gs.length : Int) = (f.n : Int)) = false := decide_eq_false fun e => z (Int.ofNat.inj e)
        rw [this] at q; cases q
      rw [hM]; clear hM M
      walk_at "wps"
      refine ⟨f, gs, rfl, hl, fun ⟨g, hg, z⟩ => ⟨_, Sub.refl, h1 fun z2 => z (z2.2 g hg)⟩, fun z => ret_same (h2 ⟨hn, z⟩)⟩
def c_option_counts (C : Addr) : Con := fun ds μ Φ _ => ∃ (gs : List Ch), ds = [.tup (gs.map (chO C))] ∧ gs.length ≤ 1000 ∧ Φ (.tup (natL (gs.map (·.n)))) μ
theorem len_option_counts {C ds μ Φ Ψ} (h : c_option_counts C ds μ Φ Ψ) : ds.length = 1 := by obtain ⟨_, rfl, _⟩ := h; rfl
theorem ok_option_counts (T : Txt P w K mg) : FnOk P w K mg base (L2N.CX P w) 1 T.f_option_counts T.d_option_counts ["nexts"] (spOf K (c_option_counts T.c_Chooser)) := by
  refine def_okC T.F_option_counts sc_option_counts _ (fun ds μ Φ Ψ h => len_option_counts h) (fun cdv A outer s H E B hW hr =>
    have tk : L2N.Takes (cxOf (L2N.CX P w) P w K mg base N_option_counts "option_counts" (defScope s_option_counts) T.f_option_counts cdv A outer s H E) (fun cls d _ H => E cls d H) := L2N.takes_of rfl rfl rfl rfl
    ⟨_, (pss_one (ps_ret (pe_callTy call_tupleN (by rfl) T.z_tuple (by decide +kernel) (pa_cons (pe_lc (own := [("each", 1)]) rfl sc_option_counts.nd (pi_tup (pv 0)) (blkOk_by (N := N_option_counts) (sc := defScope s_option_counts) (by decide +kernel)) (fun _ _ _ _ _ => (pg_name (i := 1) sc_option_counts.nd rfl (Or.inl rfl))) (fun _ _ _ _ _ => pts_nil) (fun _ _ _ _ _ => (pe_fld (pv 1) rfl))) pa_nil)))),
      (sRet (sCB rcTuple (sCons (sLc (siT sVar) (gwName List.mem_cons_self) (fun _ _ _ => sName) (fun _ _ _ => sYes) (fun _ _ _ => (sFldO (NS := NSA) (i := 0) T.cls_Chooser T.na_Chooser_options rfl (by decide) sVar))) sNil)))⟩) (fun ds μ Φ Ψ h => ?hv)
  case hv =>
    obtain ⟨gs, rfl, hl, h⟩ := h
    walk_at "wps"
    refine lcG_mapN (fun i => .int ((gs.getD i ch0).n : Int)) (by rw [List.length_map]; omega) (fun i d μ2 X hi hsub hx => ?_) ?_
    · rw [List.getElem?_map, Option.map_eq_some_iff] at hi
      obtain ⟨g, hg, rfl⟩ := hi
      rw [List.getD_eq_getElem?_getD, hg] at hx
      unfold chO
      walk_at "wps"
      exact hx
    · rw [List.length_map, opts_rng]
      exact ⟨_, .lst _, ret_same h⟩
def smlC (n k : Nat) : Prop := n ≤ 8 ∧ k ^ n ≤ 256
instance {n k : Nat} : Decidable (smlC n k) := inferInstanceAs (Decidable (_ ∧ _))
/-- the options of all that stand behind -/
def sumN (gs : List Ch) : Nat := (gs.map (·.n)).sum
theorem sumN_pos {f : Ch} {gs : List Ch} (hf : ChOk f) (hg : ∀ g ∈ gs, ChOk g) (h : Fol f gs) : 1 ≤ sumN gs := by
  cases gs with
  | nil => have := h.1; have := hf.n1; simp at *; omega
  | cons g gs => have := (hg g List.mem_cons_self).n1; show 1 ≤ ((g :: gs).map (·.n)).sum; rw [List.map_cons, List.sum_cons]; omega
def c_require_small_behind (C S L : Addr) : Con := fun ds μ Φ Ψ => ∃ (f : Ch) (gs : List Ch), ds = [chO C f, .tup (gs.map (chO C))] ∧ ChOk f ∧ (∀ g ∈ gs, ChOk g) ∧ gs.length ≤ 1000 ∧ (¬ Fol f gs → Ψ (.mk S none) μ) ∧ (Fol f gs → ¬ smlC (sumN gs) f.k → Ψ (.mk L none) μ) ∧ (Fol f gs → smlC (sumN gs) f.k → Φ .non μ)
theorem len_require_small_behind {C S L ds μ Φ Ψ} (h : c_require_small_behind C S L ds μ Φ Ψ) : ds.length = 2 := by obtain ⟨_, _, rfl, _⟩ := h; rfl
theorem ok_require_small_behind (T : Txt P w K mg) : FnOk P w K mg base (L2N.CX P w) 4 T.f_require_small_behind T.d_require_small_behind ["first", "nexts"] (spOf K (c_require_small_behind T.c_Chooser T.c_SizeMismatch T.c_TooLarge)) := by
  refine def_okC T.F_require_small_behind sc_require_small_behind _ (fun ds μ Φ Ψ h => len_require_small_behind h) (fun cdv A outer s H E B hW hr =>
    have tk : L2N.Takes (cxOf (L2N.CX P w) P w K mg base N_require_small_behind "require_small_behind" (defScope s_require_small_behind) T.f_require_small_behind cdv A outer s H E) (fun cls d _ H => E cls d H) := L2N.takes_of rfl rfl rfl rfl
    ⟨_, (pss_cons (ps_expr (pe_callS (ok_require_followed T) (hr.mono (by decide)) rfl T.g_require_followed T.F_require_followed.kp T.b_require_followed (fun σ => L2N.passAt tk σ) (pa_cons (pv 0) (pa_cons (pv 1) pa_nil))))
      (pss_one (ps_if (pt_not (pt_val (pe_call (ok_is_small T) hr rfl T.g_is_small T.F_is_small.kp T.b_is_small .nil passN (pa_cons (pe_callB (cr_sumT rfl) (by rfl) T.z_sum (by decide +kernel) (pa_cons (pe_call (ok_option_counts T) (hr.mono (by decide)) rfl T.g_option_counts T.F_option_counts.kp T.b_option_counts .nil passN (pa_cons (pv 1) pa_nil)) pa_nil)) (pa_cons (pe_fld (pv 0) rfl) pa_nil))))) (pss_one (L2N.ps_raise rfl tk (L2N.pmk_own PySem.F.excBase_ValueError T.x_TooLarge T.g_TooLarge T.k_TooLarge (raises_own T.e_TooLarge T.t_TooLarge) rfl))) pss_nil))),
      (sSeq (sDrop (sCallSW (W := fun cls d _ H => E cls d H) (by exact hW) (sCons sVar (sCons sVar sNil))))
      (sIfS (sNot (sB (sCall (sCons (sCB rcSumT (sCons (sCall (sCons sVar sNil)) sNil)) (sCons (sFldO (NS := NSA) (i := 1) T.cls_Chooser T.na_Chooser_outcomes rfl (by decide) sVar) sNil))))) (sRaise0W (W := fun cls d _ H => E cls d H) (C := T.c_TooLarge) (by exact hW)) sNext))⟩) (fun ds μ Φ Ψ h => ?hv)
  case hv =>
    obtain ⟨f, gs, rfl, hf, hg, hl, h1, h2, h3⟩ := h
    refine seq_cut fun M hM => ?_
    walk_at "wp"
    refine ⟨f, gs, rfl, hl, fun z => ⟨_, Sub.refl, h1 z⟩, fun z => ?_⟩
    have hp := sumN_pos hf hg z
    rw [hM]; clear hM M
    rw [chO_eq _ f]
    walk_at "wps"
    refine ⟨gs, rfl, hl, ?_⟩
    rw [natL_int]
    refine w_sumT ?_
    rw [nat_sum]
    refine ⟨sumN gs, f.k, rfl, hp, hf.k1, hf.k4, ?_⟩
    by_cases hs : smlC (sumN gs) f.k
    · rw [decide_eq_true (show sumN gs ≤ 8 ∧ f.k ^ sumN gs ≤ 256 from hs)]
      walk_at "wps"
      exact ret_same (h3 z hs)
    · rw [decide_eq_false (show ¬ (sumN gs ≤ 8 ∧ f.k ^ sumN gs ≤ 256) from hs)]
      walk_at "wps"
      exact ⟨_, Sub.refl, h2 z hs⟩
def behC (f : Ch) (gs : List Ch) : Ch := ⟨sumN gs, f.k, (ctxs (sumN gs) f.k).map fun x => ((behT f gs x : Nat) : Int)⟩
theorem pre_sum {ms : List Nat} {o m : Nat} (h : ms[o]? = some m) : (ms.take o).sum + m ≤ ms.sum := by
  have e : ms.take (o + 1) = ms.take o ++ [m] := by rw [List.take_add_one, h]; rfl
  have h2 : (ms.take (o + 1)).sum + (ms.drop (o + 1)).sum = ms.sum := by rw [← List.sum_append, List.take_append_drop]
  rw [e, List.sum_append, List.sum_singleton] at h2
  omega
theorem beh_lt {f : Ch} {gs : List Ch} {x : List Int} (hb : Beh f gs) (hx : x.length = sumN gs) (hr : ∀ r ∈ x, 0 ≤ r ∧ r < (f.k : Int)) : behT f gs x < sumN gs := by
  have hs := seg_ok (fun g hg => (hb.go g hg).2) hx hr
  obtain ⟨hfo, _⟩ := fac_ok hb hs
  have hol := (pk_at hb.fo hfo).2
  unfold behT behS
  simp only
  generalize pk f (facS (segs (gs.map (·.n)) x) (ansS gs (segs (gs.map (·.n)) x))) = o at hol
  have ho : o < gs.length := by rw [hb.ln]; exact hol
  have hg : gs[o]? = some gs[o] := List.getElem?_eq_getElem ho
  have hS : o < (segs (gs.map (·.n)) x).length := by rw [← hs.1]; exact ho
  have hs2 := List.getElem?_eq_getElem hS
  rw [List.getD_eq_getElem?_getD, ans_get hg hs2, Option.getD_some, List.map_take]
  have := (pk_at (hb.go _ (List.getElem_mem ho)).1 (hs.2 o _ _ hg hs2)).2
  have hp := pre_sum (ms := gs.map (·.n)) (o := o) (m := gs[o].n) (by rw [List.getElem?_map, hg]; rfl)
  unfold sumN
  omega
theorem Fol.beh {f : Ch} {gs : List Ch} (hf : ChOk f) (hg : ∀ g ∈ gs, ChOk g) (h : Fol f gs) : Beh f gs := ⟨hf, h.1, fun g hm => ⟨hg g hm, h.2 g hm⟩⟩
theorem beh_ok {f : Ch} {gs : List Ch} (hb : Beh f gs) (hs : smlC (sumN gs) f.k) : ChOk (behC f gs) := by
  have n1 := sumN_pos hb.fo (fun g hg => (hb.go g hg).1) ⟨hb.ln, fun g hg => (hb.go g hg).2⟩
  have n8 := hs.1
  refine ⟨n1, n8, hb.fo.k1, hb.fo.k4, hs.2, by unfold behC; rw [List.length_map, ctxs_len hb.fo.k1], fun z hz => ?_⟩
  obtain ⟨x, hx, rfl⟩ := List.mem_map.mp hz
  have hok := ctxs_ok n1 (by omega) hb.fo.k1 hb.fo.k4 hx
  exact ⟨Int.natCast_nonneg _, Int.ofNat_lt.mpr (beh_lt hb hok.len fun r hr => ⟨hok.lo r hr, hok.hi r hr⟩)⟩
def c_put_behind (C S L : Addr) : Con := fun ds μ Φ Ψ => ∃ (f : Ch) (gs : List Ch), ds = [chO C f, .tup (gs.map (chO C))] ∧ ChOk f ∧ (∀ g ∈ gs, ChOk g) ∧ gs.length ≤ 1000 ∧ (¬ Fol f gs → Ψ (.mk S none) μ) ∧ (Fol f gs → ¬ smlC (sumN gs) f.k → Ψ (.mk L none) μ) ∧ (Fol f gs → smlC (sumN gs) f.k → Φ (chO C (behC f gs)) μ)
theorem len_put_behind {C S L ds μ Φ Ψ} (h : c_put_behind C S L ds μ Φ Ψ) : ds.length = 2 := by obtain ⟨_, _, rfl, _⟩ := h; rfl
theorem ok_put_behind (T : Txt P w K mg) : FnOk P w K mg base (L2N.CX P w) 11 T.f_put_behind T.d_put_behind ["first", "nexts"] (spOf K (c_put_behind T.c_Chooser T.c_SizeMismatch T.c_TooLarge)) := by
  refine def_okC T.F_put_behind sc_put_behind _ (fun ds μ Φ Ψ h => len_put_behind h) (fun cdv A outer s H E B hW hr =>
    have tk : L2N.Takes (cxOf (L2N.CX P w) P w K mg base N_put_behind "put_behind" (defScope s_put_behind) T.f_put_behind cdv A outer s H E) (fun cls d _ H => E cls d H) := L2N.takes_of rfl rfl rfl rfl
    ⟨_, (pss_cons (ps_expr (pe_callS (ok_require_small_behind T) (hr.mono (by decide)) rfl T.g_require_small_behind T.F_require_small_behind.kp T.b_require_small_behind (fun σ => L2N.passAt tk σ) (pa_cons (pv 0) (pa_cons (pv 1) pa_nil))))
      (pss_one (ps_ret (pe_makeS T.mk_Chooser (ok_Chooser___init__ T) (hr.mono (by decide)) rfl T.g_Chooser T.b_Chooser___init__ (fun σ => L2N.passAt tk σ) (pa_cons (pe_callB (cr_sumT rfl) (by rfl) T.z_sum (by decide +kernel) (pa_cons (pe_call (ok_option_counts T) (hr.mono (by decide)) rfl T.g_option_counts T.F_option_counts.kp T.b_option_counts .nil passN (pa_cons (pv 1) pa_nil)) pa_nil)) (pa_cons (pe_fld (pv 0) rfl) (pa_cons (pe_call (ok_row_behind T) (hr.mono (by decide)) rfl T.g_row_behind T.F_row_behind.kp T.b_row_behind .nil passN (pa_cons (pv 0) (pa_cons (pv 1) pa_nil))) pa_nil))))))),
      (sSeq (sDrop (sCallSW (W := fun cls d _ H => E cls d H) (by exact hW) (sCons sVar (sCons sVar sNil))))
      (sRet (sMakeSW (W := fun cls d _ H => E cls d H) (by exact hW) (sCons (sCB rcSumT (sCons (sCall (sCons sVar sNil)) sNil)) (sCons (sFldO (NS := NSA) (i := 1) T.cls_Chooser T.na_Chooser_outcomes rfl (by decide) sVar) (sCons (sCall (sCons sVar (sCons sVar sNil))) sNil))))))⟩) (fun ds μ Φ Ψ h => ?hv)
  case hv =>
    obtain ⟨f, gs, rfl, hf, hg, hl, h1, h2, h3⟩ := h
    refine seq_cut fun M hM => ?_
    walk_at "wp"
    refine ⟨f, gs, rfl, hf, hg, hl, fun z => ⟨_, Sub.refl, h1 z⟩, fun z hs => ⟨_, Sub.refl, h2 z hs⟩, fun z hs => ?_⟩
    have hb := Fol.beh hf hg z
    have hp := sumN_pos hf hg z
    rw [hM]; clear hM M
    walk_at "wps"
    refine ⟨gs, rfl, hl, ?_⟩
    rw [natL_int]
    refine w_sumT ?_
    rw [nat_sum]
    refine ⟨_, _, chO_eq _ _, rfl, ?_⟩
    refine ⟨f, gs, sumN gs, rfl, hb, rfl, hp, hs.1, hs.2, ?_⟩
    intro x hx
    have er : natL ((ctxs (sumN gs) f.k).map (behT f gs)) = (behC f gs).row.map D.int := by
      unfold behC natL
      rw [List.map_map, List.map_map]
      rfl
    rw [er]
    refine ⟨x, behC f gs, rfl, beh_ok hb hs, sset_same, rfl, NSA, _, sset_same, ?_⟩
    rw [sset_sset, sdel_sset hx]
    exact ret_same (h3 z hs)
end
section
variable {P : Program} {w : World} {K : Fg} {mg : Str → Option Value} {base : Heap}
def prodC (f g : Ch) : Ch := ⟨f.n * g.n, f.k, (ctxs (f.n * g.n) f.k).map fun x => ((behT f (List.replicate f.n g) x : Nat) : Int)⟩
theorem pk_lt {c : Ch} {m : Nat} {Y : Nat → Int} (hc : ChOk c) (h : ∀ i, i < c.n → 0 ≤ Y i ∧ Y i < (c.k : Int)) : pk c ((List.range c.n).map Y) < c.n := by
  refine (pk_at hc ⟨by simp, fun r hr => ?_⟩).2
  obtain ⟨i, hi, rfl⟩ := List.mem_map.mp hr
  exact h i (List.mem_range.mp hi)
theorem gt_in {x : List Int} {k q : Nat} (k1 : 1 ≤ k) (h : ∀ r ∈ x, 0 ≤ r ∧ r < (k : Int)) : 0 ≤ gt x q ∧ gt x q < (k : Int) := by
  unfold gt
  rw [List.getD_eq_getElem?_getD]
  cases e : x[q]? with
  | none => simp; omega
  | some r => exact h r (List.mem_of_getElem? e)
theorem beh_mul {f g : Ch} {x : List Int} (hf : ChOk f) (hg : ChOk g) (hk : f.k = g.k) (hx : x.length = f.n * g.n) (hr : ∀ r ∈ x, 0 ≤ r ∧ r < (f.k : Int)) : behT f (List.replicate f.n g) x = mulF f.n g.n (pk f) (pk g) (gt x) ∧ mulF f.n g.n (pk f) (pk g) (gt x) < f.n * g.n := by
  have hgl : ∀ Y : Nat → Int, (∀ i, i < g.n → ∃ q, Y i = gt x q) → pk g ((List.range g.n).map Y) < g.n := fun Y h => pk_lt (m := 0) hg fun i hi => by
    obtain ⟨q, e⟩ := h i hi
    rw [e, ← hk]; exact gt_in hf.k1 hr
  have hfl : ∀ Y : Nat → Int, (∀ i, i < f.n → ∃ q, Y i = gt x q) → pk f ((List.range f.n).map Y) < f.n := fun Y h => pk_lt (m := 0) hf fun i hi => by
    obtain ⟨q, e⟩ := h i hi
    rw [e]; exact gt_in hf.k1 hr
  refine ⟨behT_rep hgl hfl hx, ?_⟩
  unfold mulF mulG
  exact lt_mul (hfl _ fun i _ => ⟨_, rfl⟩) (hgl _ fun i _ => ⟨_, rfl⟩)
theorem prod_ok {f g : Ch} (hf : ChOk f) (hg : ChOk g) (hk : f.k = g.k) (hs : smlC (f.n * g.n) f.k) : ChOk (prodC f g) := by
  have n1 : 1 ≤ f.n * g.n := Nat.mul_pos hf.n1 hg.n1
  have n8 : f.n * g.n ≤ 8 := hs.1
  refine ⟨n1, n8, hf.k1, hf.k4, hs.2, by unfold prodC; rw [List.length_map, ctxs_len hf.k1], fun z hz => ?_⟩
  obtain ⟨x, hx, rfl⟩ := List.mem_map.mp hz
  have hok := ctxs_ok n1 (by omega) hf.k1 hf.k4 hx
  have := beh_mul hf hg hk hok.len fun r hr => ⟨hok.lo r hr, hok.hi r hr⟩
  rw [this.1]
  exact ⟨Int.natCast_nonneg _, Int.ofNat_lt.mpr this.2⟩
def c_Chooser___mul__ (C S L : Addr) : Con := fun ds μ Φ Ψ => ∃ (f g : Ch), ds = [chO C f, chO C g] ∧ ChOk f ∧ ChOk g ∧ (f.k ≠ g.k → Ψ (.mk S none) μ) ∧ (f.k = g.k → ¬ smlC (f.n * g.n) f.k → Ψ (.mk L none) μ) ∧ (f.k = g.k → smlC (f.n * g.n) f.k → Φ (chO C (prodC f g)) μ)
theorem len_Chooser___mul__ {C S L ds μ Φ Ψ} (h : c_Chooser___mul__ C S L ds μ Φ Ψ) : ds.length = 2 := by obtain ⟨_, _, rfl, _⟩ := h; rfl
theorem ok_Chooser___mul__ (T : Txt P w K mg) : FnOk P w K mg base (L2N.CX P w) 11 T.f_Chooser___mul__ T.d_Chooser___mul__ ["self", "other"] (spOf K (c_Chooser___mul__ T.c_Chooser T.c_SizeMismatch T.c_TooLarge)) := by
  refine def_okC T.F_Chooser___mul__ sc_Chooser___mul__ _ (fun ds μ Φ Ψ h => len_Chooser___mul__ h) (fun cdv A outer s H E B hW hr =>
    have tk : L2N.Takes (cxOf (L2N.CX P w) P w K mg base N_Chooser___mul__ "Chooser.__mul__" (defScope s_Chooser___mul__) T.f_Chooser___mul__ cdv A outer s H E) (fun cls d _ H => E cls d H) := L2N.takes_of rfl rfl rfl rfl
    ⟨_, (pss_cons (ps_if (pt_cmpR op_ne (pe_fld (pv 0) rfl) (pe_fld (pv 1) rfl) (nomark _)) (pss_one (L2N.ps_raise rfl tk (L2N.pmk_own PySem.F.excBase_ValueError T.x_SizeMismatch T.g_SizeMismatch T.k_SizeMismatch (raises_own T.e_SizeMismatch T.t_SizeMismatch) rfl))) pss_nil)
      (pss_cons (ps_set (i := 2) sc_Chooser___mul__.nd rfl (Or.inl rfl) (pe_op op_mulX (pe_fld (pv 0) rfl) (pe_fld (pv 1) rfl)))
      (pss_cons (ps_if (pt_not (pt_val (pe_call (ok_is_small T) (hr.mono (by decide)) rfl T.g_is_small T.F_is_small.kp T.b_is_small .nil passN (pa_cons (pv 2) (pa_cons (pe_fld (pv 0) rfl) pa_nil))))) (pss_one (L2N.ps_raise rfl tk (L2N.pmk_own PySem.F.excBase_ValueError T.x_TooLarge T.g_TooLarge T.k_TooLarge (raises_own T.e_TooLarge T.t_TooLarge) rfl))) pss_nil)
      (pss_one (ps_ret (pe_makeS T.mk_Chooser (ok_Chooser___init__ T) (hr.mono (by decide)) rfl T.g_Chooser T.b_Chooser___init__ (fun σ => L2N.passAt tk σ) (pa_cons (pv 2) (pa_cons (pe_fld (pv 0) rfl) (pa_cons (pe_call (ok_row_behind T) (hr.mono (by decide)) rfl T.g_row_behind T.F_row_behind.kp T.b_row_behind .nil passN (pa_cons (pv 0) (pa_cons (pe_op op_repA (pe_tupN (pa_cons (pv 1) pa_nil)) (pe_fld (pv 0) rfl)) pa_nil))) pa_nil))))))))),
      (sSeq (sIfS (sTest (sOp roNe (sFldO (NS := NSA) (i := 1) T.cls_Chooser T.na_Chooser_outcomes rfl (by decide) sVar) (sFldO (NS := NSA) (i := 1) T.cls_Chooser T.na_Chooser_outcomes rfl (by decide) sVar))) (sRaise0W (W := fun cls d _ H => E cls d H) (C := T.c_SizeMismatch) (by exact hW)) sNext)
      (sSeq (sAsg (sOp roInt (sFldO (NS := NSA) (i := 0) T.cls_Chooser T.na_Chooser_options rfl (by decide) sVar) (sFldO (NS := NSA) (i := 0) T.cls_Chooser T.na_Chooser_options rfl (by decide) sVar)) sName)
      (sSeq (sIfS (sNot (sB (sCall (sCons sVar (sCons (sFldO (NS := NSA) (i := 1) T.cls_Chooser T.na_Chooser_outcomes rfl (by decide) sVar) sNil))))) (sRaise0W (W := fun cls d _ H => E cls d H) (C := T.c_TooLarge) (by exact hW)) sNext)
      (sRet (sMakeSW (W := fun cls d _ H => E cls d H) (by exact hW) (sCons sVar (sCons (sFldO (NS := NSA) (i := 1) T.cls_Chooser T.na_Chooser_outcomes rfl (by decide) sVar) (sCons (sCall (sCons sVar (sCons (sOp roRepT (sTup (sCons sVar sNil)) (sFldO (NS := NSA) (i := 0) T.cls_Chooser T.na_Chooser_options rfl (by decide) sVar)) sNil))) sNil))))))))⟩) (fun ds μ Φ Ψ h => ?hv)
  case hv =>
    obtain ⟨f, g, rfl, hf, hg, h1, h2, h3⟩ := h
    have nf := hf.n8
    have ng := hg.n8
    have kf := hf.k4
    have e1 : chO T.c_Chooser f = D.obj T.c_Chooser NSA [.int f.n, .int f.k, .tup (f.row.map .int)] := rfl
    have e2 : chO T.c_Chooser g = D.obj T.c_Chooser NSA [.int g.n, .int g.k, .tup (g.row.map .int)] := rfl
    refine seq_cut fun M hM => ?_
    rw [e1, e2]
    walk_at "wp"
    refine ⟨fun q => ⟨_, Sub.refl, h1 fun z => by rw [z] at q; simp at q⟩, fun q => ?_⟩
    have hk : f.k = g.k := Classical.byContradiction fun z => by
      have : decide ((f.k : Int) = (g.k : Int)) = false := decide_eq_false fun e => z (Int.ofNat.inj e)
      rw [this] at q; cases q
    rw [hM]; clear hM M
    refine seq_cut fun M hM => ?_
    walk_at "wp"
    refine ⟨mulx 10 10 (by omega) (by omega) (by decide), ?_⟩
    rw [← Int.natCast_mul]
    rw [hM]; clear hM M
    refine seq_cut fun M hM => ?_
    walk_at "wp"
    refine ⟨f.n * g.n, f.k, rfl, Nat.mul_pos hf.n1 hg.n1, hf.k1, hf.k4, ?_⟩
    by_cases hs : smlC (f.n * g.n) f.k
    · rw [decide_eq_true (show f.n * g.n ≤ 8 ∧ f.k ^ (f.n * g.n) ≤ 256 from hs)]
      walk_at "wp"
      rw [hM]; clear hM M
      rw [← e1, ← e2]
      walk_at "wps"
      refine ⟨_, _, e1, rfl, by decide, _, _, e1, rfl, ?_⟩
      walk_at "wps"
      have n1 : 1 ≤ f.n * g.n := Nat.mul_pos hf.n1 hg.n1
      refine ⟨by omega, by omega, by decide, ?_⟩
      rw [show (List.replicate f.n [chO T.c_Chooser g]).flatten = (List.replicate f.n g).map (chO T.c_Chooser) by rw [List.flatten_replicate_singleton, List.map_replicate]]
      refine ⟨f, List.replicate f.n g, f.n * g.n, rfl, ⟨hf, List.length_replicate, fun y hy => by rw [List.eq_of_mem_replicate hy]; exact ⟨hg, hk.symm⟩⟩, by rw [List.map_replicate, rep_sum], n1, hs.1, hs.2, ?_⟩
      intro x hx
      have er : natL ((ctxs (f.n * g.n) f.k).map (behT f (List.replicate f.n g))) = (prodC f g).row.map D.int := by
        unfold prodC natL
        rw [List.map_map, List.map_map]
        rfl
      rw [er]
      refine ⟨x, prodC f g, rfl, prod_ok hf hg hk hs, sset_same, rfl, NSA, _, sset_same, ?_⟩
      rw [sset_sset, sdel_sset hx]
      exact ret_same (h3 hk hs)
    · rw [decide_eq_false (show ¬ (f.n * g.n ≤ 8 ∧ f.k ^ (f.n * g.n) ≤ 256) from hs)]
      walk_at "wp"
      exact ⟨_, Sub.refl, h2 hk hs⟩
end
section
variable {P : Program} {w : World} {K : Fg} {mg : Str → Option Value} {base : Heap}
/-- all in turn, bracketed from the right -/
def turnC : List Ch → Ch
  | [] => ch0
  | [c] => c
  | c :: d :: cs => prodC c (turnC (d :: cs))
def prN : List Ch → Nat
  | [] => 1
  | c :: cs => c.n * prN cs
theorem sml_mono {m n k : Nat} (k1 : 1 ≤ k) (h : m ≤ n) (s : smlC n k) : smlC m k := ⟨Nat.le_trans h s.1, Nat.le_trans (Nat.pow_le_pow_right k1 h) s.2⟩
theorem prN_tail {c : Ch} {cs : List Ch} (h : ChOk c) : prN cs ≤ prN (c :: cs) := Nat.le_mul_of_pos_left _ h.n1
theorem prN_drop : ∀ {cs : List Ch}, (∀ c ∈ cs, ChOk c) → ∀ j, prN (cs.drop j) ≤ prN cs
  | [], _, j => by rw [List.drop_nil]; exact Nat.le_refl _
  | c :: cs, h, 0 => Nat.le_refl _
  | c :: cs, h, j + 1 => Nat.le_trans (prN_drop (cs := cs) (fun x hx => h x (List.mem_cons_of_mem _ hx)) j) (prN_tail (h c List.mem_cons_self))
theorem turn_ok {k : Nat} : ∀ {cs : List Ch}, cs ≠ [] → (∀ c ∈ cs, ChOk c ∧ c.k = k) → smlC (prN cs) k → ChOk (turnC cs) ∧ (turnC cs).k = k ∧ (turnC cs).n = prN cs
  | [], h, _, _ => absurd rfl h
  | [c], _, h, _ => ⟨(h c List.mem_cons_self).1, (h c List.mem_cons_self).2, (Nat.mul_one _).symm⟩
  | c :: d :: cs, _, h, s => by
    have hc := h c List.mem_cons_self
    have k1 : 1 ≤ k := by rw [← hc.2]; exact hc.1.k1
    have ht : ∀ x ∈ d :: cs, ChOk x ∧ x.k = k := fun x hx => h x (List.mem_cons_of_mem _ hx)
    obtain ⟨i1, i2, i3⟩ := turn_ok (cs := d :: cs) (by nofun) ht (sml_mono k1 (prN_tail hc.1) s)
    have en : c.n * (turnC (d :: cs)).n = prN (c :: d :: cs) := by rw [i3]; rfl
    exact ⟨prod_ok hc.1 i1 (by rw [hc.2, i2]) (by rw [en, hc.2]; exact s), hc.2, en⟩
theorem prN_rep (f : Ch) : ∀ e, prN (List.replicate e f) = f.n ^ e
  | 0 => rfl
  | e + 1 => by rw [List.replicate_succ, Nat.pow_succ, Nat.mul_comm, ← prN_rep f e]; rfl
def c_Chooser___pow__ (C L O : Addr) : Con := fun ds μ Φ Ψ => ∃ (f : Ch) (e : Int), ds = [chO C f, .int e] ∧ ChOk f ∧ (¬ (1 ≤ e ∧ e ≤ 8) → Ψ (.mk O none) μ) ∧ ∀ j : Nat, e = (j : Int) → 1 ≤ j → j ≤ 8 → (¬ smlC (f.n ^ j) f.k → Ψ (.mk L none) μ) ∧ (smlC (f.n ^ j) f.k → Φ (chO C (turnC (List.replicate j f))) μ)
theorem len_Chooser___pow__ {C L O ds μ Φ Ψ} (h : c_Chooser___pow__ C L O ds μ Φ Ψ) : ds.length = 2 := by obtain ⟨_, _, rfl, _⟩ := h; rfl
theorem ok_Chooser___pow__ (T : Txt P w K mg) : FnOk P w K mg base (L2N.CX P w) 13 T.f_Chooser___pow__ T.d_Chooser___pow__ ["self", "other"] (spOf K (c_Chooser___pow__ T.c_Chooser T.c_TooLarge T.c_OutOfRange)) := by
  refine def_okC T.F_Chooser___pow__ sc_Chooser___pow__ _ (fun ds μ Φ Ψ h => len_Chooser___pow__ h) (fun cdv A outer s H E B hW hr =>
    have tk : L2N.Takes (cxOf (L2N.CX P w) P w K mg base N_Chooser___pow__ "Chooser.__pow__" (defScope s_Chooser___pow__) T.f_Chooser___pow__ cdv A outer s H E) (fun cls d _ H => E cls d H) := L2N.takes_of rfl rfl rfl rfl
    ⟨_, (pss_cons (ps_if (pt_not (pt_chain op_le op_le pe_int (pv 1) (pe_glob (v := .int 8) rfl T.g_MOST_EXPONENT.choose_spec ⟨_, rfl⟩))) (pss_one (L2N.ps_raise rfl tk (L2N.pmk_own PySem.F.excBase_ValueError T.x_OutOfRange T.g_OutOfRange T.k_OutOfRange (raises_own T.e_OutOfRange T.t_OutOfRange) rfl))) pss_nil)
      (pss_cons (ps_set (i := 2) sc_Chooser___pow__.nd rfl (Or.inl rfl) (pv 0))
      (pss_cons (ps_for (passes_of rfl) rfl (pi_range1 rfl T.z_range (pa_cons (pe_op op_sub (pv 1) pe_int) pa_nil)) (pg_name (i := 3) sc_Chooser___pow__.nd rfl (Or.inl rfl)) (pss_one (ps_set (i := 2) sc_Chooser___pow__.nd rfl (Or.inl rfl) (pe_binX T.sf_Chooser T.me_Chooser___mul__ (ok_Chooser___mul__ T) (hr.mono (by decide)) T.b_Chooser___mul__ (fun σ => L2N.passAt tk σ) (pv 0) (pv 2)))))
      (pss_one (ps_ret (pv 2)))))),
      (sSeq (sIfS (sNot (sTest (sChain roBl0 roBl0 sInt sVar sInt))) (sRaise0W (W := fun cls d _ H => E cls d H) (C := T.c_OutOfRange) (by exact hW)) sNext)
      (sSeq (sAsg sVar sName)
      (sSeq (sFor (siR1 (sOp roInt0 sVar sInt)) (fun _ _ _ => sName) (fun _ _ _ => (sAsg (sBinX (NS := NSA) (W := fun cls d _ H => E cls d H) (by exact hW) sVar sVar) sName)))
      (sRet sVar))))⟩) (fun ds μ Φ Ψ h => ?hv)
  case hv =>
    obtain ⟨f, e, rfl, hf, h0, h⟩ := h
    refine seq_cut fun M hM => ?_
    walk_at "wp"
    refine ⟨fun q1 => ⟨fun q => ⟨_, Sub.refl, h0 fun z => by simp at q; omega⟩, fun q => ?_⟩, fun q => ⟨_, Sub.refl, h0 fun z => q z.1⟩⟩
    have q8 : e ≤ 8 := by simp at q; omega
    obtain ⟨j, rfl⟩ : ∃ j : Nat, e = (j : Int) := ⟨e.toNat, by omega⟩
    obtain ⟨h1, h2⟩ := h j rfl (by omega) (by omega)
    rw [hM]; clear hM M
    refine seq_cut fun M hM => ?_
    walk_at "wp"
    rw [hM]; clear hM M
    refine seq_cut fun M hM => ?_
    walk_at "wp"
    have all : ∀ i, ∀ c ∈ List.replicate i f, ChOk c ∧ c.k = f.k := fun i c hc => by rw [List.eq_of_mem_replicate hc]; exact ⟨hf, rfl⟩
    refine ⟨by omega, by omega, fun i δ' μ' => μ' = μ ∧ i < j ∧ smlC (f.n ^ (i + 1)) f.k ∧ ∃ x, δ' = [some (chO T.c_Chooser f), some (.int j), some (chO T.c_Chooser (turnC (List.replicate (i + 1) f))), x], ⟨rfl, by omega, by rw [Nat.zero_add, Nat.pow_one]; exact ⟨hf.n8, hf.sm⟩, none, rfl⟩, ?_, ?_⟩
    · rintro i d δ' μ' hi ⟨rfl, hij, hs, x, rfl⟩
      obtain ⟨hi2, _⟩ := rngD_get hi
      obtain ⟨t1, t2, t3⟩ := turn_ok (cs := List.replicate (i + 1) f) (by rw [List.replicate_succ]; nofun) (all _) (by rw [prN_rep]; exact hs)
      have en : f.n * (turnC (List.replicate (i + 1) f)).n = f.n ^ (i + 1 + 1) := by rw [t3, prN_rep, Nat.pow_succ f.n (i + 1), Nat.mul_comm]
      walk_at "wp"
      refine ⟨_, _, rfl, rfl, f, turnC (List.replicate (i + 1) f), rfl, hf, t1, fun q => absurd t2.symm q, fun _ q => ⟨_, Sub.refl, h1 fun z => q ?_⟩, fun _ q => ⟨⟨_, _, _, rfl⟩, rfl, by omega, ?_, _, rfl⟩⟩
      · rw [en]; exact sml_mono hf.k1 (Nat.pow_le_pow_right hf.n1 (by omega)) z
      · rw [en] at q; exact q
    · rintro δ' μ' ⟨rfl, hij, hs, x, rfl⟩
      have ej : ((j : Int) - 1).toNat + 1 = j := by omega
      rw [ej] at hs ⊢
      rw [hM]; clear hM M
      walk_at "wps"
      exact ret_same (h2 hs)
theorem at_back {α : Type} {f : α → D} {l : List α} (h : 0 < l.length) : atI (l.map f) (-1) = some (f (l[l.length - 1]'(by omega))) := by
  have hne : l ≠ [] := List.length_pos_iff.mp h
  have e : l.map f = l.dropLast.map f ++ [f (l[l.length - 1]'(by omega))] := by
    conv => lhs; rw [← List.dropLast_concat_getLast hne]
    rw [List.map_append, List.getLast_eq_getElem]; rfl
  rw [e]
  exact DW.atI_last
theorem rev_back {α : Type} {f : α → D} {l : List α} {i : Nat} {d : D} (h : (l.map f).dropLast.reverse[i]? = some d) : ∃ h2 : l.length - 2 - i < l.length, i + 2 ≤ l.length ∧ d = f l[l.length - 2 - i] := by
  have hl := (List.getElem?_eq_some_iff.mp h).1
  rw [List.length_reverse, List.length_dropLast, List.length_map] at hl
  refine ⟨by omega, by omega, ?_⟩
  rw [List.getElem?_reverse (by rw [List.length_dropLast, List.length_map]; omega), List.length_dropLast, List.length_map, List.getElem?_dropLast, if_pos (by rw [List.length_map]; omega), List.getElem?_map, List.getElem?_eq_getElem (by omega), Option.map_some] at h
  cases h
  congr 2
def c_put_in_turn (C S L : Addr) : Con := fun ds μ Φ Ψ => ∃ (c : Ch) (cs : List Ch), ds = [chO C c, .tup (cs.map (chO C))] ∧ (∀ g ∈ c :: cs, ChOk g) ∧ cs.length ≤ 1000 ∧ ((∃ g ∈ cs, g.k ≠ c.k) → Ψ (.mk S none) μ) ∧ ((∀ g ∈ cs, g.k = c.k) → ¬ smlC (prN (c :: cs)) c.k → Ψ (.mk L none) μ) ∧ ((∀ g ∈ cs, g.k = c.k) → smlC (prN (c :: cs)) c.k → Φ (chO C (turnC (c :: cs))) μ)
theorem ok_put_in_turn (T : Txt P w K mg) : FnR P w K mg base (L2N.CX P w) 13 T.f_put_in_turn (spStar K 1 (c_put_in_turn T.c_Chooser T.c_SizeMismatch T.c_TooLarge)) := by
  refine def_okR (ps := ["first"]) T.F_put_in_turn sc_put_in_turn _ T.b_put_in_turn (fun cdv A outer s H E B hW hr =>
    have tk : L2N.Takes (cxOf (L2N.CX P w) P w K mg base N_put_in_turn "put_in_turn" (defScope s_put_in_turn) T.f_put_in_turn cdv A outer s H E) (fun cls d _ H => E cls d H) := L2N.takes_of rfl rfl rfl rfl
    ⟨_, (pss_cons (ps_expr (pe_callS (ok_require_same_outcomes T) (hr.mono (by decide)) rfl T.g_require_same_outcomes T.F_require_same_outcomes.kp T.b_require_same_outcomes (fun σ => L2N.passAt tk σ) (pa_cons (pv 0) (pa_cons (pv 1) pa_nil))))
      (pss_cons (ps_set (i := 2) sc_put_in_turn.nd rfl (Or.inl rfl) (pe_lst (pa_cons (pv 0) (StX.pa_star (pv 1) pa_nil))))
      (pss_cons (ps_set (i := 3) sc_put_in_turn.nd rfl (Or.inl rfl) (pe_ix ix_list (pv 2) (pe_un un_neg pe_int) (fun _ _ => rfl)))
      (pss_cons (ps_for (passes_of rfl) rfl (pi_list (pe_rev2L (pv 2))) (pg_name (i := 4) sc_put_in_turn.nd rfl (Or.inl rfl)) (pss_one (ps_set (i := 3) sc_put_in_turn.nd rfl (Or.inl rfl) (pe_binX T.sf_Chooser T.me_Chooser___mul__ (ok_Chooser___mul__ T) (hr.mono (by decide)) T.b_Chooser___mul__ (fun σ => L2N.passAt tk σ) (pv 4) (pv 3)))))
      (pss_one (ps_ret (pv 3))))))),
      (sSeq (sDrop (sCallSW (W := fun cls d _ H => E cls d H) (by exact hW) (sCons sVar (sCons sVar sNil))))
      (sSeq (sAsg (sLst (sCons sVar (sStar sVar sNil))) sName)
      (sSeq (sAsg (sOp roIxL sVar (sUn ruInt sInt)) sName)
      (sSeq (sFor (siL (sRev2L sVar)) (fun _ _ _ => sName) (fun _ _ _ => (sAsg (sBinX (NS := NSA) (W := fun cls d _ H => E cls d H) (by exact hW) sVar sVar) sName)))
      (sRet sVar)))))⟩) (fun ds μ Φ Ψ h => ?hv)
  case hv =>
    obtain ⟨c, cs, rfl, hok, hl, h1, h2, h3⟩ := h
    refine seq_cut fun M hM => ?_
    walk_at "wp"
    refine ⟨c, cs, rfl, hl, fun q => ⟨_, Sub.refl, h1 q⟩, fun hk => ?_⟩
    obtain ⟨A, hA⟩ : ∃ A, A = c :: cs := ⟨_, rfl⟩
    have hAl : A.length = cs.length + 1 := by rw [hA]; rfl
    have hAk : ∀ g ∈ A, ChOk g ∧ g.k = c.k := by
      rw [hA]
      intro g hg
      refine ⟨hok g hg, ?_⟩
      rcases List.mem_cons.mp hg with rfl | hg
      · rfl
      · exact hk g hg
    have h2 := h2 hk
    have h3 := h3 hk
    rw [← hA] at h2 h3
    rw [hM]; clear hM M
    refine seq_cut fun M hM => ?_
    walk_at "wp"
    refine ⟨by omega, ?_⟩
    rw [show chO T.c_Chooser c :: cs.map (chO T.c_Chooser) = A.map (chO T.c_Chooser) by rw [hA]; rfl]
    rw [hM]; clear hM M
    refine seq_cut fun M hM => ?_
    walk_at "wp"
    have hlast : atI (A.map (chO T.c_Chooser)) (-1) = some (chO T.c_Chooser (A[A.length - 1]'(by omega))) := at_back (by omega)
    refine ⟨_, hlast, ?_⟩
    rw [hM]; clear hM M
    refine seq_cut fun M hM => ?_
    walk_at "wp"
    have hAo : ∀ g ∈ A, ChOk g := fun g hg => (hAk g hg).1
    have k1 : 1 ≤ c.k := (hok c List.mem_cons_self).k1
    have sub : ∀ j, ∀ g ∈ A.drop j, ChOk g ∧ g.k = c.k := fun j g hg => hAk g (List.mem_of_mem_drop hg)
    have one : A.drop (A.length - 1) = [A[A.length - 1]'(by omega)] := by
      rw [List.drop_eq_getElem_cons (by omega), show A.length - 1 + 1 = A.length by omega, List.drop_length]
    refine ⟨by rw [hA]; nofun, fun i δ' μ' => μ' = μ ∧ i < A.length ∧ smlC (prN (A.drop (A.length - 1 - i))) c.k ∧ ∃ x, δ' = [some (chO T.c_Chooser c), some (.tup (cs.map (chO T.c_Chooser))), some (.lst (A.map (chO T.c_Chooser))), some (chO T.c_Chooser (turnC (A.drop (A.length - 1 - i)))), x], ⟨rfl, by omega, ?_, none, ?_⟩, ?_, ?_⟩
    · rw [Nat.sub_zero, one]
      have hg := hAk _ (List.getElem_mem (l := A) (n := A.length - 1) (by omega))
      show smlC (_ * 1) c.k
      rw [Nat.mul_one, ← hg.2]
      exact ⟨hg.1.n8, hg.1.sm⟩
    · rw [Nat.sub_zero, one]; rfl
    · rintro i d δ' μ' hi ⟨rfl, hij, hs, x, rfl⟩
      obtain ⟨hlt, hi2, rfl⟩ := rev_back hi
      have hdr : A.drop (A.length - 2 - i) = A[A.length - 2 - i] :: A.drop (A.length - 1 - i) := by
        rw [List.drop_eq_getElem_cons hlt, show A.length - 2 - i + 1 = A.length - 1 - i by omega]
      obtain ⟨B, hB⟩ : ∃ B, B = A.drop (A.length - 1 - i) := ⟨_, rfl⟩
      have hBn : B ≠ [] := by rw [hB]; intro z; have := congrArg List.length z; rw [List.length_drop] at this; simp at this; omega
      have hBk : ∀ g ∈ B, ChOk g ∧ g.k = c.k := by rw [hB]; exact sub _
      rw [← hB] at hs hdr
      obtain ⟨t1, t2, t3⟩ := turn_ok hBn hBk hs
      obtain ⟨g, hg⟩ : ∃ g, g = A[A.length - 2 - i] := ⟨_, rfl⟩
      have hgk := hAk _ (List.getElem_mem hlt)
      rw [← hg] at hgk hdr
      have en : g.n * (turnC B).n = prN (A.drop (A.length - 2 - i)) := by rw [hdr, t3]; rfl
      have et : turnC (A.drop (A.length - 2 - i)) = prodC g (turnC B) := by
        rw [hdr]
        cases B with
        | nil => exact absurd rfl hBn
        | cons b B => rfl
      rw [← hB, ← hg]
      walk_at "wp"
      refine ⟨_, _, rfl, rfl, g, turnC B, rfl, hgk.1, t1, fun q => absurd (hgk.2.trans t2.symm) q, fun _ q => ⟨_, Sub.refl, h2 fun z => q ?_⟩, fun _ q => ⟨⟨_, _, _, rfl⟩, rfl, by omega, ?_, some (chO T.c_Chooser g), ?_⟩⟩
      · rw [en, hgk.2]; exact sml_mono k1 (prN_drop hAo _) z
      · rw [en, hgk.2] at q
        rw [show A.length - 1 - (i + 1) = A.length - 2 - i by omega]
        exact q
      · rw [show A.length - 1 - (i + 1) = A.length - 2 - i by omega, et]
    · rintro δ' μ' ⟨rfl, hij, hs, x, rfl⟩
      have e0 : A.length - 1 - (A.map (chO T.c_Chooser)).dropLast.reverse.length = 0 := by rw [List.length_reverse, List.length_dropLast, List.length_map]; omega
      rw [e0, List.drop_zero] at hs ⊢
      rw [hM]; clear hM M
      walk_at "wps"
      exact ret_same (h3 hs)
end
section
variable {P : Program} {w : World} {K : Fg} {mg : Str → Option Value} {base : Heap}
structure StC (ns : List Int) (c : List D) : Prop where
  ex : ∃ seed idx rest : Int, c = [.int seed, .lst (ns.map .int), .int idx, .int rest] ∧ 0 ≤ seed ∧ seed < 2147483647 ∧ 0 ≤ idx ∧ 0 ≤ rest
def c__law_pick : Con := fun ds μ Φ _ => ∃ st ns c n, ds = [.hd (.ref st), .int n] ∧ μ st = some (.lst c) ∧ StC ns c ∧ 0 < n ∧ n.natAbs.log2 < 9000 ∧ ∀ r c', 0 ≤ r → r < n → StC ns c' → Φ (.int r) (sset μ st (.lst c'))
theorem len__law_pick {ds μ Φ Ψ} (h : c__law_pick ds μ Φ Ψ) : ds.length = 2 := by obtain ⟨i, _, _, _, rfl, _⟩ := h; rfl
theorem pick_cell {ns : List Int} {idx : Int} {P : D → Prop} (h0 : 0 ≤ idx) (h1 : idx < ns.length) (k : ∀ z, P (.int z)) : ∃ d, atI (ns.map D.int) idx = some d ∧ P d := by
  obtain ⟨j, rfl⟩ : ∃ j : Nat, idx = (j : Int) := ⟨idx.toNat, by omega⟩
  have hj : j < ns.length := by omega
  exact ⟨.int ns[j], atI_nat (by rw [List.getElem?_map, List.getElem?_eq_getElem hj]; rfl), k _⟩
theorem ok__law_pick {cx : CXT} (T : Txt P w K mg) : FnOk P w K mg base cx 1 T.f__law_pick T.d__law_pick ["_law_state", "_law_limit_here"] (spOf K c__law_pick) := by
  refine def_okC T.F__law_pick sc__law_pick _ (fun ds μ Φ Ψ h => len__law_pick h) (fun cdv A outer s H E B hW hr =>
    ⟨_, (pss_cons (ps_if (pt_cmpR op_ge (pe_ix ix_list (pv 0) pe_int (fun _ _ => rfl)) (pv 1) (nomark _)) (pss_cons (ps_set (i := 4) sc__law_pick.nd rfl (Or.inl rfl) (pe_callTy call_int1 (by rfl) T.z_int (by decide +kernel) (pa_cons (pe_ix ix_list (pv 0) pe_int (fun _ _ => rfl)) pa_nil)))
      (pss_cons (ps_asg (pe_op op_fdivW (pv 4) (pv 1)) (pg_sub (pv 0) pe_int set_list))
      (pss_one (ps_ret (pe_op op_mod (pv 4) (pv 1)))))) pss_nil)
      (pss_cons (ps_set (i := 2) sc__law_pick.nd rfl (Or.inl rfl) pe_int)
      (pss_cons (ps_if (pt_cmpR op_lt (pe_ix ix_list (pv 0) pe_int (fun _ _ => rfl)) (pe_callB call_len_seq (by rfl) T.z_len PySem.boot_len (pa_cons (pe_ix ix_list (pv 0) pe_int (fun _ _ => rfl)) pa_nil)) (nomark _)) (pss_cons (ps_set (i := 2) sc__law_pick.nd rfl (Or.inl rfl) (pe_callTy call_int1 (by rfl) T.z_int (by decide +kernel) (pa_cons (pe_ix ix_list (pe_ix ix_list (pv 0) pe_int (fun _ _ => rfl)) (pe_ix ix_list (pv 0) pe_int (fun _ _ => rfl)) (fun _ _ => rfl)) pa_nil)))
      (pss_cons (ps_asg (pe_op op_add (pe_ix ix_list (pv 0) pe_int (fun _ _ => rfl)) pe_int) (pg_sub (pv 0) pe_int set_list))
      (pss_cons (ps_if (pt_cmpR op_lt (pv 2) pe_int (nomark _)) (pss_one (ps_set (i := 2) sc__law_pick.nd rfl (Or.inl rfl) (pe_op op_sub pe_int (pv 2)))) pss_nil)
      (pss_one (ps_if (pt_cmpR op_ge (pv 2) (pe_op op_pow pe_int pe_int) (nomark _)) (pss_cons (ps_asg (pe_op op_fdivW (pv 2) (pv 1)) (pg_sub (pv 0) pe_int set_list))
      (pss_one (ps_ret (pe_op op_mod (pv 2) (pv 1))))) pss_nil))))) pss_nil)
      (pss_cons (ps_set (i := 3) sc__law_pick.nd rfl (Or.inl rfl) (pe_op op_mod (pe_op op_mulX (pe_op op_add (pe_op op_add (pe_callTy call_int1 (by rfl) T.z_int (by decide +kernel) (pa_cons (pe_ix ix_list (pv 0) pe_int (fun _ _ => rfl)) pa_nil)) (pe_op op_mod (pv 2) pe_int)) pe_int) pe_int) pe_int))
      (pss_cons (ps_asg (pe_op op_mod (pe_op op_add (pe_op op_mulX (pv 3) pe_int) pe_int) pe_int) (pg_sub (pv 0) pe_int set_list))
      (pss_one (ps_ret (pe_op op_mod (pe_op op_fdivW (pe_callTy call_int1 (by rfl) T.z_int (by decide +kernel) (pa_cons (pe_ix ix_list (pv 0) pe_int (fun _ _ => rfl)) pa_nil)) pe_int) (pv 1))))))))),
      (sSeq (sIfS (sTest (sOp roBl0 (sOp roIxL sVar sInt) sVar)) (sSeq (sAsg (sCB rcInt (sCons (sOp roIxL sVar sInt) sNil)) sName)
      (sSeq (sAsgS (sOp roInt sVar sVar) sVar sInt)
      (sRet (sOp roInt sVar sVar)))) sNext)
      (sSeq (sAsg sInt sName)
      (sSeq (sIfS (sTest (sOp roBl0 (sOp roIxL sVar sInt) (sCB rcLen (sCons (sOp roIxL sVar sInt) sNil)))) (sSeq (sAsg (sCB rcInt (sCons (sOp roIxL (sOp roIxL sVar sInt) (sOp roIxL sVar sInt)) sNil)) sName)
      (sSeq (sAsgS (sOp roInt0 (sOp roIxL sVar sInt) sInt) sVar sInt)
      (sSeq (sIfS (sTest (sOp roBl0 sVar sInt)) (sAsg (sOp roInt0 sInt sVar) sName) sNext)
      (sIfS (sTest (sOp roBl0 sVar (sOp roInt sInt sInt))) (sSeq (sAsgS (sOp roInt sVar sVar) sVar sInt)
      (sRet (sOp roInt sVar sVar))) sNext)))) sNext)
      (sSeq (sAsg (sOp roInt (sOp roInt (sOp roInt0 (sOp roInt0 (sCB rcInt (sCons (sOp roIxL sVar sInt) sNil)) (sOp roInt sVar sInt)) sInt) sInt) sInt) sName)
      (sSeq (sAsgS (sOp roInt (sOp roInt0 (sOp roInt sVar sInt) sInt) sInt) sVar sInt)
      (sRet (sOp roInt (sOp roInt (sCB rcInt (sCons (sOp roIxL sVar sInt) sNil)) sInt) sVar)))))))⟩) (fun ds μ Φ Ψ h => ?hv)
  case hv =>
    obtain ⟨st, ns, c, n, rfl, hc, ⟨seed, idx, rest, rfl, h1, h2, h3, h4⟩, hn, hl, h⟩ := h
    have hmod : ∀ a : Int, 0 ≤ a % n ∧ a % n < n := fun a => ⟨Int.emod_nonneg _ (by omega), Int.emod_lt_of_pos _ hn⟩
    have hM : ∀ a : Int, 0 ≤ a % 2147483647 ∧ a % 2147483647 < 2147483647 := fun a => ⟨Int.emod_nonneg _ (by omega), Int.emod_lt_of_pos _ (by omega)⟩
    -- what stands at the end, whatever the cell is
    have tail : ∀ (μ' : Sto) (cell idx' : Int) (x4 : Option D), (∀ c', sset μ' st (.lst c') = sset μ st (.lst c')) → μ' st = some (.lst [.int seed, .lst (ns.map .int), .int idx', .int rest]) → 0 ≤ idx' → (dSeq
      (dAsg
        (dOp (oI (fun x j => 0 < j) fun i j => D.int (i % j))
          (dOp (oI CMulX fun i j => D.int (i * j))
            (dOp (oI0 fun i j => D.int (i + j))
              (dOp (oI0 fun i j => D.int (i + j)) (dCB cInt (dCons (dOp oIxL (dVar 0) (dC (D.int 0))) dNil))
                (dOp (oI (fun x j => 0 < j) fun i j => D.int (i % j)) (dVar 2) (dC (D.int 2147483647))))
              (dC (D.int 1)))
            (dC (D.int 48271)))
          (dC (D.int 2147483647)))
        (eName 3))
      (dSeq
        (dAsgS
          (dOp (oI (fun x j => 0 < j) fun i j => D.int (i % j))
            (dOp (oI0 fun i j => D.int (i + j)) (dOp (oI CMulX fun i j => D.int (i * j)) (dVar 3) (dC (D.int 69621)))
              (dC (D.int 12345)))
            (dC (D.int 2147483647)))
          (dVar 0) (dC (D.int 0)))
        (dRet
          (dOp (oI (fun x j => 0 < j) fun i j => D.int (i % j))
            (dOp (oI CDivW fun i j => D.int (i / j)) (dCB cInt (dCons (dOp oIxL (dVar 0) (dC (D.int 0))) dNil))
              (dC (D.int 7)))
            (dVar 1))))) (goalX Ψ) (goalE Φ) [some (.hd (.ref st)), some (.int n), some (.int cell), none, x4] μ' := by
      intro μ' cell idx' x4 hs hc' hi'
      have b1 := hM cell
      have b2 := hM ((seed + cell % 2147483647 + 1) * 48271)
      have b3 := hM ((seed + cell % 2147483647 + 1) * 48271 % 2147483647 * 69621 + 12345)
      clear hM hc
      walk_at "wps"
      simp only [hc']
      walk_at "wp"
      simp only [hc']
      walk_at "wp"
      refine ⟨by decide, mulx 33 17 (by omega) (by decide) (by decide), by decide, mulx 31 18 (by omega) (by decide) (by decide), by decide, wide_div (b := 3) (by decide) (by decide) (by decide) (by decide), hn, ?_⟩
      rw [hs]
      exact ret_same (h _ _ (hmod _).1 (hmod _).2 ⟨_, _, _, rfl, b3.1, b3.2, hi', h4⟩)
    refine q_seq fun nx hnx => ?_
    walk_at "wp"
    simp only [hc]
    walk_at "wp"
    refine ⟨fun c1 => ?_, fun c1 => ?_⟩
    · walk_at "wps"
      simp only [hc]
      walk_at "wp"
      simp only [hc]
      walk_at "wp"
      exact ⟨⟨hn, hl⟩, hn, ret_same (h _ _ (hmod _).1 (hmod _).2 ⟨_, _, _, rfl, h1, h2, h3, Int.ediv_nonneg h4 (by omega)⟩)⟩
    · subst hnx
      refine q_seq fun nx hnx => ?_
      walk_at "wp"
      subst hnx
      refine q_seq fun nx hnx => ?_
      walk_at "wp"
      simp only [hc]
      walk_at "wp"
      refine ⟨fun c2 => ?_, fun c2 => ?_⟩
      · refine q_seq fun nx2 hnx2 => ?_
        walk_at "wp"
        simp only [hc]
        walk_at "wp"
        refine pick_cell h3 c2 fun z => ?_
        walk_at "wp"
        subst hnx2
        refine q_seq fun nx2 hnx2 => ?_
        walk_at "wp"
        simp only [hc]
        walk_at "wp"
        simp only [hc]
        walk_at "wp"
        subst hnx2
        have hc2 : sset μ st (.lst [.int seed, .lst (ns.map .int), .int (idx + 1), .int rest]) st = some (.lst [.int seed, .lst (ns.map .int), .int (idx + 1), .int rest]) := sset_same
        have fin : ∀ z : Int, 0 ≤ z → dIfS (dTest (dOp (oI0 fun i j => D.bl (decide (j ≤ i))) (dVar 2) (dOp (oI CPow fun i j => D.int (i ^ j.toNat)) (dC (D.int 10)) (dC (D.int 18))))) (dSeq (dAsgS (dOp (oI CDivW fun i j => D.int (i / j)) (dVar 2) (dVar 1)) (dVar 0) (dC (D.int 3))) (dRet (dOp (oI (fun x j => 0 < j) fun i j => D.int (i % j)) (dVar 2) (dVar 1)))) dNext
            (goalX Ψ) ⟨nx, (goalE Φ).rt, (goalE Φ).bk, (goalE Φ).ct⟩ [some (.hd (.ref st)), some (.int n), some (.int z), none, none] (sset μ st (.lst [.int seed, .lst (ns.map .int), .int (idx + 1), .int rest])) := by
          intro z hz
          walk_at "wp"
          refine ⟨⟨by decide, by decide, by decide⟩, fun c3 => ?_, fun c3 => ?_⟩
          · walk_at "wps"
            exact ⟨⟨hn, hl⟩, hn, ret_same (h _ _ (hmod _).1 (hmod _).2 ⟨_, _, _, rfl, h1, h2, by omega, Int.ediv_nonneg hz (by omega)⟩)⟩
          · subst hnx
            exact tail _ z (idx + 1) none (fun c' => sset_sset) sset_same (by omega)
        refine q_seq fun nx2 hnx2 => ?_
        walk_at "wp"
        subst hnx2
        refine ⟨fun c3 => ?_, fun c3 => ?_⟩
        · exact fin _ (by omega)
        · exact fin _ (by omega)
      · subst hnx
        exact tail μ 11 idx none (fun _ => rfl) hc h3
def c__law_start : Con := fun ds μ Φ _ => ∃ ns, ds = [.scr ns] ∧ ns.length ≤ 63 ∧ ∀ p c, μ p = none → StC ns c → Φ (.hd (.ref p)) (sset μ p (.lst c))
theorem len__law_start {ds μ Φ Ψ} (h : c__law_start ds μ Φ Ψ) : ds.length = 1 := by obtain ⟨i, rfl, _⟩ := h; rfl
theorem ok__law_start {cx : CXT} (T : Txt P w K mg) : FnOk P w K mg base cx 1 T.f__law_start T.d__law_start ["_law_script"] (spOf K c__law_start) := by
  refine def_okC T.F__law_start sc__law_start _ (fun ds μ Φ Ψ h => len__law_start h) (fun cdv A outer s H E B hW hr =>
    ⟨_, (pss_cons (ps_set (i := 1) sc__law_start.nd rfl (Or.inl rfl) pe_int)
      (pss_cons (ps_for (passes_of rfl) rfl (pi_range1 rfl T.z_range (pa_cons (pe_callB call_len_seq (by rfl) T.z_len PySem.boot_len (pa_cons (pv 0) pa_nil)) pa_nil)) (pg_name (i := 2) sc__law_start.nd rfl (Or.inl rfl)) (pss_one (ps_set (i := 1) sc__law_start.nd rfl (Or.inl rfl) (pe_op op_mod (pe_op op_add (pe_op op_add (pe_op op_add (pe_op op_mulX (pv 1) pe_int) (pe_op op_mod (pe_callTy call_int1 (by rfl) T.z_int (by decide +kernel) (pa_cons (pe_ix ix_list (pv 0) (pv 2) (fun _ _ => rfl)) pa_nil)) pe_int)) (pv 2)) pe_int) pe_int))))
      (pss_one (ps_ret (pe_lst (pa_cons (pv 1) (pa_cons (pe_callTy call_list_of (by rfl) T.z_list (by decide +kernel) (pa_cons (pv 0) pa_nil)) (pa_cons pe_int (pa_cons pe_int pa_nil))))))))),
      (sSeq (sAsg sInt sName)
      (sSeq (sFor (siR1 (sCB rcLen (sCons sVar sNil))) (fun _ _ _ => sName) (fun _ _ _ => (sAsg (sOp roInt (sOp roInt0 (sOp roInt0 (sOp roInt0 (sOp roInt sVar sInt) (sOp roInt (sCB rcInt (sCons (sOp roIxL sVar sVar) sNil)) sInt)) sVar) sInt) sInt) sName)))
      (sRet (sOwn (sCons sVar (sCons (sCB rcList (sCons sVar sNil)) (sCons sInt (sCons sInt sNil))))))))⟩) (fun ds μ Φ Ψ h => ?hv)
  case hv =>
    obtain ⟨ns, rfl, hl, h⟩ := h
    have hM : ∀ a : Int, 0 ≤ a % 2147483647 ∧ a % 2147483647 < 2147483647 := fun a => ⟨Int.emod_nonneg _ (by omega), Int.emod_lt_of_pos _ (by omega)⟩
    walk_at "wps"
    refine ⟨by omega, by omega, fun i δ' μ' => μ' = μ ∧ ∃ seed x, 0 ≤ seed ∧ seed < 2147483647 ∧ δ' = [some (.scr ns), some (.int seed), x], ⟨rfl, 7, none, by omega, by omega, rfl⟩, ?_, ?_⟩
    · rintro i d δ' μ' hi ⟨rfl, seed, x, h1, h2, rfl⟩
      obtain ⟨hj, rfl⟩ := rngD_get hi
      walk_at "wps"
      refine ⟨mulx 31 17 (by omega) (by decide) (by decide), .int ns[i], ?_, ?_⟩
      · exact atI_nat (by rw [List.getElem?_map, List.getElem?_eq_getElem hj]; rfl)
      · walk_at "wps"
        exact ⟨by decide, by decide, _, _, (hM _).1, (hM _).2, rfl⟩ -- (hM _).1, (hM _).2, rfl⟩
    · rintro δ' μ' ⟨rfl, seed, x, h1, h2, rfl⟩
      walk_at "wps"
      exact ⟨by decide, fun p hp => ret_same (h p _ hp ⟨seed, 0, 0, rfl, h1, h2, by omega, by omega⟩)⟩
mutual
/-- what the law compares: plain data -/
def plainD : D → Bool
  | .non => true
  | .bl _ => true
  | .int _ => true
  | .str _ => true
  | .tup ds => plainDs ds && decide (ds.length ≤ 100000)
  | _ => false
def plainDs : List D → Bool
  | [] => true
  | d :: ds => plainD d && plainDs ds
end
mutual
def depD : D → Nat
  | .tup ds => depDs ds + 1
  | _ => 1
def depDs : List D → Nat
  | [] => 0
  | d :: ds => max (depD d) (depDs ds)
end
mutual
def sameD : D → D → Bool
  | a, .tup ds => match a with
    | .tup es => sameDs es ds
    | _ => false
  | a, .non => match a with
    | .non => true
    | _ => false
  | a, .str s => match a with
    | .str t => decide (t = s)
    | _ => false
  | a, .bl s => match a with
    | .bl t => decide (t = s)
    | _ => false
  | a, .int s => match a with
    | .int t => decide (t = s)
    | _ => false
  | _, _ => false
def sameDs : List D → List D → Bool
  | [], [] => true
  | e :: es, d :: ds => sameD e d && sameDs es ds
  | _, _ => false
end
/-- what may be handed to it -/
def c__law_same : Nat → Con
  | 0 => fun _ _ _ _ => False
  | n + 1 => fun ds μ Φ _ => ∃ a d, ds = [a, d] ∧ plainD a = true ∧ plainD d = true ∧ depD d ≤ n + 1 ∧ Φ (.bl (sameD a d)) μ
theorem len__law_same {n ds μ Φ Ψ} (h : c__law_same n ds μ Φ Ψ) : ds.length = 2 := by
  cases n with
  | zero => exact h.elim
  | succ n => obtain ⟨i, _, rfl, _⟩ := h; rfl
theorem depD_pos (d : D) : 0 < depD d := by cases d <;> simp [depD]
theorem same_at {n a d μ Φ Ψ} (pa : plainD a = true) (pd : plainD d = true) (hd : depD d ≤ n) (h : Φ (.bl (sameD a d)) μ) : c__law_same n [a, d] μ Φ Ψ := by
  cases n with
  | zero => have := depD_pos d; omega
  | succ n => exact ⟨a, d, rfl, pa, pd, hd, h⟩
theorem plain_get : ∀ {ds : List D} {i : Nat} {d : D}, plainDs ds = true → ds[i]? = some d → plainD d = true
  | [], i, d, _, e => by cases e
  | x :: xs, 0, d, h, e => by cases e; simp [plainDs] at h; exact h.1
  | x :: xs, i + 1, d, h, e => by simp [plainDs] at h; exact plain_get h.2 e
theorem dep_get : ∀ {ds : List D} {i : Nat} {d : D}, ds[i]? = some d → depD d ≤ depDs ds
  | [], i, d, e => by cases e
  | x :: xs, 0, d, e => by cases e; simp only [depDs]; omega
  | x :: xs, i + 1, d, e => by have := dep_get (ds := xs) (i := i) e; simp only [depDs]; omega
theorem sameDs_len : ∀ {es ds : List D}, es.length ≠ ds.length → sameDs es ds = false
  | [], [], h => absurd rfl h
  | [], _ :: _, h => by simp [sameDs]
  | _ :: _, [], h => by simp [sameDs]
  | e :: es, d :: ds, h => by simp [sameDs]; intro _; exact sameDs_len (by simpa using h)
theorem sameDs_all : ∀ {es ds : List D}, es.length = ds.length → ((List.range ds.length).map fun i => sameD (es.getD i .non) (ds.getD i .non)).all id = sameDs es ds
  | [], [], h => by simp [sameDs]
  | [], _ :: _, h => by simp at h
  | _ :: _, [], h => by simp at h
  | e :: es, d :: ds, h => by
    have ih := sameDs_all (es := es) (ds := ds) (by simpa using h)
    rw [List.length_cons, List.range_succ_eq_map, List.map_cons, List.map_map, List.all_cons, sameDs, ← ih]
    rfl
theorem step__law_same (T : Txt P w K mg) {k : Nat} (hk : 0 ≤ k) (n : Nat) (ih__law_same : FnOk P w K mg base (L2N.CX P w) k T.f__law_same T.d__law_same ["_law_actual", "_law_due"] (spOf K (c__law_same n))) : FnOk P w K mg base (L2N.CX P w) (k + 1) T.f__law_same T.d__law_same ["_law_actual", "_law_due"] (spOf K (c__law_same (n + 1))) := by
  refine def_okC T.F__law_same sc__law_same _ (fun ds μ Φ Ψ h => len__law_same h) (fun cdv A outer s H E B hW hr =>
    have tk : L2N.Takes (cxOf (L2N.CX P w) P w K mg base N__law_same "_law_same" (defScope s__law_same) T.f__law_same cdv A outer s H E) (fun cls d _ H => E cls d H) := L2N.takes_of rfl rfl rfl rfl
    ⟨_, (pss_cons (ps_if (pt_val (pe_callB call_isi (by rfl) T.z_isinstance (by decide +kernel) (pa_cons (pv 1) (pa_cons (pe_bltn (v := .ty "tuple") rfl T.z_tuple (by decide +kernel) rfl) pa_nil)))) (pss_cons (ps_if (PW.pt (pw_or (pt_not (pt_val (pe_callB call_isi (by rfl) T.z_isinstance (by decide +kernel) (pa_cons (pv 0) (pa_cons (pe_bltn (v := .ty "tuple") rfl T.z_tuple (by decide +kernel) rfl) pa_nil))))) (pw_or1 (pt_cmpR op_ne (pe_callB call_len_seq (by rfl) T.z_len PySem.boot_len (pa_cons (pv 0) pa_nil)) (pe_callB call_len_seq (by rfl) T.z_len PySem.boot_len (pa_cons (pv 1) pa_nil)) (nomark _))))) (pss_one (ps_ret pe_bl)) pss_nil)
      (pss_one (ps_ret (pe_callB (cr_all rfl) (by rfl) T.z_all (by decide +kernel) (pa_cons (pe_lc (own := [("_law_p", 2)]) rfl sc__law_same.nd (pi_range1 rfl T.z_range (pa_cons (pe_callB call_len_seq (by rfl) T.z_len PySem.boot_len (pa_cons (pv 1) pa_nil)) pa_nil)) (blkOk_by (N := N__law_same) (sc := defScope s__law_same) (by decide +kernel)) (fun _ _ _ _ _ => (pg_name (i := 2) sc__law_same.nd rfl (Or.inl rfl))) (fun _ _ _ _ _ => pts_nil) (fun _ _ _ _ _ => (pe_call ih__law_same hr rfl T.g__law_same T.F__law_same.kp T.b__law_same .nil passN (pa_cons (pe_ix ix_tup (pv 0) (pv 2) (fun _ _ => rfl)) (pa_cons (pe_ix ix_tup (pv 1) (pv 2) (fun _ _ => rfl)) pa_nil))))) pa_nil))))) pss_nil)
      (pss_cons (ps_if (pt_cmpR op_isN (pv 1) pe_non (nomark _)) (pss_one (ps_ret (pe_cmpR op_isN (pv 0) pe_non (nomark _)))) pss_nil)
      (pss_cons (ps_if (pt_val (pe_callB call_isi (by rfl) T.z_isinstance (by decide +kernel) (pa_cons (pv 1) (pa_cons (pe_bltn (v := .ty "str") rfl T.z_str (by decide +kernel) rfl) pa_nil)))) (pss_one (ps_ret (pe_and (pe_callB call_isi (by rfl) T.z_isinstance (by decide +kernel) (pa_cons (pv 0) (pa_cons (pe_bltn (v := .ty "str") rfl T.z_str (by decide +kernel) rfl) pa_nil))) (pe_one (pe_cmpR op_eq (pv 0) (pv 1) (nomark _)))))) pss_nil)
      (pss_cons (ps_if (pt_val (pe_callB call_isi (by rfl) T.z_isinstance (by decide +kernel) (pa_cons (pv 1) (pa_cons (pe_bltn (v := .ty "bool") rfl T.z_bool (by decide +kernel) rfl) pa_nil)))) (pss_one (ps_ret (pe_and (pe_callB call_isi (by rfl) T.z_isinstance (by decide +kernel) (pa_cons (pv 0) (pa_cons (pe_bltn (v := .ty "bool") rfl T.z_bool (by decide +kernel) rfl) pa_nil))) (pe_one (pe_cmpR op_eq (pv 0) (pv 1) (nomark _)))))) pss_nil)
      (pss_one (ps_ret (pe_and (pe_callB call_isi (by rfl) T.z_isinstance (by decide +kernel) (pa_cons (pv 0) (pa_cons (pe_bltn (v := .ty "int") rfl T.z_int (by decide +kernel) rfl) pa_nil))) (pe_and (pe_not (pe_callB call_isi (by rfl) T.z_isinstance (by decide +kernel) (pa_cons (pv 0) (pa_cons (pe_bltn (v := .ty "bool") rfl T.z_bool (by decide +kernel) rfl) pa_nil)))) (pe_one (pe_cmpR op_eq (pv 0) (pv 1) (nomark _))))))))))),
      (sSeq (sIfS (sB (sCB (rcIsi (T := "tuple")) (sCons sVar (sCons sHd sNil)))) (sSeq (sIfS (sOr (sNot (sB (sCB (rcIsi (T := "tuple")) (sCons sVar (sCons sHd sNil))))) (sTest (sOp roNe (sCB rcLen (sCons sVar sNil)) (sCB rcLen (sCons sVar sNil))))) (sRet sBl) sNext)
      (sRet (sCB rcAll (sCons (sLc (siR1 (sCB rcLen (sCons sVar sNil))) (gwName List.mem_cons_self) (fun _ _ _ => sName) (fun _ _ _ => sYes) (fun _ _ _ => (sCall (sCons (sOp roIxT sVar sVar) (sCons (sOp roIxT sVar sVar) sNil))))) sNil)))) sNext)
      (sSeq (sIfS (sTest (sOp roIsN sVar sNon)) (sRet (sOp roIsN sVar sNon)) sNext)
      (sSeq (sIfS (sB (sCB (rcIsi (T := "str")) (sCons sVar (sCons sHd sNil)))) (sRet (sAndV (sCB (rcIsi (T := "str")) (sCons sVar (sCons sHd sNil))) (sOp roEq sVar sVar))) sNext)
      (sSeq (sIfS (sB (sCB (rcIsi (T := "bool")) (sCons sVar (sCons sHd sNil)))) (sRet (sAndV (sCB (rcIsi (T := "bool")) (sCons sVar (sCons sHd sNil))) (sOp roEq sVar sVar))) sNext)
      (sRet (sAndV (sCB (rcIsi (T := "int")) (sCons sVar (sCons sHd sNil))) (sAndV (sNotV (sCB (rcIsi (T := "bool")) (sCons sVar (sCons sHd sNil)))) (sOp roEq sVar sVar))))))))⟩) (fun ds μ Φ Ψ h => ?hv)
  case hv =>
    obtain ⟨a, d, rfl, pa, pd, hd, h⟩ := h
    cases d with
    | tup ds =>
      cases a with
      | tup es =>
        walk_at "wps"
        refine ⟨fun c => ?_, fun c => ?_⟩
        · have c : es.length ≠ ds.length := by intro z; rw [z] at c; simp at c
          rw [sameD, sameDs_len c] at h
          exact ret_same h
        · have c : es.length = ds.length := by simp at c; omega
          simp [plainD] at pa pd
          refine ⟨by omega, by omega, lcG_mapN (fun i => .bl (sameD (es.getD i .non) (ds.getD i .non))) (by rw [rngD_len]; omega) (fun i d μ2 X hi hsub hx => ?_) ?_⟩
          · obtain ⟨hj, rfl⟩ := rngD_get hi
            have h1 : es[i]? = some es[i] := List.getElem?_eq_getElem (by omega)
            have h2 : ds[i]? = some ds[i] := List.getElem?_eq_getElem (by omega)
            walk_at "wps"
            refine ⟨_, atI_n h1, ?_⟩
            walk_at "wps"
            refine ⟨_, atI_n h2, same_at (plain_get pa.1 h1) (plain_get pd.1 h2) (by have := dep_get h2; simp only [depD] at hd; omega) ?_⟩
            simpa [List.getD_eq_getElem?_getD, h1, h2] using hx
          · rw [rngD_len]
            refine w_allB (P := (List.range ds.length).map fun i => sameD (es.getD i .non) (ds.getD i .non)) (by rw [List.map_map]; rfl) (ret_same ?_)
            rw [sameDs_all c]
            exact h
      | non => walk_at "wps"; exact ret_same h
      | int i => walk_at "wps"; exact ret_same h
      | bl i => walk_at "wps"; exact ret_same h
      | str i => walk_at "wps"; exact ret_same h
      | _ => simp [plainD] at pa
    | non =>
      cases a with
      | tup es => walk_at "wps"; exact ret_same h
      | non => walk_at "wps"; exact ret_same h
      | int i => walk_at "wps"; exact ret_same h
      | bl i => walk_at "wps"; exact ret_same h
      | str i => walk_at "wps"; exact ret_same h
      | _ => simp [plainD] at pa
    | str t =>
      cases a with
      | tup es => walk_at "wps"; exact ret_same h
      | non => walk_at "wps"; exact ret_same h
      | int i => walk_at "wps"; exact ret_same h
      | bl i => walk_at "wps"; exact ret_same h
      | str i => walk_at "wps"; exact ret_same h
      | _ => simp [plainD] at pa
    | bl t =>
      cases a with
      | tup es => walk_at "wps"; exact ret_same h
      | non => walk_at "wps"; exact ret_same h
      | int i => walk_at "wps"; exact ret_same h
      | bl i => walk_at "wps"; exact ret_same h
      | str i => walk_at "wps"; exact ret_same h
      | _ => simp [plainD] at pa
    | int t =>
      cases a with
      | tup es => walk_at "wps"; exact ret_same h
      | non => walk_at "wps"; exact ret_same h
      | int i => walk_at "wps"; exact ret_same h
      | bl i => walk_at "wps"; exact ret_same h
      | str i => walk_at "wps"; exact ret_same h
      | _ => simp [plainD] at pa
    | _ => simp [plainD] at pd
def c__law_contexts : Con := fun ds μ Φ _ => ∃ n k : Nat, ds = [.int n, .int k] ∧ n ≤ 64 ∧ k ≤ 4 ∧ 1 ≤ k ∧ Φ (.int ((k ^ n : Nat) : Int)) μ
theorem len__law_contexts {ds μ Φ Ψ} (h : c__law_contexts ds μ Φ Ψ) : ds.length = 2 := by obtain ⟨i, j, rfl, _⟩ := h; rfl
theorem ok__law_contexts {cx : CXT} (T : Txt P w K mg) : FnOk P w K mg base cx 1 T.f__law_contexts T.d__law_contexts ["_law_n", "_law_k"] (spOf K c__law_contexts) := by
  refine def_okC T.F__law_contexts sc__law_contexts _ (fun ds μ Φ Ψ h => len__law_contexts h) (fun cdv A outer s H E B hW hr =>
    ⟨_, (pss_cons (ps_set (i := 2) sc__law_contexts.nd rfl (Or.inl rfl) pe_int)
      (pss_cons (ps_for (passes_of rfl) rfl (pi_range1 rfl T.z_range (pa_cons (pv 0) pa_nil)) (pg_name (i := 3) sc__law_contexts.nd rfl (Or.inl rfl)) (pss_one (ps_set (i := 2) sc__law_contexts.nd rfl (Or.inl rfl) (pe_op op_mulX (pv 2) (pv 1)))))
      (pss_one (ps_ret (pv 2))))),
      (sSeq (sAsg sInt sName)
      (sSeq (sFor (siR1 sVar) (fun _ _ _ => sName) (fun _ _ _ => (sAsg (sOp roInt sVar sVar) sName)))
      (sRet sVar)))⟩) (fun ds μ Φ Ψ h => ?hv)
  case hv =>
    obtain ⟨n, k, rfl, hn, hk, hk1, h⟩ := h
    walk_at "wps"
    refine ⟨by omega, by omega, fun i δ' μ' => μ' = μ ∧ ∃ x : Option D, δ' = [some (.int n), some (.int k), some (.int ((k ^ i : Nat) : Int)), x] ∧ i ≤ n, ⟨rfl, none, rfl, by omega⟩, ?_, ?_⟩
    · rintro i d δ' μ' hi ⟨rfl, x, rfl, hin⟩
      obtain ⟨hj, rfl⟩ := rngD_get hi
      walk_at "wps"
      have := pow_small hk1 hk (show i ≤ 64 by omega)
      refine ⟨mulx 140 10 (by rw [Int.natAbs_natCast]; exact Nat.lt_of_le_of_lt this (by decide)) (by rw [Int.natAbs_natCast]; exact Nat.lt_of_le_of_lt hk (by decide)) (by decide), some (.int (i : Int)), ?_, by omega⟩
      rw [Nat.pow_succ, Int.natCast_mul]
    · rintro δ' μ' ⟨rfl, x, rfl, hin⟩
      walk_at "wps"
      exact ret_same h
theorem ix_snoc (k : Nat) (x : List Int) (r : Int) : ctxIx k (x ++ [r]) = ctxIx k x * k + r := by unfold ctxIx; rw [List.foldl_append]; rfl
theorem ix_take {k : Nat} {x : List Int} {i : Nat} {r : Int} (h : x[i]? = some r) : ctxIx k (x.take (i + 1)) = ctxIx k (x.take i) * k + r := by rw [List.take_add_one, h]; exact ix_snoc k _ r
theorem ix_bound {k : Nat} {x : List Int} (hk : 1 ≤ k) (h : ∀ r ∈ x, 0 ≤ r ∧ r < (k : Int)) : ∀ i, i ≤ x.length → 0 ≤ ctxIx k (x.take i) ∧ ctxIx k (x.take i) < ((k ^ i : Nat) : Int)
  | 0, _ => by simp [ctxIx]
  | i + 1, hi => by
    have ih := ix_bound hk h i (by omega)
    have hr := h x[i] (List.getElem_mem (by omega))
    rw [ix_take (List.getElem?_eq_getElem (by omega))]
    have h1 : 0 ≤ ctxIx k (x.take i) * (k : Int) := Int.mul_nonneg ih.1 (by omega)
    have h2 : (ctxIx k (x.take i) + 1) * (k : Int) ≤ ((k ^ i : Nat) : Int) * (k : Int) := Int.mul_le_mul_of_nonneg_right (by omega) (by omega)
    rw [Int.add_mul, Int.one_mul] at h2
    rw [Nat.pow_succ, Int.natCast_mul]
    omega
def NumC (mk : List D → D) : Con := fun ds μ Φ _ => ∃ (k : Nat) (x : List Int), ds = [.int k, mk (x.map .int)] ∧ 1 ≤ k ∧ k ≤ 4 ∧ x.length ≤ 64 ∧ (∀ r ∈ x, 0 ≤ r ∧ r < (k : Int)) ∧ Φ (.int (ctxIx k x)) μ
theorem NumC.len {mk : List D → D} {ds μ Φ Ψ} (h : NumC mk ds μ Φ Ψ) : ds.length = 2 := by obtain ⟨_, _, rfl, _⟩ := h; rfl
def c__law_number_T : Con := NumC .tup
theorem len__law_number_T {ds μ Φ Ψ} (h : c__law_number_T ds μ Φ Ψ) : ds.length = 2 := h.len
theorem ok__law_number_T {cx : CXT} (T : Txt P w K mg) : FnOk P w K mg base cx 1 T.f__law_number T.d__law_number ["_law_k", "_law_context_here"] (spOf K c__law_number_T) := by
  refine def_okC T.F__law_number sc__law_number _ (fun ds μ Φ Ψ h => len__law_number_T h) (fun cdv A outer s H E B hW hr =>
    ⟨_, (pss_cons (ps_set (i := 2) sc__law_number.nd rfl (Or.inl rfl) pe_int)
      (pss_cons (ps_for (passes_of rfl) rfl (pi_tup (pv 1)) (pg_name (i := 3) sc__law_number.nd rfl (Or.inl rfl)) (pss_one (ps_set (i := 2) sc__law_number.nd rfl (Or.inl rfl) (pe_op op_add (pe_op op_mulX (pv 2) (pv 0)) (pv 3)))))
      (pss_one (ps_ret (pv 2))))),
      (sSeq (sAsg sInt sName)
      (sSeq (sFor (siT sVar) (fun _ _ _ => sName) (fun _ _ _ => (sAsg (sOp roInt0 (sOp roInt sVar sVar) sVar) sName)))
      (sRet sVar)))⟩) (fun ds μ Φ Ψ h => ?hv)
  case hv =>
    obtain ⟨k, x, rfl, hk1, hk, hl, hr, h⟩ := h
    walk_at "wps"
    refine ⟨fun i δ' μ' => μ' = μ ∧ ∃ y : Option D, δ' = [some (.int k), some (.tup (x.map .int)), some (.int (ctxIx k (x.take i))), y] ∧ i ≤ x.length, ⟨rfl, none, rfl, Nat.zero_le _⟩, ?_, ?_⟩
    · rintro i d δ' μ' hi ⟨rfl, y, rfl, hil⟩
      obtain ⟨z, hz, rfl⟩ := mapI_get hi
      have hlt := (List.getElem?_eq_some_iff.mp hz).1
      have hb := ix_bound hk1 hr i hil
      have hp := pow_small hk1 hk (show i ≤ 64 by omega)
      walk_at "wps"
      refine ⟨mulx 140 10 (Nat.lt_of_lt_of_le (show (ctxIx k (x.take i)).natAbs < k ^ i by omega) (Nat.le_trans hp (Nat.pow_le_pow_right (by decide) (by decide)))) (by rw [Int.natAbs_natCast]; exact Nat.lt_of_le_of_lt hk (by decide)) (by decide), _, by rw [ix_take hz], hlt⟩
    · rintro δ' μ' ⟨rfl, y, rfl, _⟩
      rw [List.take_length]
      walk_at "wps"
      exact ret_same h
def c__law_number_L : Con := NumC .lst
theorem len__law_number_L {ds μ Φ Ψ} (h : c__law_number_L ds μ Φ Ψ) : ds.length = 2 := h.len
theorem ok__law_number_L {cx : CXT} (T : Txt P w K mg) : FnOk P w K mg base cx 1 T.f__law_number T.d__law_number ["_law_k", "_law_context_here"] (spOf K c__law_number_L) := by
  refine def_okC T.F__law_number sc__law_number _ (fun ds μ Φ Ψ h => len__law_number_L h) (fun cdv A outer s H E B hW hr =>
    ⟨_, (pss_cons (ps_set (i := 2) sc__law_number.nd rfl (Or.inl rfl) pe_int)
      (pss_cons (ps_for (passes_of rfl) rfl (pi_list (pv 1)) (pg_name (i := 3) sc__law_number.nd rfl (Or.inl rfl)) (pss_one (ps_set (i := 2) sc__law_number.nd rfl (Or.inl rfl) (pe_op op_add (pe_op op_mulX (pv 2) (pv 0)) (pv 3)))))
      (pss_one (ps_ret (pv 2))))),
      (sSeq (sAsg sInt sName)
      (sSeq (sFor (siL sVar) (fun _ _ _ => sName) (fun _ _ _ => (sAsg (sOp roInt0 (sOp roInt sVar sVar) sVar) sName)))
      (sRet sVar)))⟩) (fun ds μ Φ Ψ h => ?hv)
  case hv =>
    obtain ⟨k, x, rfl, hk1, hk, hl, hr, h⟩ := h
    walk_at "wps"
    refine ⟨fun i δ' μ' => μ' = μ ∧ ∃ y : Option D, δ' = [some (.int k), some (.lst (x.map .int)), some (.int (ctxIx k (x.take i))), y] ∧ i ≤ x.length, ⟨rfl, none, rfl, Nat.zero_le _⟩, ?_, ?_⟩
    · rintro i d δ' μ' hi ⟨rfl, y, rfl, hil⟩
      obtain ⟨z, hz, rfl⟩ := mapI_get hi
      have hlt := (List.getElem?_eq_some_iff.mp hz).1
      have hb := ix_bound hk1 hr i hil
      have hp := pow_small hk1 hk (show i ≤ 64 by omega)
      walk_at "wps"
      refine ⟨mulx 140 10 (Nat.lt_of_lt_of_le (show (ctxIx k (x.take i)).natAbs < k ^ i by omega) (Nat.le_trans hp (Nat.pow_le_pow_right (by decide) (by decide)))) (by rw [Int.natAbs_natCast]; exact Nat.lt_of_le_of_lt hk (by decide)) (by decide), _, by rw [ix_take hz], hlt⟩
    · rintro δ' μ' ⟨rfl, y, rfl, _⟩
      rw [List.take_length]
      walk_at "wps"
      exact ret_same h
def c__law_context : Con := fun ds μ Φ _ => ∃ (p n k : Nat), ds = [.int p, .int n, .int k] ∧ 1 ≤ k ∧ k ≤ 4 ∧ n ≤ 8 ∧ Φ (.tup ((digs k n p).map .int)) μ
theorem len__law_context {ds μ Φ Ψ} (h : c__law_context ds μ Φ Ψ) : ds.length = 3 := by obtain ⟨_, _, _, rfl, _⟩ := h; rfl
theorem ok__law_context {cx : CXT} (T : Txt P w K mg) : FnOk P w K mg base cx 1 T.f__law_context T.d__law_context ["_law_number_here", "_law_n", "_law_k"] (spOf K c__law_context) := by
  refine def_okC T.F__law_context sc__law_context _ (fun ds μ Φ Ψ h => len__law_context h) (fun cdv A outer s H E B hW hr =>
    ⟨_, (pss_cons (ps_set (i := 3) sc__law_context.nd rfl (Or.inl rfl) (pe_lst pa_nil))
      (pss_cons (ps_set (i := 4) sc__law_context.nd rfl (Or.inl rfl) (pe_callTy call_int1 (by rfl) T.z_int (by decide +kernel) (pa_cons (pv 0) pa_nil)))
      (pss_cons (ps_for (passes_of rfl) rfl (pi_range1 rfl T.z_range (pa_cons (pv 1) pa_nil)) (pg_name (i := 5) sc__law_context.nd rfl (Or.inl rfl)) (pss_cons (ps_set (i := 3) sc__law_context.nd rfl (Or.inl rfl) (pe_op op_cat (pe_lst (pa_cons (pe_op op_mod (pv 4) (pv 2)) pa_nil)) (pv 3)))
      (pss_one (ps_set (i := 4) sc__law_context.nd rfl (Or.inl rfl) (pe_op op_fdivW (pv 4) (pv 2))))))
      (pss_one (ps_ret (pe_callTy call_tupleN (by rfl) T.z_tuple (by decide +kernel) (pa_cons (pv 3) pa_nil))))))),
      (sSeq (sAsg (sLst sNil) sName)
      (sSeq (sAsg (sCB rcInt (sCons sVar sNil)) sName)
      (sSeq (sFor (siR1 sVar) (fun _ _ _ => sName) (fun _ _ _ => (sSeq (sAsg (sOp roCatL (sLst (sCons (sOp roInt sVar sVar) sNil)) sVar) sName)
      (sAsg (sOp roInt sVar sVar) sName))))
      (sRet (sCB rcTuple (sCons sVar sNil))))))⟩) (fun ds μ Φ Ψ h => ?hv)
  case hv =>
    obtain ⟨p, n, k, rfl, hk1, hk, hn, h⟩ := h
    walk_at "wps"
    refine ⟨by decide, by omega, by omega, fun i δ' μ' => μ' = μ ∧ i ≤ n ∧ ∃ x : Option D, δ' = [some (.int p), some (.int n), some (.int k), some (.lst ((digs k i p).map .int)), some (.int ((p / k ^ i : Nat) : Int)), x], ⟨rfl, Nat.zero_le _, none, by simp [digs]⟩, ?_, ?_⟩
    · rintro i d δ' μ' hi ⟨rfl, hin, x, rfl⟩
      obtain ⟨hj, rfl⟩ := rngD_get hi
      have hdl := (digs_ok (k := k) hk1 i p).1
      walk_at "wps"
      refine ⟨by omega, by decide, by rw [hdl]; omega, wide_div (b := 10) (by omega) (by omega) (by omega) (by omega), hj, some (.int i), ?_⟩
      rw [digs_cons, Nat.pow_succ, ← Nat.div_div_eq_div_mul]
      rfl
    · rintro δ' μ' ⟨rfl, _, x, rfl⟩
      walk_at "wps"
      exact ret_same h
theorem lcNum {Ψ : XP} {Φ : DK} {n : Nat} {φ : DE} {δw : DEnv} {μ1 : Sto} {m lim : Nat} {st : Addr} {ns : List Int} {c : List D} (hm : m ≤ 1000) (hst : μ1 st = some (.lst c)) (h0 : StC ns c)
    (hs : ∀ (i : Nat) (μ2 : Sto) (X : DK) (c : List D), μ2 st = some (.lst c) → StC ns c → (∀ (y : Int) c', StC ns c' → 0 ≤ y → y < (lim : Int) → X (.int y) (sset μ2 st (.lst c'))) → φ Ψ (δw.set n (some (.int (i : Int)))) μ2 X)
    (hd : ∀ l c, NumOk m lim l → StC ns c → Φ (.lst (l.map .int)) (sset μ1 st (.lst c))) : LcG (eName n) dYes φ δw Ψ (rngD 0 m) μ1 Φ := by
  refine lcG_drawN (StC ns) (fun i acc => ∃ l : List Int, acc = l.map .int ∧ NumOk i lim l) (by rw [rngD_len]; omega) hst h0 ⟨[], rfl, rfl, by simp⟩ (fun i d μ2 X acc c2 hi hs2 sc ⟨l, e, hl⟩ hla hx => ?_) (fun acc c2 ⟨l, e, hl⟩ hla sc => ?_)
  · obtain ⟨hj, rfl⟩ := rngD_get hi
    rw [Int.zero_add]
    refine hs i μ2 X c2 hs2 sc fun y c' sc' y0 y1 => hx _ c' sc' ⟨l ++ [y], by rw [e, List.map_append]; rfl, by rw [List.length_append, hl.1]; rfl, fun z hz => ?_⟩
    rcases List.mem_append.mp hz with q | q
    · exact hl.2 z q
    · rw [List.mem_singleton.mp q]; exact ⟨y0, y1⟩
  · rw [rngD_len] at hl
    rw [e]
    exact hd l c2 hl sc
theorem ctxIx_digs {k : Nat} : ∀ (n p : Nat), ctxIx k (digs k n p) = ((p % k ^ n : Nat) : Int)
  | 0, p => by rw [Nat.pow_zero, Nat.mod_one]; rfl
  | n + 1, p => by
    have ih := ctxIx_digs (k := k) n (p / k)
    show ctxIx k (digs k n (p / k) ++ [((p % k : Nat) : Int)]) = _
    rw [ix_snoc, ih, ← Int.natCast_mul, ← Int.natCast_add]
    congr 1
    rw [Nat.pow_succ', Nat.mod_mul, Nat.mul_comm, Nat.add_comm]
theorem digs_ix {k : Nat} (hk : 1 ≤ k) : ∀ (n : Nat) (y : List Int), y.length = n → (∀ r ∈ y, 0 ≤ r ∧ r < (k : Int)) → digs k n (ctxIx k y).toNat = y
  | 0, y, hl, _ => by rw [List.eq_nil_of_length_eq_zero hl]; rfl
  | n + 1, y, hl, h => by
    rcases List.eq_nil_or_concat y with rfl | ⟨z, r, rfl⟩
    · cases hl
    · rw [List.concat_eq_append] at hl h ⊢
      have hz : z.length = n := by simpa using hl
      have hzr : ∀ r ∈ z, 0 ≤ r ∧ r < (k : Int) := fun r hr => h r (List.mem_append_left _ hr)
      have hr := h r (List.mem_append_right _ List.mem_cons_self)
      have ih := digs_ix hk n z hz hzr
      have hb := ix_bound hk hzr z.length (Nat.le_refl _)
      rw [List.take_length] at hb
      rw [ix_snoc]
      obtain ⟨P, hP⟩ : ∃ P : Nat, ctxIx k z = (P : Int) := ⟨_, (Int.toNat_of_nonneg hb.1).symm⟩
      obtain ⟨R, hR⟩ : ∃ R : Nat, r = (R : Int) := ⟨r.toNat, by omega⟩
      rw [hP, Int.toNat_natCast] at ih
      subst hR
      rw [hP, ← Int.natCast_mul, ← Int.natCast_add, Int.toNat_natCast]
      have e1 : (P * k + R) / k = P := by rw [Nat.mul_comm, Nat.mul_add_div hk, Nat.div_eq_of_lt (by omega)]; omega
      have e2 : (P * k + R) % k = R := by rw [Nat.mul_comm, Nat.mul_add_mod, Nat.mod_eq_of_lt (by omega)]
      show digs k n ((P * k + R) / k) ++ [(((P * k + R) % k : Nat) : Int)] = _
      rw [e1, e2, ih]
theorem row_ctxs {c : Ch} (hc : ChOk c) : ((ctxs c.n c.k).map fun x => ((pk c x : Nat) : Int)) = c.row := by
  rw [ctxs_eq hc.k1, List.map_map]
  apply List.ext_getElem
  · rw [List.length_map, List.length_range, hc.len]
  · intro i h1 h2
    rw [List.getElem_map, List.getElem_range]
    have hi : i < c.k ^ c.n := by rw [← hc.len]; exact h2
    show ((pk c (digs c.k c.n i) : Nat) : Int) = _
    unfold pk
    rw [ctxIx_digs, Nat.mod_eq_of_lt hi, Int.toNat_natCast, List.getD_eq_getElem?_getD, List.getElem?_eq_getElem h2, Option.getD_some]
    exact Int.toNat_of_nonneg (hc.en _ (List.getElem_mem h2)).1
def c__law_row : Con := fun ds μ Φ _ => ∃ (p : Addr) (ns : List Int) (c : List D) (n k : Nat), ds = [.hd (.ref p), .int n, .int k] ∧ μ p = some (.lst c) ∧ StC ns c ∧ 1 ≤ n ∧ n ≤ 8 ∧ 1 ≤ k ∧ k ≤ 4 ∧ k ^ n ≤ 256 ∧ ∀ r c', NumOk (k ^ n) n r → StC ns c' → Φ (.tup (r.map .int)) (sset μ p (.lst c'))
theorem len__law_row {ds μ Φ Ψ} (h : c__law_row ds μ Φ Ψ) : ds.length = 3 := by obtain ⟨_, _, _, _, _, rfl, _⟩ := h; rfl
theorem log_small {n : Nat} (h : n ≤ 8000) : (n : Int).natAbs.log2 < 9000 := by rw [Int.natAbs_natCast]; have := Nat.log2_le_self n; omega
theorem ok__law_row {cx : CXT} (T : Txt P w K mg) : FnOk P w K mg base cx 2 T.f__law_row T.d__law_row ["_law_state", "_law_n", "_law_k"] (spOf K c__law_row) := by
  refine def_okC T.F__law_row sc__law_row _ (fun ds μ Φ Ψ h => len__law_row h) (fun cdv A outer s H E B hW hr =>
    ⟨_, (pss_one (ps_ret (pe_callTy call_tupleN (by rfl) T.z_tuple (by decide +kernel) (pa_cons (pe_lc (own := [("_law_p", 3)]) rfl sc__law_row.nd (pi_range1 rfl T.z_range (pa_cons (pe_call (ok__law_contexts T) hr rfl T.g__law_contexts T.F__law_contexts.kp T.b__law_contexts .nil passN (pa_cons (pv 1) (pa_cons (pv 2) pa_nil))) pa_nil)) (blkOk_by (N := N__law_row) (sc := defScope s__law_row) (by decide +kernel)) (fun _ _ _ _ _ => (pg_name (i := 3) sc__law_row.nd rfl (Or.inl rfl))) (fun _ _ _ _ _ => pts_nil) (fun _ _ _ _ _ => (pe_call (ok__law_pick T) hr rfl T.g__law_pick T.F__law_pick.kp T.b__law_pick .nil passN (pa_cons (pv 0) (pa_cons (pv 1) pa_nil))))) pa_nil)))),
      (sRet (sCB rcTuple (sCons (sLc (siR1 (sCall (sCons sVar (sCons sVar sNil)))) (gwName List.mem_cons_self) (fun _ _ _ => sName) (fun _ _ _ => sYes) (fun _ _ _ => (sCall (sCons sVar (sCons sVar sNil))))) sNil)))⟩) (fun ds μ Φ Ψ h => ?hv)
  case hv =>
    obtain ⟨p, ns, c, n, k, rfl, hst, sc, n1, n8, k1, k4, hs, h⟩ := h
    walk_at "wps"
    refine ⟨n, k, rfl, by omega, k4, k1, ?_⟩
    walk_at "wps"
    refine ⟨by omega, by omega, lcNum (lim := n) (ns := ns) (by omega) hst sc (fun i μ2 X c7 hs7 sc7 hx7 => ?_) (fun x c7 hx sc => ?_)⟩
    · walk_at "wps"
      exact ⟨p, ns, c7, n, rfl, hs7, sc7, by omega, log_small (by omega), fun y c8 y0 y1 sc8 => hx7 y c8 sc8 y0 y1⟩
    · exact ⟨_, .lst _, ret_same (h x c7 hx sc)⟩
def c__law_segments : Con := fun ds μ Φ _ => ∃ (ms : List Nat) (x : List Int), ds = [.tup (natL ms), .tup (x.map .int)] ∧ ms.length ≤ 1000 ∧ x.length ≤ 1000 ∧ Φ (.lst ((segs ms x).map Am.iT)) μ
theorem len__law_segments {ds μ Φ Ψ} (h : c__law_segments ds μ Φ Ψ) : ds.length = 2 := by obtain ⟨_, _, rfl, _⟩ := h; rfl
theorem ok__law_segments {cx : CXT} (T : Txt P w K mg) : FnOk P w K mg base cx 1 T.f__law_segments T.d__law_segments ["_law_sizes", "_law_context_here"] (spOf K c__law_segments) := by
  refine def_okC T.F__law_segments sc__law_segments _ (fun ds μ Φ Ψ h => len__law_segments h) (fun cdv A outer s H E B hW hr =>
    ⟨_, (pss_cons (ps_set (i := 2) sc__law_segments.nd rfl (Or.inl rfl) (pe_lst pa_nil))
      (pss_cons (ps_set (i := 3) sc__law_segments.nd rfl (Or.inl rfl) pe_int)
      (pss_cons (ps_for (passes_of rfl) rfl (pi_tup (pv 0)) (pg_name (i := 4) sc__law_segments.nd rfl (Or.inl rfl)) (pss_cons (ps_expr (pe_bm PySem.F.plainAttrs_list PySem.F.slot_list_append PySem.F.type_list_append mt_append (pv 2) (pa_cons (pe_callTy call_tupleN (by rfl) T.z_tuple (by decide +kernel) (pa_cons (pe_slice sl_tupN (pv 1) (po_some (pv 3)) (po_some (pe_op op_add (pv 3) (pv 4)))) pa_nil)) pa_nil)))
      (pss_one (ps_set (i := 3) sc__law_segments.nd rfl (Or.inl rfl) (pe_op op_add (pv 3) (pv 4))))))
      (pss_one (ps_ret (pv 2)))))),
      (sSeq (sAsg (sOwn sNil) sName)
      (sSeq (sAsg sInt sName)
      (sSeq (sFor (siT sVar) (fun _ _ _ => sName) (fun _ _ _ => (sSeq (sDrop (sApp sVar (sCB rcTuple (sCons (sSlT sVar (sPart sVar) (sPart (sOp roInt0 sVar sVar))) sNil))))
      (sAsg (sOp roInt0 sVar sVar) sName))))
      (sRet sRest))))⟩) (fun ds μ Φ Ψ h => ?hv)
  case hv =>
    obtain ⟨ms, x, rfl, hm, hx, h⟩ := h
    walk_at "wps"
    refine ⟨by decide, fun p hp => ⟨fun i δ' μ' => ∃ x4 : Option D, δ' = [some (.tup (natL ms)), some (.tup (x.map .int)), some (.hd (.ref p)), some (.int (((ms.take i).sum : Nat) : Int)), x4] ∧ μ' = sset μ p (.lst ((segs (ms.take i) x).map Am.iT)) ∧ i ≤ ms.length, ⟨none, rfl, rfl, Nat.zero_le _⟩, ?_, ?_⟩⟩
    · rintro i d δ' μ' hi ⟨x4, rfl, rfl, hil⟩
      unfold natL at hi
      rw [List.getElem?_map, Option.map_eq_some_iff] at hi
      obtain ⟨m, hm2, rfl⟩ := hi
      have hlt := (List.getElem?_eq_some_iff.mp hm2).1
      walk_at "wps"
      rw [cut_mid]
      have es : segs (ms.take (i + 1)) x = segs (ms.take i) x ++ [(x.drop (ms.take i).sum).take m] := by
        rw [List.take_add_one, hm2, Option.toList_some, segs_snoc]
      have em : (ms.take (i + 1)).sum = (ms.take i).sum + m := by
        rw [List.take_add_one, hm2, Option.toList_some, List.sum_append]; simp
      refine ⟨by rw [segs_len, List.length_take]; omega, some (.int m), ?_, ?_, hlt⟩
      · rw [em, Int.natCast_add]
      · rw [es, List.map_append, ← List.map_drop, ← List.map_take]
        rfl
    · rintro δ' μ' ⟨x4, rfl, rfl, hil⟩
      rw [show (natL ms).length = ms.length by unfold natL; rw [List.length_map], List.take_length]
      walk_at "wps"
      exact ⟨μ, Sub.set Sub.refl hp, h⟩
end
section
variable {P : Program} {w : World} {K : Fg} {mg : Str → Option Value} {base : Heap}
def c__law_number : Con := fun ds μ Φ Ψ => c__law_number_T ds μ Φ Ψ ∨ c__law_number_L ds μ Φ Ψ
theorem fn_never {P : Program} {w : World} {K : Fg} {mg : Str → Option Value} {base : Heap} {CX : CXT} {k : Nat} {f : Addr} {fd : FuncData} {ps : List Str} {c : Con} (h : ∀ ds μ Φ Ψ, ¬ c ds μ Φ Ψ) : FnOk P w K mg base CX k f fd ps (spOf K c) :=
  ⟨fun vs H Q E q => by obtain ⟨μ, ds, Φ, Ψ, _, _, hc, _⟩ := q; exact absurd hc (h _ _ _ _), fun A outer s H args us vs Q E _ _ _ _ q => by obtain ⟨μ, ds, Φ, Ψ, _, _, hc, _⟩ := q; exact absurd hc (h _ _ _ _)⟩
section
variable {P : Program} {w : World} {K : Fg} {mg : Str → Option Value} {base : Heap}
theorem ok__law_number {cx : CXT} (T : Txt P w K mg) : FnOk P w K mg base cx 1 T.f__law_number T.d__law_number ["_law_k", "_law_context_here"] (spOf K c__law_number) := FnOk_or (ok__law_number_T T) (ok__law_number_L T)
theorem okN__law_same (T : Txt P w K mg) : ∀ n, FnOk P w K mg base (L2N.CX P w) n T.f__law_same T.d__law_same ["_law_actual", "_law_due"] (spOf K (c__law_same n))
  | 0 => fn_never fun ds μ Φ Ψ h => h
  | n + 1 => step__law_same T (Nat.zero_le _) n (okN__law_same T n)
theorem ok__law_same (T : Txt P w K mg) : FnOk P w K mg base (L2N.CX P w) 8 T.f__law_same T.d__law_same ["_law_actual", "_law_due"] (spOf K (c__law_same 8)) := okN__law_same T 8
end
def rowD (c : Ch) : D := .tup (c.row.map .int)
theorem nl_len (l : List Nat) : (natL l).length = l.length := by unfold natL; rw [List.length_map]
/-- what stands behind, k outcomes -/
structure Rows (k : Nat) (gs : List Ch) : Prop where
  k1 : 1 ≤ k
  k4 : k ≤ 4
  ok : ∀ g ∈ gs, ChOk g ∧ g.k = k
  l8 : gs.length ≤ 8
theorem Rows.seg {k : Nat} {gs : List Ch} {x : List Int} (h : Rows k gs) (hx : x.length = sumN gs) (hr : ∀ r ∈ x, 0 ≤ r ∧ r < (k : Int)) : SegOk gs (segs (gs.map (·.n)) x) := seg_ok (fun g hg => (h.ok g hg).2) hx hr
theorem map_pk (gs : List Ch) (S : List (List Int)) (hl : gs.length = S.length) : ((List.range gs.length).map fun i => D.int ((pk (gs.getD i ch0) (S.getD i []) : Nat) : Int)) = natL (ansS gs S) := by
  unfold natL ansS
  rw [zw_rng pk ch0 [] hl, List.map_map]; rfl
theorem map_fac (S : List (List Int)) (A : List Nat) (hl : S.length = A.length) : ((List.range S.length).map fun i => D.int ((S.getD i []).getD (A.getD i 0) 0)) = (facS S A).map .int := by
  unfold facS
  rw [zw_rng (fun s a => List.getD s a 0) [] 0 hl, List.map_map]; rfl
theorem segs_at {S : List (List Int)} {i : Nat} {s : List Int} (h : S[i]? = some s) : atI (S.map Am.iT) (i : Int) = some (.tup (s.map .int)) := atI_nat (by rw [List.getElem?_map, h]; rfl)
theorem rows_at {gs : List Ch} {i : Nat} {g : Ch} (h : gs[i]? = some g) : atI (gs.map rowD) (i : Int) = some (.tup (g.row.map .int)) := atI_nat (by rw [List.getElem?_map, h]; rfl)
theorem ent_at {s : List Int} {a : Nat} (h : a < s.length) : atI (s.map D.int) (a : Int) = some (.int (s.getD a 0)) := atI_nat (by rw [List.getElem?_map, List.getElem?_eq_getElem h, List.getD_eq_getElem?_getD, List.getElem?_eq_getElem h]; rfl)
def c__law_put : Con := fun ds μ Φ _ => ∃ (f : Ch) (gs : List Ch) (x : List Int), ds = [rowD f, .lst (gs.map rowD), .tup (natL (gs.map (·.n))), .int f.k, .tup (x.map .int)] ∧ Beh f gs ∧ x.length = sumN gs ∧ (∀ r ∈ x, 0 ≤ r ∧ r < (f.k : Int)) ∧ sumN gs ≤ 64 ∧ Φ (.int ((behT f gs x : Nat) : Int)) μ
theorem len__law_put {ds μ Φ Ψ} (h : c__law_put ds μ Φ Ψ) : ds.length = 5 := by obtain ⟨_, _, _, rfl, _⟩ := h; rfl
theorem ok__law_put {cx : CXT} (T : Txt P w K mg) : FnOk P w K mg base cx 3 T.f__law_put T.d__law_put ["_law_row_here", "_law_rows", "_law_sizes", "_law_k", "_law_context_here"] (spOf K c__law_put) := by
  refine def_okC T.F__law_put sc__law_put _ (fun ds μ Φ Ψ h => len__law_put h) (fun cdv A outer s H E B hW hr =>
    ⟨_, (pss_cons (ps_set (i := 5) sc__law_put.nd rfl (Or.inr rfl) (pe_call (ok__law_segments T) (hr.mono (by decide)) rfl T.g__law_segments T.F__law_segments.kp T.b__law_segments .nil passN (pa_cons (pv 2) (pa_cons (pv 4) pa_nil))))
      (pss_cons (ps_set (i := 6) sc__law_put.nd rfl (Or.inr rfl) (pe_lc (own := [("_law_z", 8)]) rfl sc__law_put.nd (pi_range1 rfl T.z_range (pa_cons (pe_callB call_len_seq (by rfl) T.z_len PySem.boot_len (pa_cons (pv 2) pa_nil)) pa_nil)) (blkOk_by (N := N__law_put) (sc := defScope s__law_put) (by decide +kernel)) (fun _ _ _ _ _ => (pg_name (i := 8) sc__law_put.nd rfl (Or.inl rfl))) (fun _ _ _ _ _ => pts_nil) (fun _ _ _ _ _ => (pe_ix ix_tup (pe_ix ix_list (pv 1) (pv 8) (fun _ _ => rfl)) (pe_call (ok__law_number T) (hr.mono (by decide)) rfl T.g__law_number T.F__law_number.kp T.b__law_number .nil passN (pa_cons (pv 3) (pa_cons (pe_ix ix_list (pv 5) (pv 8) (fun _ _ => rfl)) pa_nil))) (fun _ _ => rfl)))))
      (pss_cons (ps_set (i := 7) sc__law_put.nd rfl (Or.inl rfl) (pe_ix ix_tup (pv 0) (pe_call (ok__law_number T) (hr.mono (by decide)) rfl T.g__law_number T.F__law_number.kp T.b__law_number .nil passN (pa_cons (pv 3) (pa_cons (pe_lc (own := [("_law_z", 8)]) rfl sc__law_put.nd (pi_range1 rfl T.z_range (pa_cons (pe_callB call_len_seq (by rfl) T.z_len PySem.boot_len (pa_cons (pv 2) pa_nil)) pa_nil)) (blkOk_by (N := N__law_put) (sc := defScope s__law_put) (by decide +kernel)) (fun _ _ _ _ _ => (pg_name (i := 8) sc__law_put.nd rfl (Or.inl rfl))) (fun _ _ _ _ _ => pts_nil) (fun _ _ _ _ _ => (pe_ix ix_tup (pe_ix ix_list (pv 5) (pv 8) (fun _ _ => rfl)) (pe_ix ix_list (pv 6) (pv 8) (fun _ _ => rfl)) (fun _ _ => rfl)))) pa_nil))) (fun _ _ => rfl)))
      (pss_one (ps_ret (pe_op op_add (pe_callB (cr_sumT rfl) (by rfl) T.z_sum (by decide +kernel) (pa_cons (pe_slice sl_tupN (pv 2) po_none (po_some (pv 7))) pa_nil)) (pe_ix ix_list (pv 6) (pv 7) (fun _ _ => rfl)))))))),
      (sSeq (sAsg (sCall (sCons sVar (sCons sVar sNil))) sName)
      (sSeq (sAsg (sLc (siR1 (sCB rcLen (sCons sVar sNil))) (gwName List.mem_cons_self) (fun _ _ _ => sName) (fun _ _ _ => sYes) (fun _ _ _ => (sOp roIxT (sOp roIxL sVar sVar) (sCall (sCons sVar (sCons (sOp roIxL sVar sVar) sNil)))))) sName)
      (sSeq (sAsg (sOp roIxT sVar (sCall (sCons sVar (sCons (sLc (siR1 (sCB rcLen (sCons sVar sNil))) (gwName List.mem_cons_self) (fun _ _ _ => sName) (fun _ _ _ => sYes) (fun _ _ _ => (sOp roIxT (sOp roIxL sVar sVar) (sOp roIxL sVar sVar)))) sNil)))) sName)
      (sRet (sOp roInt0 (sCB rcSumT (sCons (sSlT sVar sNoPart (sPart sVar)) sNil)) (sOp roIxL sVar sVar))))))⟩) (fun ds μ Φ Ψ h => ?hv)
  case hv =>
    obtain ⟨f, gs, x, rfl, hb, hx, hr, h64, h⟩ := h
    have hf8 := hb.fo.n8
    have hln := hb.ln
    have hR : Rows f.k gs := ⟨hb.fo.k1, hb.fo.k4, hb.go, by omega⟩
    obtain ⟨S, hS⟩ : ∃ S, S = segs (gs.map (·.n)) x := ⟨_, rfl⟩
    have hs := hR.seg hx hr
    rw [← hS] at hs
    obtain ⟨hfo, hin⟩ := fac_ok hb hs
    have hSl : gs.length = S.length := hs.1
    refine seq_cut fun M hM => ?_
    walk_at "wp"
    refine ⟨gs.map (·.n), x, rfl, by rw [List.length_map]; omega, by omega, ?_⟩
    rw [← hS, hM]; clear hM M
    refine seq_cut fun M hM => ?_
    walk_at "wp"
    rw [nl_len, List.length_map]
    refine ⟨by omega, by omega, lcR (m := gs.length) (fun i => .int ((pk (gs.getD i ch0) (S.getD i []) : Nat) : Int)) (by omega) (fun i μ2 X hi hsub hX => ?_) ?_⟩
    · have hg : gs[i]? = some gs[i] := List.getElem?_eq_getElem hi
      have hSi : S[i]? = some S[i] := List.getElem?_eq_getElem (by omega)
      have hgo := hb.go _ (List.getElem_mem hi)
      have hso := hs.2 i _ _ hg hSi
      have hg8 := hgo.1.n8
      simp only [List.getD_eq_getElem?_getD, hSi, hg, Option.getD_some] at hX
      walk_at "wps"
      refine ⟨_, rows_at hg, ?_⟩
      walk_at "wps"
      refine ⟨_, segs_at hSi, .inl ⟨f.k, S[i], rfl, hb.fo.k1, hb.fo.k4, by rw [hso.1]; omega, fun r hr => by rw [← hgo.2]; exact hso.2 r hr, ?_⟩⟩
      walk_at "wps"
      exact ⟨_, by rw [← hgo.2]; exact (pk_at hgo.1 hso).1, hX⟩
    rw [map_pk gs S hSl]
    obtain ⟨A, hA⟩ : ∃ A, A = ansS gs S := ⟨_, rfl⟩
    have hAl : S.length = A.length := by rw [hA, ans_len hs, hSl]
    rw [← hA] at hfo hin ⊢
    obtain ⟨o, ho⟩ : ∃ o, o = pk f (facS S A) := ⟨_, rfl⟩
    have hol : o < gs.length := by rw [ho, hb.ln]; exact (pk_at hb.fo hfo).2
    have hres : behT f gs x = ((gs.take o).map (·.n)).sum + A.getD o 0 := by unfold behT behS; simp only; rw [← hS, ← hA, ← ho]
    rw [hres] at h
    rw [hM]; clear hM M
    refine seq_cut fun M hM => ?_
    walk_at "wp"
    rw [nl_len, List.length_map]
    refine ⟨by omega, by omega, lcR (m := gs.length) (fun i => .int ((S.getD i []).getD (A.getD i 0) 0)) (by omega) (fun i μ2 X hi hsub hX => ?_) ?_⟩
    · have hSi : S[i]? = some S[i] := List.getElem?_eq_getElem (by omega)
      have hAi : A[i]? = some A[i] := List.getElem?_eq_getElem (by omega)
      have hlt := hin i _ _ hSi hAi
      walk_at "wps"
      refine ⟨_, segs_at hSi, _, natL_at (by omega), ?_⟩
      walk_at "wps"
      refine ⟨_, ent_at (a := A.getD i 0) (by rw [List.getD_eq_getElem?_getD, hAi]; exact hlt), ?_⟩
      simp only [List.getD_eq_getElem?_getD, hSi, Option.getD_some] at hX ⊢
      exact hX
    rw [hSl, map_fac S A hAl]
    refine .inr ⟨f.k, facS S A, rfl, hb.fo.k1, hb.fo.k4, by rw [hfo.1]; omega, hfo.2, ?_⟩
    walk_at "wp"
    refine ⟨_, _, _, rfl, rfl, (pk_at hb.fo hfo).1, ?_⟩
    rw [← ho]
    rw [hM]; clear hM M
    walk_at "wps"
    rw [natL_int, ← List.map_take, ← List.map_take]
    refine w_sumT ⟨_, natL_at (by omega), ?_⟩
    rw [nat_sum, ← List.map_take]
    walk_at "wps"
    rw [Int.natCast_add] at h
    exact ret_same h
def chD (c : Ch) : D := .tup [.str "chooser", .int c.n, .int c.k, .tup (c.row.map .int)]
def refD (z : Int) : D := .tup [.str "refused", .int z]
/-- how many options there may be -/
def topN : Nat → Nat
  | 1 => 8
  | 2 => 8
  | 3 => 5
  | _ => 4
mutual
theorem same_refl : ∀ d : D, plainD d = true → sameD d d = true
  | .non, _ => rfl
  | .bl b, _ => by simp [sameD]
  | .int b, _ => by simp [sameD]
  | .str b, _ => by simp [sameD]
  | .tup ds, h => by
    simp only [plainD, Bool.and_eq_true] at h
    simp only [sameD]
    exact sames_refl ds h.1
  | .lst _, h => by simp [plainD] at h
  | .pr _, h => by simp [plainD] at h
  | .obj _ _ _, h => by simp [plainD] at h
  | .hd _, h => by simp [plainD] at h
  | .scr _, h => by simp [plainD] at h
theorem sames_refl : ∀ ds : List D, plainDs ds = true → sameDs ds ds = true
  | [], _ => rfl
  | d :: ds, h => by simp only [plainDs, Bool.and_eq_true] at h; simp only [sameDs, same_refl d h.1, sames_refl ds h.2, Bool.and_self]
end
def unitC (k : Nat) : Ch := ⟨1, k, List.replicate k 0⟩
theorem unit_ok {k : Nat} (k1 : 1 ≤ k) (k4 : k ≤ 4) : ChOk (unitC k) := ⟨Nat.le_refl _, by show 1 ≤ 8; decide, k1, k4, by show k ^ 1 ≤ 256; rw [Nat.pow_one]; omega, by show (List.replicate k (0 : Int)).length = k ^ 1; rw [List.length_replicate, Nat.pow_one], fun x hx => by
  rw [List.eq_of_mem_replicate hx]; exact ⟨Int.le_refl _, by show (0 : Int) < ((1 : Nat) : Int); decide⟩⟩
theorem same_self {d : D} {μ : Sto} {Φ : DK} {Ψ : XD → Sto → Prop} (pd : plainD d = true) (hd : depD d ≤ 8) (h : Φ (.bl true) μ) : c__law_same 8 [d, d] μ Φ Ψ := same_at pd pd hd (by rw [same_refl d pd]; exact h)
theorem ref_plain (z : Int) : plainD (refD z) = true := rfl
theorem ref_dep (z : Int) : depD (refD z) ≤ 8 := by unfold refD; simp only [depD, depDs]; decide
theorem same_ref {z : Int} {μ : Sto} {Φ : DK} {Ψ : XD → Sto → Prop} (h : Φ (.bl true) μ) : c__law_same 8 [refD z, .tup [.str "refused", .int z]] μ Φ Ψ := same_self (ref_plain z) (ref_dep z) h
theorem big_not {k N : Nat} (k1 : 1 ≤ k) (k4 : k ≤ 4) (h : topN k < N) : ¬ smlC N k := fun ⟨h1, h2⟩ => by
  rcases (show k = 1 ∨ k = 2 ∨ k = 3 ∨ k = 4 by omega) with rfl | rfl | rfl | rfl
  · have : 8 < N := h
    omega
  · have : 8 < N := h
    omega
  · have h : 5 < N := h
    have : (3 : Nat) ^ 6 ≤ 3 ^ N := Nat.pow_le_pow_right (by decide) h
    have e : (3 : Nat) ^ 6 = 729 := rfl
    omega
  · have h : 4 < N := h
    have : (4 : Nat) ^ 5 ≤ 4 ^ N := Nat.pow_le_pow_right (by decide) h
    have e : (4 : Nat) ^ 5 = 1024 := rfl
    omega
theorem top_small {k n : Nat} (k1 : 1 ≤ k) (k4 : k ≤ 4) (h : n ≤ topN k) : n ≤ 8 ∧ k ^ n ≤ 256 := by
  rcases (show k = 1 ∨ k = 2 ∨ k = 3 ∨ k = 4 by omega) with rfl | rfl | rfl | rfl
  · exact ⟨h, by rw [Nat.one_pow]; decide⟩
  · exact ⟨h, Nat.le_trans (Nat.pow_le_pow_right (by decide) h) (by decide)⟩
  · exact ⟨Nat.le_trans h (by decide), Nat.le_trans (Nat.pow_le_pow_right (by decide) h) (by decide)⟩
  · exact ⟨Nat.le_trans h (by decide), Nat.le_trans (Nat.pow_le_pow_right (by decide) h) (by decide)⟩
theorem top_at {k : Nat} (k1 : 1 ≤ k) (k4 : k ≤ 4) : atI [D.int 8, D.int 8, D.int 5, D.int 4] ((k : Int) - 1) = some (.int (topN k : Nat)) ∧ 1 ≤ topN k ∧ topN k ≤ 8 := by
  rcases (show k = 1 ∨ k = 2 ∨ k = 3 ∨ k = 4 by omega) with rfl | rfl | rfl | rfl
  · exact ⟨rfl, by decide, by decide⟩
  · exact ⟨rfl, by decide, by decide⟩
  · exact ⟨rfl, by decide, by decide⟩
  · exact ⟨rfl, by decide, by decide⟩
/-- drawn rows are rows -/
theorem mk_ok {n k : Nat} {r : List Int} (n1 : 1 ≤ n) (k1 : 1 ≤ k) (k4 : k ≤ 4) (hs : n ≤ 8 ∧ k ^ n ≤ 256) (h : NumOk (k ^ n) n r) : ChOk ⟨n, k, r⟩ := ⟨n1, hs.1, k1, k4, hs.2, h.1, h.2⟩
def zeroC (n k : Nat) : Ch := ⟨n, k, List.replicate (k ^ n) 0⟩
theorem zero_ok {n k : Nat} (n1 : 1 ≤ n) (k1 : 1 ≤ k) (k4 : k ≤ 4) (hs : n ≤ 8 ∧ k ^ n ≤ 256) : ChOk (zeroC n k) := ⟨n1, hs.1, k1, k4, hs.2, List.length_replicate, fun x hx => by
  rw [List.eq_of_mem_replicate hx]; exact ⟨Int.le_refl _, by show (0 : Int) < ((n : Nat) : Int); omega⟩⟩
theorem plainDs_ints : ∀ l : List Int, plainDs (l.map .int) = true
  | [] => rfl
  | a :: l => by simp only [List.map_cons, plainDs, plainD, plainDs_ints l, Bool.and_self]
theorem depDs_ints : ∀ l : List Int, depDs (l.map .int) ≤ 1
  | [] => by simp [depDs]
  | a :: l => by have := depDs_ints l; simp only [List.map_cons, depDs, depD]; omega
theorem len_le_sum : ∀ {ss : List Nat}, (∀ s ∈ ss, 1 ≤ s) → ss.length ≤ ss.sum
  | [], _ => Nat.le_refl _
  | s :: ss, h => by
    have := len_le_sum (ss := ss) fun x hx => h x (List.mem_cons_of_mem _ hx)
    have := h s List.mem_cons_self
    rw [List.length_cons, List.sum_cons]; omega
theorem le_sum {ss : List Nat} {s : Nat} (h : s ∈ ss) : s ≤ ss.sum := by
  induction ss with
  | nil => simp at h
  | cons a l ih =>
    rw [List.sum_cons]
    rcases List.mem_cons.mp h with rfl | h
    · omega
    · have := ih h; omega
theorem same_ch {c : Ch} {μ : Sto} {Φ : DK} {Ψ : XD → Sto → Prop} (hl : c.row.length ≤ 1000) (h : Φ (.bl true) μ) : c__law_same 8 [chD c, chD c] μ Φ Ψ := by
  refine same_self ?_ ?_ h
  · unfold chD
    simp only [plainD, plainDs, plainDs_ints, List.length_map, List.length_cons, List.length_nil, Bool.true_and, Bool.and_true, Bool.and_eq_true, decide_eq_true_eq]
    omega
  · have := depDs_ints c.row
    unfold chD
    simp only [depD, depDs]
    omega
def c__law_limit : Con := fun ds μ Φ _ => ∃ (p : Addr) (ns : List Int) (c : List D) (k : Nat), ds = [.hd (.ref p), .int k] ∧ μ p = some (.lst c) ∧ StC ns c ∧ 1 ≤ k ∧ k ≤ 4 ∧ ∀ (L : Nat) c', 3 ≤ L → L ≤ topN k → StC ns c' → Φ (.int L) (sset μ p (.lst c'))
theorem len__law_limit {ds μ Φ Ψ} (h : c__law_limit ds μ Φ Ψ) : ds.length = 2 := by obtain ⟨_, _, _, _, rfl, _⟩ := h; rfl
theorem ok__law_limit {cx : CXT} (T : Txt P w K mg) : FnOk P w K mg base cx 2 T.f__law_limit T.d__law_limit ["_law_state", "_law_k"] (spOf K c__law_limit) := by
  refine def_okC T.F__law_limit sc__law_limit _ (fun ds μ Φ Ψ h => len__law_limit h) (fun cdv A outer s H E B hW hr =>
    ⟨_, (pss_cons (ps_if (pt_cmpR op_eq (pe_call (ok__law_pick T) hr rfl T.g__law_pick T.F__law_pick.kp T.b__law_pick .nil passN (pa_cons (pv 0) (pa_cons pe_int pa_nil))) pe_int (nomark _)) (pss_one (ps_ret (pe_ix ix_list (pe_lst (pa_cons pe_int (pa_cons pe_int (pa_cons pe_int (pa_cons pe_int pa_nil))))) (pe_op op_sub (pv 1) pe_int) (fun _ _ => rfl)))) pss_nil)
      (pss_one (ps_ret (pe_ix ix_list (pe_lst (pa_cons pe_int (pa_cons pe_int (pa_cons pe_int (pa_cons pe_int pa_nil))))) (pe_op op_sub (pv 1) pe_int) (fun _ _ => rfl))))),
      (sSeq (sIfS (sTest (sOp roEq (sCall (sCons sVar (sCons sInt sNil))) sInt)) (sRet (sOp roIxL (sLst (sCons sInt (sCons sInt (sCons sInt (sCons sInt sNil))))) (sOp roInt0 sVar sInt))) sNext)
      (sRet (sOp roIxL (sLst (sCons sInt (sCons sInt (sCons sInt (sCons sInt sNil))))) (sOp roInt0 sVar sInt))))⟩) (fun ds μ Φ Ψ h => ?hv)
  case hv =>
    obtain ⟨p, ns, c, k, rfl, hst, sc, k1, k4, h⟩ := h
    have hidx : ∃ L : Nat, atI [D.int 8, D.int 6, D.int 4, D.int 3] ((k : Int) - 1) = some (.int L) ∧ 3 ≤ L ∧ L ≤ topN k := by
      rcases (show k = 1 ∨ k = 2 ∨ k = 3 ∨ k = 4 by omega) with rfl | rfl | rfl | rfl
      · exact ⟨8, rfl, by decide, by decide⟩
      · exact ⟨6, rfl, by decide, by decide⟩
      · exact ⟨4, rfl, by decide, by decide⟩
      · exact ⟨3, rfl, by decide, by decide⟩
    have t3 : 3 ≤ topN k := by rcases (show k = 1 ∨ k = 2 ∨ k = 3 ∨ k = 4 by omega) with rfl | rfl | rfl | rfl <;> decide
    obtain ⟨L0, e0, l1, lt⟩ := hidx
    obtain ⟨e1, t1, t8⟩ := top_at k1 k4
    refine seq_cut fun M hM => ?_
    walk_at "wp"
    refine ⟨p, ns, c, 12, rfl, hst, sc, by decide, by decide, fun y c1 y0 y1 sc1 => ?_⟩
    walk_at "wp"
    refine ⟨fun _ => ⟨by decide, _, e1, ret_same (h _ c1 t3 (Nat.le_refl _) sc1)⟩, fun _ => ?_⟩
    rw [hM]; clear hM M
    walk_at "wps"
    exact ⟨by decide, _, e0, ret_same (h _ c1 l1 lt sc1)⟩
structure NestOk (k : Nat) (as bs : List Nat) : Prop where
  l1 : 1 ≤ as.length
  a1 : ∀ a ∈ as, 1 ≤ a
  ln : bs.length = as.sum
  b1 : ∀ b ∈ bs, 1 ≤ b
  top : bs.sum ≤ topN k
/-- lists behind one another: each has as many items as the one before adds up to -/
inductive Nest (m : Nat) : List (List Nat) → Nat → Prop
  | nil : Nest m [] m
  | snoc {ls : List (List Nat)} {mm : Nat} {l : List Nat} : Nest m ls mm → (∀ a ∈ l, 1 ≤ a) → l.length = mm → Nest m (ls ++ [l]) l.sum
theorem Nest.inv {m : Nat} {ls : List (List Nat)} {mm : Nat} (h : Nest m ls mm) : (ls = [] ∧ mm = m) ∨ ∃ ls' l mm', ls = ls' ++ [l] ∧ mm = l.sum ∧ Nest m ls' mm' ∧ (∀ a ∈ l, 1 ≤ a) ∧ l.length = mm' := by
  cases h with
  | nil => exact .inl ⟨rfl, rfl⟩
  | snoc h1 h2 h3 => exact .inr ⟨_, _, _, rfl, rfl, h1, h2, h3⟩
theorem Nest.two {m : Nat} {ls : List (List Nat)} {mm : Nat} (h : Nest m ls mm) (hl : ls.length = 2) : ∃ as bs, ls = [as, bs] ∧ mm = bs.sum ∧ as.length = m ∧ (∀ a ∈ as, 1 ≤ a) ∧ bs.length = as.sum ∧ ∀ b ∈ bs, 1 ≤ b := by
  rcases h.inv with ⟨rfl, -⟩ | ⟨l1, bs, m1, rfl, e1, h1, b1, bl⟩
  · cases hl
  rcases h1.inv with ⟨rfl, -⟩ | ⟨l2, as, m2, rfl, e2, h2, a1, al⟩
  · simp at hl
  rcases h2.inv with ⟨rfl, e3⟩ | ⟨l3, cs, m3, rfl, _⟩
  · exact ⟨as, bs, rfl, e1, by rw [al, e3], a1, by rw [bl, e2], b1⟩
  · simp at hl
theorem sub_swap {μ μ' : Sto} {p : Addr} {x y : Cell} (h : DW.Sub (sset μ p x) μ') : DW.Sub (sset μ p y) (sset μ' p y) := fun a c e => by
  by_cases z : a = p
  · subst z; rw [sset_same] at e ⊢; exact e
  · rw [sset_ne z] at e ⊢
    exact h a c (by rw [sset_ne z]; exact e)
abbrev tupN (l : List Nat) : D := .tup (natL l)
def c__law_nested : Con := fun ds μ Φ _ => ∃ (p : Addr) (ns : List Int) (c : List D) (k : Nat), ds = [.hd (.ref p), .int k] ∧ μ p = some (.lst c) ∧ StC ns c ∧ 1 ≤ k ∧ k ≤ 4 ∧ ∀ as bs c', NestOk k as bs → StC ns c' → Φ (.lst [.tup (natL as), .tup (natL bs)]) (sset μ p (.lst c'))
theorem len__law_nested {ds μ Φ Ψ} (h : c__law_nested ds μ Φ Ψ) : ds.length = 2 := by obtain ⟨_, _, _, _, rfl, _⟩ := h; rfl
theorem ok__law_nested {cx : CXT} (T : Txt P w K mg) : FnOk P w K mg base cx 3 T.f__law_nested T.d__law_nested ["_law_state", "_law_k"] (spOf K c__law_nested) := by
  refine def_okC T.F__law_nested sc__law_nested _ (fun ds μ Φ Ψ h => len__law_nested h) (fun cdv A outer s H E B hW hr =>
    ⟨_, (pss_cons (ps_set (i := 2) sc__law_nested.nd rfl (Or.inl rfl) (pe_call (ok__law_limit T) hr rfl T.g__law_limit T.F__law_limit.kp T.b__law_limit .nil passN (pa_cons (pv 0) (pa_cons (pv 1) pa_nil))))
      (pss_cons (ps_set (i := 3) sc__law_nested.nd rfl (Or.inl rfl) (pe_op op_add pe_int (pe_call (ok__law_pick T) (hr.mono (by decide)) rfl T.g__law_pick T.F__law_pick.kp T.b__law_pick .nil passN (pa_cons (pv 0) (pa_cons (pe_callB (call_min2 rfl) (by rfl) T.z_min (by decide +kernel) (pa_cons pe_int (pa_cons (pv 2) pa_nil))) pa_nil)))))
      (pss_cons (ps_set (i := 2) sc__law_nested.nd rfl (Or.inl rfl) (pe_op op_sub (pv 2) (pv 3)))
      (pss_cons (ps_set (i := 4) sc__law_nested.nd rfl (Or.inl rfl) (pe_lst pa_nil))
      (pss_cons (ps_for (passes_of rfl) rfl (pi_range1 rfl T.z_range (pa_cons pe_int pa_nil)) (pg_name (i := 5) sc__law_nested.nd rfl (Or.inl rfl)) (pss_cons (ps_set (i := 6) sc__law_nested.nd rfl (Or.inl rfl) (pe_lst pa_nil))
      (pss_cons (ps_for (passes_of rfl) rfl (pi_range1 rfl T.z_range (pa_cons (pv 3) pa_nil)) (pg_name (i := 7) sc__law_nested.nd rfl (Or.inl rfl)) (pss_cons (ps_set (i := 8) sc__law_nested.nd rfl (Or.inl rfl) (pe_call (ok__law_pick T) (hr.mono (by decide)) rfl T.g__law_pick T.F__law_pick.kp T.b__law_pick .nil passN (pa_cons (pv 0) (pa_cons (pe_op op_add (pe_callB (call_min2 rfl) (by rfl) T.z_min (by decide +kernel) (pa_cons (pv 2) (pa_cons pe_int pa_nil))) pe_int) pa_nil))))
      (pss_cons (ps_set (i := 2) sc__law_nested.nd rfl (Or.inl rfl) (pe_op op_sub (pv 2) (pv 8)))
      (pss_one (ps_expr (pe_bm PySem.F.plainAttrs_list PySem.F.slot_list_append PySem.F.type_list_append mt_append (pv 6) (pa_cons (pe_op op_add pe_int (pv 8)) pa_nil)))))))
      (pss_cons (ps_expr (pe_bm PySem.F.plainAttrs_list PySem.F.slot_list_append PySem.F.type_list_append mt_append (pv 4) (pa_cons (pe_callTy call_tupleN (by rfl) T.z_tuple (by decide +kernel) (pa_cons (pv 6) pa_nil)) pa_nil)))
      (pss_one (ps_set (i := 3) sc__law_nested.nd rfl (Or.inl rfl) (pe_callB (cr_sum rfl) (by rfl) T.z_sum (by decide +kernel) (pa_cons (pv 6) pa_nil))))))))
      (pss_one (ps_ret (pv 4)))))))),
      (sSeq (sAsg (sCall (sCons sVar (sCons sVar sNil))) sName)
      (sSeq (sAsg (sOp roInt0 sInt (sCall (sCons sVar (sCons (sCB rcMin2 (sCons sInt (sCons sVar sNil))) sNil)))) sName)
      (sSeq (sAsg (sOp roInt0 sVar sVar) sName)
      (sSeq (sAsg (sOwn sNil) sName)
      (sSeq (sFor (siR1 sInt) (fun _ _ _ => sName) (fun _ _ _ => (sSeq (sAsg (sOwn sNil) sName)
      (sSeq (sFor (siR1 sVar) (fun _ _ _ => sName) (fun _ _ _ => (sSeq (sAsg (sCall (sCons sVar (sCons (sOp roInt0 (sCB rcMin2 (sCons sVar (sCons sInt sNil))) sInt) sNil))) sName)
      (sSeq (sAsg (sOp roInt0 sVar sVar) sName)
      (sDrop (sApp sVar (sOp roInt0 sInt sVar)))))))
      (sSeq (sDrop (sApp sVar (sCB rcTuple (sCons sVar sNil))))
      (sAsg (sCB rcSum (sCons sRest sNil)) sName))))))
      (sRet sRest))))))⟩) (fun ds μ Φ Ψ h => ?hv)
  case hv =>
    obtain ⟨p, ns, c, k, rfl, hst, sc, k1, k4, h⟩ := h
    obtain ⟨-, t1, t8⟩ := top_at k1 k4
    refine seq_cut fun M hM => ?_
    walk_at "wp"
    refine ⟨p, ns, c, k, rfl, hst, sc, k1, k4, fun L c1 L3 Lt sc => ?_⟩
    rw [hM]; clear hM M
    refine seq_cut fun M hM => ?_
    walk_at "wp"
    have em : (if (L : Int) < 3 then (L : Int) else 3) = ((min 3 L : Nat) : Int) := by split <;> omega
    rw [em]
    refine ⟨p, ns, c1, (min 3 L : Nat), rfl, sset_same, sc, by omega, log_small (by omega), fun y c2 y0 y1 sc => ?_⟩
    rw [sset_sset]
    obtain ⟨m, hm, hm1⟩ : ∃ m : Nat, (1 : Int) + y = (m : Int) ∧ 1 ≤ m := ⟨(1 + y).toNat, by omega, by omega⟩
    have hmL : m ≤ L ∧ m ≤ 3 := by omega
    walk_at "wp"
    rw [hm]
    rw [hM]; clear hM M
    refine seq_cut fun M hM => ?_
    walk_at "wp"
    rw [hM]; clear hM M
    refine seq_cut fun M hM => ?_
    walk_at "wp"
    refine ⟨by decide, fun q hq => ?_⟩
    have nqp : q ≠ p := fun z => by rw [z, sset_same] at hq; cases hq
    have hqn : μ q = none := by rw [sset_ne nqp] at hq; exact hq
    rw [hM]; clear hM M
    refine seq_cut fun M hM => ?_
    walk_at "wp"
    refine ⟨by decide, by decide, fun i δ' μ' => ∃ (ls : List (List Nat)) (c' : List D) (L' mm : Nat) (x5 x6 x7 x8 : Option D), δ' = [some (.hd (.ref p)), some (.int k), some (.int L'), some (.int mm), some (.hd (.ref q)), x5, x6, x7, x8] ∧ μ' p = some (.lst c') ∧ μ' q = some (.lst (ls.map tupN)) ∧ DW.Sub (sset μ p (.lst c')) μ' ∧ ls.length = i ∧ Nest m ls mm ∧ mm + L' = L ∧ StC ns c', ⟨[], c2, L - m, m, none, none, none, none, by rw [Int.ofNat_sub hmL.1], by rw [sset_ne (Ne.symm nqp), sset_same], sset_same, Sub.set Sub.refl (by rw [sset_ne nqp]; exact hqn), rfl, .nil, by omega, sc⟩, ?_, ?_⟩
    · rintro i d δ' μ' hi ⟨ls, c3, L1, m1, x5, x6, x7, x8, rfl, hp1, hq1, hs1, hll, hN, hml, sc⟩
      obtain ⟨hi', rfl⟩ := rngD_get hi
      refine seq_cut fun M2 hM2 => ?_
      walk_at "wp"
      refine ⟨by decide, fun r hr => ?_⟩
      have nrp : r ≠ p := fun z => by rw [z, hp1] at hr; cases hr
      have nrq : r ≠ q := fun z => by rw [z, hq1] at hr; cases hr
      have hrn : ∀ c : List D, sset μ p (.lst c) r = none := fun c => by
        have := hs1.none hr
        rw [sset_ne nrp] at this ⊢; exact this
      rw [hM2]; clear hM2 M2
      refine seq_cut fun M2 hM2 => ?_
      walk_at "wp"
      have m18 : m1 ≤ 8 := by omega
      refine ⟨by omega, by omega, fun j δ' μ' => ∃ (l : List Nat) (c' : List D) (L' : Nat) (x7 x8 : Option D), δ' = [some (.hd (.ref p)), some (.int k), some (.int L'), some (.int m1), some (.hd (.ref q)), some (.int i), some (.hd (.ref r)), x7, x8] ∧ μ' p = some (.lst c') ∧ μ' q = some (.lst (ls.map tupN)) ∧ μ' r = some (.lst (natL l)) ∧ DW.Sub (sset μ p (.lst c')) μ' ∧ l.length = j ∧ j ≤ m1 ∧ (∀ a ∈ l, 1 ≤ a) ∧ l.sum + (m1 - j) + L' = L ∧ StC ns c', ⟨[], c3, L1, _, _, rfl, by rw [sset_ne (Ne.symm nrp)]; exact hp1, by rw [sset_ne (Ne.symm nrq)]; exact hq1, sset_same, Sub.set hs1 (hrn c3), rfl, Nat.zero_le _, nofun, by simp; omega, sc⟩, ?_, ?_⟩
      · rintro j d δ' μ' hj ⟨l, c4, L2, x7, x8, rfl, hp2, hq2, hr2, hs2, hlj, _, hl1, hls, sc⟩
        obtain ⟨hj', rfl⟩ := rngD_get hj
        walk_at "wps"
        obtain ⟨t, ht, htL⟩ : ∃ t : Nat, (if (2 : Int) < (L2 : Int) then (2 : Int) else (L2 : Int)) + 1 = ((t + 1 : Nat) : Int) ∧ t ≤ L2 ∧ t ≤ 2 := ⟨min 2 L2, by split <;> omega, by omega, by omega⟩
        rw [ht]
        refine ⟨p, ns, c4, (t + 1 : Nat), rfl, hp2, sc, by omega, log_small (by omega), fun y c5 y0 y1 sc => ?_⟩
        obtain ⟨z, rfl⟩ : ∃ z : Nat, y = (z : Int) := ⟨y.toNat, by omega⟩
        have hz : z ≤ L2 := by omega
        walk_at "wps"
        refine ⟨natL l, by rw [sset_ne nrp]; exact hr2, natL l, by rw [sset_ne nrp]; exact hr2, by rw [nl_len]; omega, l ++ [1 + z], c5, L2 - z, _, _, by rw [Int.ofNat_sub hz], by rw [sset_ne (Ne.symm nrp), sset_same], by rw [sset_ne (Ne.symm nrq), sset_ne nqp]; exact hq2, by unfold natL; rw [List.map_append, List.map_singleton, Int.natCast_add]; rfl, Sub.set (sub_swap hs2) (hrn c5), by rw [List.length_append, hlj]; rfl, hj', fun a ha => ?_, by rw [List.sum_append, List.sum_singleton]; omega, sc⟩
        rcases List.mem_append.mp ha with ha | ha
        · exact hl1 a ha
        · rw [List.mem_singleton.mp ha]; omega
      · rintro δ' μ' ⟨l, c4, L2, x7, x8, rfl, hp2, hq2, hr2, hs2, hlj, _, hl1, hls, sc⟩
        rw [hM2]; clear hM2 M2
        walk_at "wps"
        refine ⟨_, hq2, .inl ⟨_, hr2, _, hq2, by rw [List.length_map]; omega, natL l, by rw [sset_ne nrq]; exact hr2, ?_⟩⟩
        rw [natL_int l]
        refine w_sumL ?_
        rw [nat_sum, ← natL_int]
        have hqp : ∀ c : List D, sset μ p (.lst c) q = none := fun c => by rw [sset_ne nqp]; exact hqn
        exact ⟨ls ++ [l], c4, L2, l.sum, _, _, _, _, rfl, by rw [sset_ne (Ne.symm nrp), sset_ne (Ne.symm nqp)]; exact hp2, by rw [sset_ne (Ne.symm nrq), sset_same, List.map_append]; rfl, Sub.set (Sub.set hs2 (hqp c4)) (hrn c4), by rw [List.length_append, hll]; rfl, .snoc hN hl1 hlj, by omega, sc⟩
    · rintro δ' μ' ⟨ls, c3, L1, m1, x5, x6, x7, x8, rfl, hp1, hq1, hs1, hll, hN, hml, sc⟩
      rw [hM]; clear hM M
      walk_at "wps"
      obtain ⟨as, bs, rfl, e1, e2, e3, e4, e5⟩ := hN.two hll
      exact ⟨_, hq1, _, Sub.set hs1 (by rw [sset_ne nqp]; exact hqn), h as bs c3 ⟨by omega, e3, e4, e5, by omega⟩ sc⟩
def c__law_put_row : Con := fun ds μ Φ _ => ∃ (f : Ch) (gs : List Ch), ds = [rowD f, .lst (gs.map rowD), .tup (natL (gs.map (·.n))), .int f.k] ∧ Beh f gs ∧ smlC (sumN gs) f.k ∧ Φ (rowD (behC f gs)) μ
theorem len__law_put_row {ds μ Φ Ψ} (h : c__law_put_row ds μ Φ Ψ) : ds.length = 4 := by obtain ⟨_, _, rfl, _⟩ := h; rfl
theorem ok__law_put_row {cx : CXT} (T : Txt P w K mg) : FnOk P w K mg base cx 4 T.f__law_put_row T.d__law_put_row ["_law_row_here", "_law_rows", "_law_sizes", "_law_k"] (spOf K c__law_put_row) := by
  refine def_okC T.F__law_put_row sc__law_put_row _ (fun ds μ Φ Ψ h => len__law_put_row h) (fun cdv A outer s H E B hW hr =>
    ⟨_, (pss_cons (ps_set (i := 4) sc__law_put_row.nd rfl (Or.inr rfl) (pe_callB (cr_sumT rfl) (by rfl) T.z_sum (by decide +kernel) (pa_cons (pv 2) pa_nil)))
      (pss_one (ps_ret (pe_callTy call_tupleN (by rfl) T.z_tuple (by decide +kernel) (pa_cons (pe_lc (own := [("_law_p", 5)]) rfl sc__law_put_row.nd (pi_range1 rfl T.z_range (pa_cons (pe_call (ok__law_contexts T) (hr.mono (by decide)) rfl T.g__law_contexts T.F__law_contexts.kp T.b__law_contexts .nil passN (pa_cons (pv 4) (pa_cons (pv 3) pa_nil))) pa_nil)) (blkOk_by (N := N__law_put_row) (sc := defScope s__law_put_row) (by decide +kernel)) (fun _ _ _ _ _ => (pg_name (i := 5) sc__law_put_row.nd rfl (Or.inl rfl))) (fun _ _ _ _ _ => pts_nil) (fun _ _ _ _ _ => (pe_call (ok__law_put T) hr rfl T.g__law_put T.F__law_put.kp T.b__law_put .nil passN (pa_cons (pv 0) (pa_cons (pv 1) (pa_cons (pv 2) (pa_cons (pv 3) (pa_cons (pe_call (ok__law_context T) (hr.mono (by decide)) rfl T.g__law_context T.F__law_context.kp T.b__law_context .nil passN (pa_cons (pv 5) (pa_cons (pv 4) (pa_cons (pv 3) pa_nil)))) pa_nil)))))))) pa_nil))))),
      (sSeq (sAsg (sCB rcSumT (sCons sVar sNil)) sName)
      (sRet (sCB rcTuple (sCons (sLc (siR1 (sCall (sCons sVar (sCons sVar sNil)))) (gwName List.mem_cons_self) (fun _ _ _ => sName) (fun _ _ _ => sYes) (fun _ _ _ => (sCall (sCons sVar (sCons sVar (sCons sVar (sCons sVar (sCons (sCall (sCons sVar (sCons sVar (sCons sVar sNil)))) sNil)))))))) sNil))))⟩) (fun ds μ Φ Ψ h => ?hv)
  case hv =>
    obtain ⟨f, gs, rfl, hb, hs, h⟩ := h
    have k1 := hb.fo.k1
    have k4 := hb.fo.k4
    refine seq_cut fun M hM => ?_
    walk_at "wp"
    rw [natL_int]
    refine w_sumT ?_
    rw [nat_sum, ← natL_int]
    rw [show ((gs.map (·.n)).sum) = sumN gs from rfl]
    obtain ⟨N, hN⟩ : ∃ N, N = sumN gs := ⟨_, rfl⟩
    rw [← hN] at hs ⊢
    have s1 := hs.1
    have s2 := hs.2
    rw [hM]; clear hM M
    walk_at "wps"
    refine ⟨N, f.k, rfl, by omega, k4, k1, ?_⟩
    walk_at "wp"
    refine ⟨by omega, by omega, lcR (m := f.k ^ N) (fun i => .int ((behT f gs (digs f.k N i) : Nat) : Int)) (by omega) (fun i μ2 X hi hsub hx => ?_) ?_⟩
    · walk_at "wp"
      obtain ⟨d1, d2⟩ := digs_ok k1 N i
      exact ⟨i, N, f.k, rfl, k1, k4, s1, f, gs, digs f.k N i, rfl, hb, by rw [d1, hN], d2, by omega, hx⟩
    refine ⟨_, .lst _, ret_same ?_⟩
    have e : rowD (behC f gs) = .tup ((List.range (f.k ^ N)).map fun i => D.int ((behT f gs (digs f.k N i) : Nat) : Int)) := by
      unfold rowD behC
      simp only
      rw [← hN, ctxs_eq k1, List.map_map, List.map_map]
      rfl
    rw [← e]
    exact h
theorem pk_prod {f g : Ch} {y : List Int} (hf : ChOk f) (hg : ChOk g) (hk : f.k = g.k) (hs : smlC (f.n * g.n) f.k) (hl : y.length = f.n * g.n) (hr : ∀ r ∈ y, 0 ≤ r ∧ r < (f.k : Int)) : pk (prodC f g) y = mulF f.n g.n (pk f) (pk g) (gt y) := by
  have hp := prod_ok hf hg hk hs
  have hix := ctxIx_ok (CtxO.ctx (c := prodC f g) ⟨hl, hr⟩ hp)
  have hix2 : (ctxIx f.k y).toNat < f.k ^ (f.n * g.n) := hix.2
  rw [← (beh_mul hf hg hk hl hr).1]
  unfold pk prodC
  simp only
  rw [List.getD_eq_getElem?_getD, ctxs_eq hf.k1, List.map_map, List.getElem?_map, List.getElem?_range hix2]
  show ((behT f (List.replicate f.n g) (digs f.k (f.n * g.n) (ctxIx f.k y).toNat) : Nat) : Int).toNat = _
  rw [digs_ix hf.k1 _ y hl hr, Int.toNat_natCast]
theorem mulF_cf {n m : Nat} {f f' g : List Int → Nat} {X : Nat → Int} (h : ∀ Y : Nat → Int, (∀ i, i < n → ∃ q, Y i = X q) → f ((List.range n).map Y) = f' ((List.range n).map Y)) : mulF n m f g X = mulF n m f' g X := by
  unfold mulF mulG
  rw [h _ fun i _ => ⟨_, rfl⟩]
theorem mulF_cg {n m : Nat} {f g g' : List Int → Nat} {X : Nat → Int} (h : ∀ Y : Nat → Int, (∀ i, i < m → ∃ q, Y i = X q) → g ((List.range m).map Y) = g' ((List.range m).map Y)) : mulF n m f g X = mulF n m f g' X := by
  have e : (fun i => g ((List.range m).map fun j => X (i * m + j))) = fun i => g' ((List.range m).map fun j => X (i * m + j)) := funext fun i => h _ fun j _ => ⟨_, rfl⟩
  unfold mulF
  rw [e]
theorem rng_in {m k : Nat} {Y : Nat → Int} {x : List Int} (k1 : 1 ≤ k) (hr : ∀ r ∈ x, 0 ≤ r ∧ r < (k : Int)) (h : ∀ i, i < m → ∃ q, Y i = gt x q) : ∀ r ∈ (List.range m).map Y, 0 ≤ r ∧ r < (k : Int) := fun r hm => by
  obtain ⟨i, hi, rfl⟩ := List.mem_map.mp hm
  obtain ⟨q, e⟩ := h i (List.mem_range.mp hi)
  rw [e]; exact gt_in k1 hr
theorem prod_assoc {p0 p1 p2 : Ch} (h0 : ChOk p0) (h1 : ChOk p1) (h2 : ChOk p2) (k01 : p0.k = p1.k) (k02 : p0.k = p2.k) (s01 : smlC (p0.n * p1.n) p0.k) (s12 : smlC (p1.n * p2.n) p1.k) (s : smlC (p0.n * (p1.n * p2.n)) p0.k) : prodC (prodC p0 p1) p2 = prodC p0 (prodC p1 p2) := by
  have ok01 := prod_ok h0 h1 k01 s01
  have ok12 := prod_ok h1 h2 (k01.symm.trans k02) s12
  have en : p0.n * p1.n * p2.n = p0.n * (p1.n * p2.n) := Nat.mul_assoc ..
  have key : ∀ x ∈ ctxs (p0.n * (p1.n * p2.n)) p0.k, behT (prodC p0 p1) (List.replicate (p0.n * p1.n) p2) x = behT p0 (List.replicate p0.n (prodC p1 p2)) x := fun x hx => by
    have hN1 : 1 ≤ p0.n * (p1.n * p2.n) := Nat.mul_pos h0.n1 (Nat.mul_pos h1.n1 h2.n1)
    have hok := ctxs_ok hN1 (by have := s.1; omega) h0.k1 h0.k4 hx
    have hr : ∀ r ∈ x, 0 ≤ r ∧ r < (p0.k : Int) := fun r hr => ⟨hok.lo r hr, hok.hi r hr⟩
    have a := (beh_mul (f := prodC p0 p1) (g := p2) (x := x) ok01 h2 k02 (by rw [hok.len]; exact en.symm) hr).1
    have b := (beh_mul (f := p0) (g := prodC p1 p2) (x := x) h0 ok12 k01 (by rw [hok.len]; rfl) hr).1
    refine Eq.trans a (Eq.trans ?_ b.symm)
    show mulF (p0.n * p1.n) p2.n (pk (prodC p0 p1)) (pk p2) (gt x) = mulF p0.n (p1.n * p2.n) (pk p0) (pk (prodC p1 p2)) (gt x)
    rw [mulF_cf (f' := fun y => mulF p0.n p1.n (pk p0) (pk p1) (gt y)) fun Y hY => pk_prod h0 h1 k01 s01 (by simp) (rng_in h0.k1 hr hY),
      mulF_cg (g' := fun y => mulF p1.n p2.n (pk p1) (pk p2) (gt y)) fun Y hY => pk_prod h1 h2 (k01.symm.trans k02) s12 (by simp) (by rw [← k01]; exact rng_in h0.k1 hr hY)]
    exact mul_assocF (fun Y hY => (pk_at h0 ⟨by simp, rng_in h0.k1 hr hY⟩).2) (fun Y hY => (pk_at h1 ⟨by simp, by rw [← k01]; exact rng_in h0.k1 hr hY⟩).2) (fun Y hY => (pk_at h2 ⟨by simp, by rw [← k02]; exact rng_in h0.k1 hr hY⟩).2)
  unfold prodC at key ⊢
  simp only at key ⊢
  rw [Ch.mk.injEq]
  refine ⟨en, rfl, ?_⟩
  rw [en]
  exact List.map_congr_left fun x hx => by rw [key x hx]
theorem gt_self {x : List Int} {n : Nat} (h : x.length = n) : ((List.range n).map fun j => gt x j) = x := by
  subst h
  apply List.ext_getElem
  · simp
  · intro i h1 h2
    simp [gt, List.getD_eq_getElem?_getD, List.getElem?_eq_getElem h2]
theorem unit_left {c : Ch} (hc : ChOk c) : prodC (unitC c.k) c = c := by
  have hu := unit_ok hc.k1 hc.k4
  have key : ∀ x ∈ ctxs c.n c.k, ((behT (unitC c.k) (List.replicate 1 c) x : Nat) : Int) = ((pk c x : Nat) : Int) := fun x hx => by
    have hok := ctxs_ok hc.n1 (by have := hc.n8; omega) hc.k1 hc.k4 hx
    have hr : ∀ r ∈ x, 0 ≤ r ∧ r < (c.k : Int) := fun r hr => ⟨hok.lo r hr, hok.hi r hr⟩
    have a := (beh_mul (f := unitC c.k) (g := c) (x := x) hu hc rfl (by rw [hok.len]; show c.n = 1 * c.n; omega) hr).1
    rw [show behT (unitC c.k) (List.replicate 1 c) x = behT (unitC c.k) (List.replicate (unitC c.k).n c) x from rfl, a]
    show ((mulF 1 c.n (pk (unitC c.k)) (pk c) (gt x) : Nat) : Int) = _
    have hz : ∀ Y : Nat → Int, (∀ i, i < 1 → ∃ q, Y i = gt x q) → pk (unitC c.k) ((List.range 1).map Y) = 0 := fun Y hY => by
      have := (pk_at (c := unitC c.k) (x := (List.range 1).map Y) hu ⟨by simp [unitC], rng_in hc.k1 hr hY⟩).2
      have : pk (unitC c.k) ((List.range 1).map Y) < 1 := this
      omega
    unfold mulF mulG
    rw [hz _ fun i _ => ⟨_, rfl⟩]
    simp only [Nat.zero_mul, Nat.zero_add]
    rw [gt_self hok.len]
  have : prodC (unitC c.k) c = ⟨c.n, c.k, c.row⟩ := by
    unfold prodC
    show Ch.mk (1 * c.n) c.k ((ctxs (1 * c.n) c.k).map fun x => ((behT (unitC c.k) (List.replicate 1 c) x : Nat) : Int)) = _
    rw [Nat.one_mul, Ch.mk.injEq]
    refine ⟨rfl, rfl, ?_⟩
    rw [List.map_congr_left key, row_ctxs hc]
  rw [this]
theorem unit_right {c : Ch} (hc : ChOk c) : prodC c (unitC c.k) = c := by
  have hu := unit_ok hc.k1 hc.k4
  have key : ∀ x ∈ ctxs c.n c.k, ((behT c (List.replicate c.n (unitC c.k)) x : Nat) : Int) = ((pk c x : Nat) : Int) := fun x hx => by
    have hok := ctxs_ok hc.n1 (by have := hc.n8; omega) hc.k1 hc.k4 hx
    have hr : ∀ r ∈ x, 0 ≤ r ∧ r < (c.k : Int) := fun r hr => ⟨hok.lo r hr, hok.hi r hr⟩
    rw [(beh_mul (f := c) (g := unitC c.k) (x := x) hc hu rfl (by rw [hok.len]; show c.n = c.n * 1; omega) hr).1]
    show ((mulF c.n 1 (pk c) (pk (unitC c.k)) (gt x) : Nat) : Int) = _
    have hz : (fun i => pk (unitC c.k) ((List.range 1).map fun j => gt x (i * 1 + j))) = fun _ => 0 := funext fun i => by
      have := (pk_at (c := unitC c.k) (x := (List.range 1).map fun j => gt x (i * 1 + j)) hu ⟨by simp [unitC], rng_in hc.k1 hr fun j _ => ⟨_, rfl⟩⟩).2
      have : pk (unitC c.k) ((List.range 1).map fun j => gt x (i * 1 + j)) < 1 := this
      omega
    unfold mulF mulG
    rw [hz]
    simp only [Nat.mul_one, Nat.add_zero]
    rw [gt_self hok.len]
  have : prodC c (unitC c.k) = ⟨c.n, c.k, c.row⟩ := by
    unfold prodC
    show Ch.mk (c.n * 1) c.k ((ctxs (c.n * 1) c.k).map fun x => ((behT c (List.replicate c.n (unitC c.k)) x : Nat) : Int)) = _
    rw [Nat.mul_one, Ch.mk.injEq]
    refine ⟨rfl, rfl, ?_⟩
    rw [List.map_congr_left key, row_ctxs hc]
  rw [this]
def c__law_fits (C : Addr) : Con := fun ds μ Φ _ => ∃ (c : Ch), ds = [chO C c, .int c.n, .int c.k, rowD c] ∧ c.row.length ≤ 1000 ∧ Φ (.bl true) μ
theorem len__law_fits {C ds μ Φ Ψ} (h : c__law_fits C ds μ Φ Ψ) : ds.length = 4 := by obtain ⟨_, rfl, _⟩ := h; rfl
theorem ok__law_fits (T : Txt P w K mg) : FnOk P w K mg base (L2N.CX P w) 9 T.f__law_fits T.d__law_fits ["_law_chooser", "_law_n", "_law_k", "_law_row_here"] (spOf K (c__law_fits T.c_Chooser)) := by
  refine def_okC T.F__law_fits sc__law_fits _ (fun ds μ Φ Ψ h => len__law_fits h) (fun cdv A outer s H E B hW hr =>
    have tk : L2N.Takes (cxOf (L2N.CX P w) P w K mg base N__law_fits "_law_fits" (defScope s__law_fits) T.f__law_fits cdv A outer s H E) (fun cls d _ H => E cls d H) := L2N.takes_of rfl rfl rfl rfl
    ⟨_, (pss_one (ps_ret (pe_call (ok__law_same T) (hr.mono (by decide)) rfl T.g__law_same T.F__law_same.kp T.b__law_same .nil passN (pa_cons (pe_tupN (pa_cons (pe_fld (pv 0) rfl) (pa_cons (pe_fld (pv 0) rfl) (pa_cons (pe_fld (pv 0) rfl) pa_nil)))) (pa_cons (pe_tupN (pa_cons (pv 1) (pa_cons (pv 2) (pa_cons (pv 3) pa_nil)))) pa_nil))))),
      (sRet (sCall (sCons (sTup (sCons (sFldO (NS := NSA) (i := 0) T.cls_Chooser T.na_Chooser_options rfl (by decide) sVar) (sCons (sFldO (NS := NSA) (i := 1) T.cls_Chooser T.na_Chooser_outcomes rfl (by decide) sVar) (sCons (sFldO (NS := NSA) (i := 2) T.cls_Chooser T.na_Chooser_row rfl (by decide) sVar) sNil)))) (sCons (sTup (sCons sVar (sCons sVar (sCons sVar sNil)))) sNil))))⟩) (fun ds μ Φ Ψ h => ?hv)
  case hv =>
    obtain ⟨c, rfl, hl, h⟩ := h
    walk_at "wps"
    refine ⟨_, _, rfl, rfl, _, _, rfl, rfl, _, _, rfl, rfl, by decide, by decide, ?_⟩
    refine same_self ?_ ?_ (ret_same h)
    · simp only [plainD, plainDs, plainDs_ints, List.length_map, List.length_cons, List.length_nil, Bool.true_and, Bool.and_true, Bool.and_eq_true, decide_eq_true_eq]
      omega
    · have := depDs_ints c.row
      simp only [depD, depDs]
      omega
end
section
variable {P : Program} {w : World} {K : Fg} {mg : Str → Option Value} {base : Heap}
/-- what is faced behind, and where an option stands behind -/
def zz : List Ch → List Int → List Int
  | [], _ => []
  | g :: gs, x => (x.take g.n).getD (pk g (x.take g.n)) 0 :: zz gs (x.drop g.n)
def pp : List Ch → List Int → Nat → Nat
  | [], _, _ => 0
  | g :: _, x, 0 => pk g (x.take g.n)
  | g :: gs, x, i + 1 => g.n + pp gs (x.drop g.n) i
theorem sumN_cons (g : Ch) (gs : List Ch) : sumN (g :: gs) = g.n + sumN gs := by unfold sumN; rw [List.map_cons, List.sum_cons]
theorem sumN_app (as bs : List Ch) : sumN (as ++ bs) = sumN as + sumN bs := by unfold sumN; rw [List.map_append, List.sum_append]
theorem zz_eq : ∀ (gs : List Ch) (x : List Int), facS (segs (gs.map (·.n)) x) (ansS gs (segs (gs.map (·.n)) x)) = zz gs x
  | [], _ => rfl
  | g :: gs, x => by
    have ih := zz_eq gs (x.drop g.n)
    show ((x.take g.n).getD (pk g (x.take g.n)) 0) :: facS (segs (gs.map (·.n)) (x.drop g.n)) (ansS gs (segs (gs.map (·.n)) (x.drop g.n))) = _
    rw [ih]; rfl
theorem pp_eq : ∀ (gs : List Ch) (x : List Int) (o : Nat), o < gs.length → ((gs.take o).map (·.n)).sum + (ansS gs (segs (gs.map (·.n)) x)).getD o 0 = pp gs x o
  | [], _, _, h => by simp at h
  | g :: gs, x, 0, _ => by simp [ansS, segs, pp]
  | g :: gs, x, o + 1, h => by
    have ih := pp_eq gs (x.drop g.n) o (by simpa using h)
    show ((g :: gs.take o).map (·.n)).sum + (ansS gs (segs (gs.map (·.n)) (x.drop g.n))).getD o 0 = g.n + pp gs (x.drop g.n) o
    rw [List.map_cons, List.sum_cons, ← ih, Nat.add_assoc]
theorem behT_eq {f : Ch} {gs : List Ch} {x : List Int} (h : pk f (zz gs x) < gs.length) : behT f gs x = pp gs x (pk f (zz gs x)) := by
  unfold behT behS
  simp only
  rw [zz_eq, pp_eq _ _ _ h]
theorem zz_len : ∀ (gs : List Ch) (x : List Int), (zz gs x).length = gs.length
  | [], _ => rfl
  | g :: gs, x => by rw [zz, List.length_cons, List.length_cons, zz_len]
theorem zz_app : ∀ (as bs : List Ch) (x y : List Int), x.length = sumN as → zz (as ++ bs) (x ++ y) = zz as x ++ zz bs y
  | [], bs, x, y, h => by rw [List.eq_nil_of_length_eq_zero h]; rfl
  | a :: as, bs, x, y, h => by
    rw [sumN_cons] at h
    rw [List.cons_append, zz, zz, List.take_append_of_le_length (by omega), List.drop_append_of_le_length (by omega), zz_app as bs _ y (by rw [List.length_drop]; omega), List.cons_append]
theorem pp_app_l : ∀ (as bs : List Ch) (x y : List Int) (i : Nat), x.length = sumN as → i < as.length → pp (as ++ bs) (x ++ y) i = pp as x i
  | [], _, _, _, _, _, h => by simp at h
  | a :: as, bs, x, y, 0, h, _ => by
    rw [sumN_cons] at h
    rw [List.cons_append, pp, pp, List.take_append_of_le_length (by omega)]
  | a :: as, bs, x, y, i + 1, h, hi => by
    rw [sumN_cons] at h
    rw [List.cons_append, pp, pp, List.drop_append_of_le_length (by omega), pp_app_l as bs _ y i (by rw [List.length_drop]; omega) (by simpa using hi)]
theorem pp_app_r : ∀ (as bs : List Ch) (x y : List Int) (i : Nat), x.length = sumN as → pp (as ++ bs) (x ++ y) (as.length + i) = sumN as + pp bs y i
  | [], bs, x, y, i, h => by
    rw [List.eq_nil_of_length_eq_zero h, List.nil_append, List.nil_append, List.length_nil, Nat.zero_add]
    show _ = 0 + _
    rw [Nat.zero_add]
  | a :: as, bs, x, y, i, h => by
    rw [sumN_cons] at h ⊢
    rw [List.cons_append, List.length_cons, show as.length + 1 + i = (as.length + i) + 1 by omega, pp, List.drop_append_of_le_length (by omega), pp_app_r as bs _ y i (by rw [List.length_drop]; omega), Nat.add_assoc]
/-- a row of choosers of k outcomes, and a context of all of them -/
structure Fit (k : Nat) (gs : List Ch) (x : List Int) : Prop where
  ok : ∀ g ∈ gs, ChOk g ∧ g.k = k
  ln : x.length = sumN gs
  en : ∀ r ∈ x, 0 ≤ r ∧ r < (k : Int)
theorem Fit.head {k : Nat} {g : Ch} {gs : List Ch} {x : List Int} (h : Fit k (g :: gs) x) : CtxO g (x.take g.n) ∧ ChOk g ∧ pk g (x.take g.n) < g.n := by
  have hg := h.ok g List.mem_cons_self
  have hl := h.ln
  rw [sumN_cons] at hl
  have hc : CtxO g (x.take g.n) := ⟨by rw [List.length_take]; omega, fun r hr => by rw [hg.2]; exact h.en r (List.mem_of_mem_take hr)⟩
  exact ⟨hc, hg.1, (pk_at hg.1 hc).2⟩
theorem Fit.tail {k : Nat} {g : Ch} {gs : List Ch} {x : List Int} (h : Fit k (g :: gs) x) : Fit k gs (x.drop g.n) := by
  have hl := h.ln
  rw [sumN_cons] at hl
  exact ⟨fun a ha => h.ok a (List.mem_cons_of_mem _ ha), by rw [List.length_drop]; omega, fun r hr => h.en r (List.mem_of_mem_drop hr)⟩
theorem zz_in {k : Nat} : ∀ {gs : List Ch} {x : List Int}, Fit k gs x → ∀ r ∈ zz gs x, 0 ≤ r ∧ r < (k : Int)
  | [], _, _, r, hr => by simp [zz] at hr
  | g :: gs, x, h, r, hr => by
    obtain ⟨h1, h2, h3⟩ := h.head
    rw [zz] at hr
    rcases List.mem_cons.mp hr with rfl | hr
    · have hlt : pk g (x.take g.n) < (x.take g.n).length := by rw [h1.1]; exact h3
      rw [List.getD_eq_getElem?_getD, List.getElem?_eq_getElem hlt, Option.getD_some]
      have := h1.2 _ (List.getElem_mem hlt)
      rw [(h.ok g List.mem_cons_self).2] at this
      exact this
    · exact zz_in h.tail r hr
theorem pp_entry {k : Nat} : ∀ {gs : List Ch} {x : List Int} {i : Nat}, Fit k gs x → i < gs.length → x.getD (pp gs x i) 0 = (zz gs x).getD i 0
  | [], _, _, _, h => by simp at h
  | g :: gs, x, 0, h, _ => by
    obtain ⟨h1, h2, h3⟩ := h.head
    rw [pp, zz, List.getD_cons_zero, List.getD_eq_getElem?_getD, List.getD_eq_getElem?_getD, List.getElem?_take, if_pos h3]
  | g :: gs, x, i + 1, h, hi => by
    have ih := pp_entry (i := i) h.tail (by simpa using hi)
    rw [pp, zz, List.getD_cons_succ, ← ih, List.getD_eq_getElem?_getD, List.getD_eq_getElem?_getD, List.getElem?_drop]
theorem pk_beh {f : Ch} {gs : List Ch} {x : List Int} (hb : Beh f gs) (hl : x.length = sumN gs) (hr : ∀ r ∈ x, 0 ≤ r ∧ r < (f.k : Int)) (hs : smlC (sumN gs) f.k) : pk (behC f gs) x = behT f gs x := by
  have hix := ctxIx_ok (CtxO.ctx (c := behC f gs) ⟨hl, hr⟩ (beh_ok hb hs))
  have hix2 : (ctxIx f.k x).toNat < f.k ^ sumN gs := hix.2
  unfold pk behC
  simp only
  rw [List.getD_eq_getElem?_getD, ctxs_eq hb.fo.k1, List.map_map, List.getElem?_map, List.getElem?_range hix2]
  show ((behT f gs (digs f.k (sumN gs) (ctxIx f.k x).toNat) : Nat) : Int).toNat = _
  rw [digs_ix hb.fo.k1 _ x hl hr, Int.toNat_natCast]
/-- each with its own ones behind it -/
def parts : List Ch → List Ch → List Ch
  | [], _ => []
  | g :: gs, hs => behC g (hs.take g.n) :: parts gs (hs.drop g.n)
theorem parts_len : ∀ (gs hs : List Ch), (parts gs hs).length = gs.length
  | [], _ => rfl
  | g :: gs, hs => by rw [parts, List.length_cons, List.length_cons, parts_len]
theorem parts_get : ∀ {gs hs : List Ch} {i : Nat} {g : Ch}, gs[i]? = some g → (parts gs hs)[i]? = some (behC g ((hs.drop ((gs.take i).map (·.n)).sum).take g.n))
  | [], _, _, _, h => by simp at h
  | g :: gs, hs, 0, a, h => by simp at h; subst h; simp [parts]
  | g :: gs, hs, i + 1, a, h => by
    rw [List.getElem?_cons_succ] at h
    rw [parts, List.getElem?_cons_succ, parts_get h, List.drop_drop, List.take_succ_cons, List.map_cons, List.sum_cons]
theorem parts_sum : ∀ {gs hs : List Ch}, hs.length = sumN gs → sumN (parts gs hs) = sumN hs
  | [], hs, h => by rw [List.eq_nil_of_length_eq_zero h]; rfl
  | g :: gs, hs, h => by
    rw [sumN_cons] at h
    rw [parts, sumN_cons, parts_sum (by rw [List.length_drop]; omega)]
    show sumN (hs.take g.n) + _ = _
    rw [← sumN_app, List.take_append_drop]
theorem parts_ok {k : Nat} (k1 : 1 ≤ k) : ∀ {gs hs : List Ch}, (∀ g ∈ gs, ChOk g ∧ g.k = k) → (∀ g ∈ hs, ChOk g ∧ g.k = k) → hs.length = sumN gs → smlC (sumN hs) k → ∀ p ∈ parts gs hs, ChOk p ∧ p.k = k
  | [], _, _, _, _, _, p, hp => by simp [parts] at hp
  | g :: gs, hs, hg, hh, hl, s, p, hp => by
    rw [sumN_cons] at hl
    have hgg := hg g List.mem_cons_self
    have es : sumN hs = sumN (hs.take g.n) + sumN (hs.drop g.n) := by rw [← sumN_app, List.take_append_drop]
    rw [parts] at hp
    rcases List.mem_cons.mp hp with rfl | hp
    · refine ⟨beh_ok ⟨hgg.1, by rw [List.length_take]; omega, fun a ha => ?_⟩ (by rw [hgg.2]; exact sml_mono k1 (by omega) s), hgg.2⟩
      rw [hgg.2]
      exact hh a (List.mem_of_mem_take ha)
    · exact parts_ok k1 (fun a ha => hg a (List.mem_cons_of_mem _ ha)) (fun a ha => hh a (List.mem_of_mem_drop ha)) (by rw [List.length_drop]; omega) (sml_mono k1 (by omega) s) p hp
theorem brackets {k : Nat} (k1 : 1 ≤ k) : ∀ {gs hs : List Ch} {x : List Int}, (∀ g ∈ gs, ChOk g ∧ g.k = k) → hs.length = sumN gs → smlC (sumN hs) k → Fit k hs x →
    zz (parts gs hs) x = zz gs (zz hs x) ∧ ∀ i, i < gs.length → pp (parts gs hs) x i = pp hs x (pp gs (zz hs x) i)
  | [], hs, x, _, _, _, _ => ⟨rfl, fun i hi => by simp at hi⟩
  | g :: gs, hs, x, hg, hl, s, hx => by
    rw [sumN_cons] at hl
    have hgg := hg g List.mem_cons_self
    obtain ⟨h0, eh0⟩ : ∃ h0, h0 = hs.take g.n := ⟨_, rfl⟩
    obtain ⟨h1, eh1⟩ : ∃ h1, h1 = hs.drop g.n := ⟨_, rfl⟩
    have eh : hs = h0 ++ h1 := by rw [eh0, eh1, List.take_append_drop]
    have hl0 : h0.length = g.n := by rw [eh0, List.length_take]; omega
    have es : sumN hs = sumN h0 + sumN h1 := by rw [eh, sumN_app]
    obtain ⟨x0, ex0⟩ : ∃ x0, x0 = x.take (sumN h0) := ⟨_, rfl⟩
    obtain ⟨x1, ex1⟩ : ∃ x1, x1 = x.drop (sumN h0) := ⟨_, rfl⟩
    have ex : x = x0 ++ x1 := by rw [ex0, ex1, List.take_append_drop]
    have hxl := hx.ln
    have hx0l : x0.length = sumN h0 := by rw [ex0, List.length_take]; omega
    have f0 : Fit k h0 x0 := ⟨fun a ha => hx.ok a (by rw [eh]; exact List.mem_append_left _ ha), hx0l, fun r hr => hx.en r (by rw [ex]; exact List.mem_append_left _ hr)⟩
    have f1 : Fit k h1 x1 := ⟨fun a ha => hx.ok a (by rw [eh]; exact List.mem_append_right _ ha), by rw [ex1, List.length_drop]; omega, fun r hr => hx.en r (by rw [ex]; exact List.mem_append_right _ hr)⟩
    obtain ⟨i1, i2⟩ := brackets k1 (gs := gs) (hs := h1) (x := x1) (fun a ha => hg a (List.mem_cons_of_mem _ ha)) (by rw [eh1, List.length_drop]; omega) (sml_mono k1 (by omega) s) f1
    have ey : zz hs x = zz h0 x0 ++ zz h1 x1 := by rw [eh, ex, zz_app _ _ _ _ hx0l]
    have y0l : (zz h0 x0).length = g.n := by rw [zz_len, hl0]
    have ey0 : (zz hs x).take g.n = zz h0 x0 := by rw [ey, List.take_append_of_le_length (by omega), ← y0l, List.take_length]
    have ey1 : (zz hs x).drop g.n = zz h1 x1 := by rw [ey, ← y0l, List.drop_left]
    have hcy : CtxO g (zz h0 x0) := ⟨y0l, fun r hr => by rw [hgg.2]; exact zz_in f0 r hr⟩
    have hlt := (pk_at hgg.1 hcy).2
    have hb0 : Beh g h0 := ⟨hgg.1, hl0, fun a ha => by rw [hgg.2]; exact f0.ok a ha⟩
    have epk : pk (behC g h0) x0 = pp h0 x0 (pk g (zz h0 x0)) := by
      rw [pk_beh hb0 hx0l (by rw [hgg.2]; exact f0.en) (by rw [hgg.2]; exact sml_mono k1 (by omega) s), behT_eq (by rw [hl0]; exact hlt)]
    have etk : x.take (behC g h0).n = x0 := by rw [ex0]; rfl
    have edr : x.drop (behC g h0).n = x1 := by rw [ex1]; rfl
    refine ⟨?_, fun i hi => ?_⟩
    · rw [parts, ← eh0, ← eh1, zz, zz, etk, edr, ey0, ey1, i1, epk, pp_entry f0 (by rw [hl0]; exact hlt)]
    · cases i with
      | zero => rw [parts, ← eh0, ← eh1, pp, pp, etk, ey0, epk, eh, ex, pp_app_l _ _ _ _ _ hx0l (by rw [hl0]; exact hlt)]
      | succ i =>
        rw [parts, ← eh0, ← eh1, pp, pp, edr, ey1, i2 i (by simpa using hi)]
        show sumN h0 + _ = _
        rw [eh, ex, ← hl0, pp_app_r _ _ _ _ _ hx0l]
theorem sumN_ge {k : Nat} {gs : List Ch} (h : ∀ g ∈ gs, ChOk g ∧ g.k = k) : gs.length ≤ sumN gs := by
  have := len_le_sum (ss := gs.map (·.n)) fun s hs => by
    obtain ⟨g, hg, rfl⟩ := List.mem_map.mp hs
    exact (h g hg).1.n1
  rw [List.length_map] at this
  exact this
theorem beh_assoc {f : Ch} {gs hs : List Ch} (hb : Beh f gs) (hh : ∀ g ∈ hs, ChOk g ∧ g.k = f.k) (hl : hs.length = sumN gs) (s : smlC (sumN hs) f.k) : behC (behC f gs) hs = behC f (parts gs hs) := by
  have k1 := hb.fo.k1
  have k4 := hb.fo.k4
  have sg : smlC (sumN gs) f.k := sml_mono k1 (by rw [← hl]; exact sumN_ge hh) s
  have hF := beh_ok hb sg
  have hP := parts_ok k1 hb.go hh hl s
  have n1 : 1 ≤ sumN hs := sumN_pos (f := behC f gs) hF (fun g hg => (hh g hg).1) ⟨hl, fun g hg => (hh g hg).2⟩
  have key : ∀ x ∈ ctxs (sumN hs) f.k, behT (behC f gs) hs x = behT f (parts gs hs) x := fun x hx => by
    have hok := ctxs_ok n1 (by have := s.1; omega) k1 k4 hx
    have ft : Fit f.k hs x := ⟨hh, hok.len, fun r hr => ⟨hok.lo r hr, hok.hi r hr⟩⟩
    obtain ⟨b1, b2⟩ := brackets k1 hb.go hl s ft
    have hy : (zz hs x).length = sumN gs := by rw [zz_len, hl]
    have fy : Fit f.k gs (zz hs x) := ⟨hb.go, hy, zz_in ft⟩
    have c1 := (pk_at hF (x := zz hs x) ⟨hy, zz_in ft⟩).2
    have c2 := (pk_at hb.fo (x := zz gs (zz hs x)) ⟨by rw [zz_len]; exact hb.ln, zz_in fy⟩).2
    rw [← hb.ln] at c2
    rw [behT_eq (by rw [hl]; exact c1), pk_beh hb hy (zz_in ft) sg, behT_eq c2, behT_eq (by rw [parts_len, b1]; exact c2), b1, b2 _ c2]
  unfold behC at key ⊢
  simp only at key ⊢
  rw [parts_sum hl, Ch.mk.injEq]
  exact ⟨rfl, rfl, List.map_congr_left fun x hx => by rw [key x hx]⟩
theorem prod_beh (f g : Ch) : behC f (List.replicate f.n g) = prodC f g := by
  have e : sumN (List.replicate f.n g) = f.n * g.n := by unfold sumN; rw [List.map_replicate, rep_sum]
  unfold behC prodC
  rw [e]
theorem rng_ch (gs : List Ch) (f : Ch → D) : ((List.range gs.length).map fun i => f (gs.getD i ch0)) = gs.map f := by
  apply List.ext_getElem
  · simp
  · intro i h1 h2
    have hi : i < gs.length := by simpa using h1
    simp [List.getD_eq_getElem?_getD, List.getElem?_eq_getElem hi]
def c__law_brackets (C : Addr) : Con := fun ds μ Φ _ => ∃ (p : Addr) (ns : List Int) (c : List D) (k : Nat), ds = [.hd (.ref p), .int k] ∧ μ p = some (.lst c) ∧ StC ns c ∧ 1 ≤ k ∧ k ≤ 4 ∧ ∀ c', StC ns c' → Φ (.bl true) (sset μ p (.lst c'))
theorem len__law_brackets {C ds μ Φ Ψ} (h : c__law_brackets C ds μ Φ Ψ) : ds.length = 2 := by obtain ⟨_, _, _, _, rfl, _⟩ := h; rfl
theorem ok__law_brackets (T : Txt P w K mg) : FnOk P w K mg base (L2N.CX P w) 13 T.f__law_brackets T.d__law_brackets ["_law_state", "_law_k"] (spOf K (c__law_brackets T.c_Chooser)) := by
  refine def_okC T.F__law_brackets sc__law_brackets _ (fun ds μ Φ Ψ h => len__law_brackets h) (fun cdv A outer s H E B hW hr =>
    have tk : L2N.Takes (cxOf (L2N.CX P w) P w K mg base N__law_brackets "_law_brackets" (defScope s__law_brackets) T.f__law_brackets cdv A outer s H E) (fun cls d _ H => E cls d H) := L2N.takes_of rfl rfl rfl rfl
    ⟨_, (pss_cons (ps_set (i := 2) sc__law_brackets.nd rfl (Or.inr rfl) (pe_call (ok__law_nested T) (hr.mono (by decide)) rfl T.g__law_nested T.F__law_nested.kp T.b__law_nested .nil passN (pa_cons (pv 0) (pa_cons (pv 1) pa_nil))))
      (pss_cons (ps_set (i := 3) sc__law_brackets.nd rfl (Or.inr rfl) (pe_ix ix_list (pv 2) pe_int (fun _ _ => rfl)))
      (pss_cons (ps_set (i := 4) sc__law_brackets.nd rfl (Or.inl rfl) (pe_callB call_len_seq (by rfl) T.z_len PySem.boot_len (pa_cons (pv 3) pa_nil)))
      (pss_cons (ps_set (i := 5) sc__law_brackets.nd rfl (Or.inl rfl) (pe_call (ok__law_row T) (hr.mono (by decide)) rfl T.g__law_row T.F__law_row.kp T.b__law_row .nil passN (pa_cons (pv 0) (pa_cons (pv 4) (pa_cons (pv 1) pa_nil)))))
      (pss_cons (ps_set (i := 6) sc__law_brackets.nd rfl (Or.inr rfl) (pe_lc (own := [("_law_size", 18)]) rfl sc__law_brackets.nd (pi_tup (pv 3)) (blkOk_by (N := N__law_brackets) (sc := defScope s__law_brackets) (by decide +kernel)) (fun _ _ _ _ _ => (pg_name (i := 18) sc__law_brackets.nd rfl (Or.inl rfl))) (fun _ _ _ _ _ => pts_nil) (fun _ _ _ _ _ => (pe_call (ok__law_row T) (hr.mono (by decide)) rfl T.g__law_row T.F__law_row.kp T.b__law_row .nil passN (pa_cons (pv 0) (pa_cons (pv 18) (pa_cons (pv 1) pa_nil)))))))
      (pss_cons (ps_set (i := 7) sc__law_brackets.nd rfl (Or.inr rfl) (pe_lc (own := [("_law_size", 18)]) rfl sc__law_brackets.nd (pi_tup (pe_ix ix_list (pv 2) pe_int (fun _ _ => rfl))) (blkOk_by (N := N__law_brackets) (sc := defScope s__law_brackets) (by decide +kernel)) (fun _ _ _ _ _ => (pg_name (i := 18) sc__law_brackets.nd rfl (Or.inl rfl))) (fun _ _ _ _ _ => pts_nil) (fun _ _ _ _ _ => (pe_call (ok__law_row T) (hr.mono (by decide)) rfl T.g__law_row T.F__law_row.kp T.b__law_row .nil passN (pa_cons (pv 0) (pa_cons (pv 18) (pa_cons (pv 1) pa_nil)))))))
      (pss_cons (ps_set (i := 8) sc__law_brackets.nd rfl (Or.inl rfl) (pe_makeS T.mk_Chooser (ok_Chooser___init__ T) (hr.mono (by decide)) rfl T.g_Chooser T.b_Chooser___init__ (fun σ => L2N.passAt tk σ) (pa_cons (pv 4) (pa_cons (pv 1) (pa_cons (pv 5) pa_nil)))))
      (pss_cons (ps_set (i := 9) sc__law_brackets.nd rfl (Or.inl rfl) (pe_callTy call_tupleN (by rfl) T.z_tuple (by decide +kernel) (pa_cons (pe_lc (own := [("_law_z", 15)]) rfl sc__law_brackets.nd (pi_range1 rfl T.z_range (pa_cons (pv 4) pa_nil)) (blkOk_by (N := N__law_brackets) (sc := defScope s__law_brackets) (by decide +kernel)) (fun _ _ _ _ _ => (pg_name (i := 15) sc__law_brackets.nd rfl (Or.inl rfl))) (fun _ _ _ _ _ => pts_nil) (fun _ _ _ _ _ => (pe_makeS (E := WE WN) T.mk_Chooser (ok_Chooser___init__ T) (hr.mono (by decide)) rfl T.g_Chooser T.b_Chooser___init__ (fun σ => passAtN σ) (pa_cons (pe_ix ix_tup (pv 3) (pv 15) (fun _ _ => rfl)) (pa_cons (pv 1) (pa_cons (pe_ix ix_list (pv 6) (pv 15) (fun _ _ => rfl)) pa_nil)))))) pa_nil)))
      (pss_cons (ps_set (i := 10) sc__law_brackets.nd rfl (Or.inl rfl) (pe_callTy call_tupleN (by rfl) T.z_tuple (by decide +kernel) (pa_cons (pe_lc (own := [("_law_p", 19)]) rfl sc__law_brackets.nd (pi_range1 rfl T.z_range (pa_cons (pe_callB call_len_seq (by rfl) T.z_len PySem.boot_len (pa_cons (pv 7) pa_nil)) pa_nil)) (blkOk_by (N := N__law_brackets) (sc := defScope s__law_brackets) (by decide +kernel)) (fun _ _ _ _ _ => (pg_name (i := 19) sc__law_brackets.nd rfl (Or.inl rfl))) (fun _ _ _ _ _ => pts_nil) (fun _ _ _ _ _ => (pe_makeS (E := WE WN) T.mk_Chooser (ok_Chooser___init__ T) (hr.mono (by decide)) rfl T.g_Chooser T.b_Chooser___init__ (fun σ => passAtN σ) (pa_cons (pe_ix ix_tup (pe_ix ix_list (pv 2) pe_int (fun _ _ => rfl)) (pv 19) (fun _ _ => rfl)) (pa_cons (pv 1) (pa_cons (pe_ix ix_list (pv 7) (pv 19) (fun _ _ => rfl)) pa_nil)))))) pa_nil)))
      (pss_cons (ps_set (i := 11) sc__law_brackets.nd rfl (Or.inl rfl) (pe_call (ok__law_put_row T) (hr.mono (by decide)) rfl T.g__law_put_row T.F__law_put_row.kp T.b__law_put_row .nil passN (pa_cons (pe_call (ok__law_put_row T) (hr.mono (by decide)) rfl T.g__law_put_row T.F__law_put_row.kp T.b__law_put_row .nil passN (pa_cons (pv 5) (pa_cons (pv 6) (pa_cons (pv 3) (pa_cons (pv 1) pa_nil))))) (pa_cons (pv 7) (pa_cons (pe_ix ix_list (pv 2) pe_int (fun _ _ => rfl)) (pa_cons (pv 1) pa_nil))))))
      (pss_cons (ps_set (i := 12) sc__law_brackets.nd rfl (Or.inl rfl) (pe_callB (cr_sumT rfl) (by rfl) T.z_sum (by decide +kernel) (pa_cons (pe_ix ix_list (pv 2) pe_int (fun _ _ => rfl)) pa_nil)))
      (pss_cons (ps_set (i := 13) sc__law_brackets.nd rfl (Or.inl rfl) (pe_lst pa_nil))
      (pss_cons (ps_set (i := 14) sc__law_brackets.nd rfl (Or.inl rfl) pe_int)
      (pss_cons (ps_for (passes_of rfl) rfl (pi_range1 rfl T.z_range (pa_cons (pv 4) pa_nil)) (pg_name (i := 15) sc__law_brackets.nd rfl (Or.inl rfl)) (pss_cons (ps_expr (pe_bm PySem.F.plainAttrs_list PySem.F.slot_list_append PySem.F.type_list_append mt_append (pv 13) (pa_cons (pe_callS (ok_put_behind T) (hr.mono (by decide)) rfl T.g_put_behind T.F_put_behind.kp T.b_put_behind (fun σ => L2N.passAt tk σ) (pa_cons (pe_ix ix_tup (pv 9) (pv 15) (fun _ _ => rfl)) (pa_cons (pe_slice sl_tupN (pv 10) (po_some (pv 14)) (po_some (pe_op op_add (pv 14) (pe_ix ix_tup (pv 3) (pv 15) (fun _ _ => rfl))))) pa_nil))) pa_nil)))
      (pss_one (ps_set (i := 14) sc__law_brackets.nd rfl (Or.inl rfl) (pe_op op_add (pv 14) (pe_ix ix_tup (pv 3) (pv 15) (fun _ _ => rfl)))))))
      (pss_cons (ps_if (pt_not (pt_val (pe_call (ok__law_fits T) (hr.mono (by decide)) rfl T.g__law_fits T.F__law_fits.kp T.b__law_fits .nil passN (pa_cons (pe_callS (ok_put_behind T) (hr.mono (by decide)) rfl T.g_put_behind T.F_put_behind.kp T.b_put_behind (fun σ => L2N.passAt tk σ) (pa_cons (pv 8) (pa_cons (pe_callTy call_tupleN (by rfl) T.z_tuple (by decide +kernel) (pa_cons (pv 13) pa_nil)) pa_nil))) (pa_cons (pv 12) (pa_cons (pv 1) (pa_cons (pv 11) pa_nil))))))) (pss_one (ps_ret pe_bl)) pss_nil)
      (pss_cons (ps_set (i := 16) sc__law_brackets.nd rfl (Or.inl rfl) (pe_callS (ok_put_behind T) (hr.mono (by decide)) rfl T.g_put_behind T.F_put_behind.kp T.b_put_behind (fun σ => L2N.passAt tk σ) (pa_cons (pe_callS (ok_put_behind T) (hr.mono (by decide)) rfl T.g_put_behind T.F_put_behind.kp T.b_put_behind (fun σ => L2N.passAt tk σ) (pa_cons (pv 8) (pa_cons (pv 9) pa_nil))) (pa_cons (pv 10) pa_nil))))
      (pss_cons (ps_set (i := 17) sc__law_brackets.nd rfl (Or.inl rfl) (pe_makeS T.mk_Chooser (ok_Chooser___init__ T) (hr.mono (by decide)) rfl T.g_Chooser T.b_Chooser___init__ (fun σ => L2N.passAt tk σ) (pa_cons pe_int (pa_cons (pv 1) (pa_cons (pe_op op_repA (pe_tupN (pa_cons pe_int pa_nil)) (pv 1)) pa_nil)))))
      (pss_cons (ps_if (PW.pt (pw_or (pt_not (pt_val (pe_call (ok__law_fits T) (hr.mono (by decide)) rfl T.g__law_fits T.F__law_fits.kp T.b__law_fits .nil passN (pa_cons (pv 16) (pa_cons (pv 12) (pa_cons (pv 1) (pa_cons (pv 11) pa_nil))))))) (pw_or1 (pt_not (pt_val (pe_call (ok__law_fits T) (hr.mono (by decide)) rfl T.g__law_fits T.F__law_fits.kp T.b__law_fits .nil passN (pa_cons (pe_callS (ok_put_behind T) (hr.mono (by decide)) rfl T.g_put_behind T.F_put_behind.kp T.b_put_behind (fun σ => L2N.passAt tk σ) (pa_cons (pv 17) (pa_cons (pe_tupN (pa_cons (pv 16) pa_nil)) pa_nil))) (pa_cons (pv 12) (pa_cons (pv 1) (pa_cons (pv 11) pa_nil)))))))))) (pss_one (ps_ret pe_bl)) pss_nil)
      (pss_cons (ps_if (pt_not (pt_val (pe_call (ok__law_fits T) (hr.mono (by decide)) rfl T.g__law_fits T.F__law_fits.kp T.b__law_fits .nil passN (pa_cons (pe_callS (ok_put_behind T) (hr.mono (by decide)) rfl T.g_put_behind T.F_put_behind.kp T.b_put_behind (fun σ => L2N.passAt tk σ) (pa_cons (pv 16) (pa_cons (pe_op op_repA (pe_tupN (pa_cons (pv 17) pa_nil)) (pv 12)) pa_nil))) (pa_cons (pv 12) (pa_cons (pv 1) (pa_cons (pv 11) pa_nil))))))) (pss_one (ps_ret pe_bl)) pss_nil)
      (pss_one (ps_ret (pe_and (pe_call (ok__law_fits T) (hr.mono (by decide)) rfl T.g__law_fits T.F__law_fits.kp T.b__law_fits .nil passN (pa_cons (pv 8) (pa_cons (pv 4) (pa_cons (pv 1) (pa_cons (pv 5) pa_nil))))) (pe_one (pe_call (ok__law_fits T) (hr.mono (by decide)) rfl T.g__law_fits T.F__law_fits.kp T.b__law_fits .nil passN (pa_cons (pe_callS (ok_put_behind T) (hr.mono (by decide)) rfl T.g_put_behind T.F_put_behind.kp T.b_put_behind (fun σ => L2N.passAt tk σ) (pa_cons (pv 8) (pa_cons (pe_op op_repA (pe_tupN (pa_cons (pv 17) pa_nil)) (pv 4)) pa_nil))) (pa_cons (pv 4) (pa_cons (pv 1) (pa_cons (pv 5) pa_nil)))))))))))))))))))))))))))),
      (sSeq (sAsg (sCall (sCons sVar (sCons sVar sNil))) sName)
      (sSeq (sAsg (sOp roIxL sVar sInt) sName)
      (sSeq (sAsg (sCB rcLen (sCons sVar sNil)) sName)
      (sSeq (sAsg (sCall (sCons sVar (sCons sVar (sCons sVar sNil)))) sName)
      (sSeq (sAsg (sLc (siT sVar) (gwName List.mem_cons_self) (fun _ _ _ => sName) (fun _ _ _ => sYes) (fun _ _ _ => (sCall (sCons sVar (sCons sVar (sCons sVar sNil)))))) sName)
      (sSeq (sAsg (sLc (siT (sOp roIxL sVar sInt)) (gwName List.mem_cons_self) (fun _ _ _ => sName) (fun _ _ _ => sYes) (fun _ _ _ => (sCall (sCons sVar (sCons sVar (sCons sVar sNil)))))) sName)
      (sSeq (sAsg (sMakeSW (W := fun cls d _ H => E cls d H) (by exact hW) (sCons sVar (sCons sVar (sCons sVar sNil)))) sName)
      (sSeq (sAsg (sCB rcTuple (sCons (sLc (siR1 sVar) (gwName List.mem_cons_self) (fun _ _ _ => sName) (fun _ _ _ => sYes) (fun _ _ _ => (sMakeSN (sCons (sOp roIxT sVar sVar) (sCons sVar (sCons (sOp roIxL sVar sVar) sNil)))))) sNil)) sName)
      (sSeq (sAsg (sCB rcTuple (sCons (sLc (siR1 (sCB rcLen (sCons sVar sNil))) (gwName List.mem_cons_self) (fun _ _ _ => sName) (fun _ _ _ => sYes) (fun _ _ _ => (sMakeSN (sCons (sOp roIxT (sOp roIxL sVar sInt) sVar) (sCons sVar (sCons (sOp roIxL sVar sVar) sNil)))))) sNil)) sName)
      (sSeq (sAsg (sCall (sCons (sCall (sCons sVar (sCons sVar (sCons sVar (sCons sVar sNil))))) (sCons sVar (sCons (sOp roIxL sVar sInt) (sCons sVar sNil))))) sName)
      (sSeq (sAsg (sCB rcSumT (sCons (sOp roIxL sVar sInt) sNil)) sName)
      (sSeq (sAsg (sOwn sNil) sName)
      (sSeq (sAsg sInt sName)
      (sSeq (sFor (siR1 sVar) (fun _ _ _ => sName) (fun _ _ _ => (sSeq (sDrop (sApp sVar (sCallSW (W := fun cls d _ H => E cls d H) (by exact hW) (sCons (sOp roIxT sVar sVar) (sCons (sSlT sVar (sPart sVar) (sPart (sOp roInt0 sVar (sOp roIxT sVar sVar)))) sNil)))))
      (sAsg (sOp roInt0 sVar (sOp roIxT sVar sVar)) sName))))
      (sSeq (sIfS (sNot (sB (sCall (sCons (sCallSW (W := fun cls d _ H => E cls d H) (by exact hW) (sCons sVar (sCons (sCB rcTuple (sCons sVar sNil)) sNil))) (sCons sVar (sCons sVar (sCons sVar sNil))))))) (sRet sBl) sNext)
      (sSeq (sAsg (sCallSW (W := fun cls d _ H => E cls d H) (by exact hW) (sCons (sCallSW (W := fun cls d _ H => E cls d H) (by exact hW) (sCons sVar (sCons sVar sNil))) (sCons sVar sNil))) sName)
      (sSeq (sAsg (sMakeSW (W := fun cls d _ H => E cls d H) (by exact hW) (sCons sInt (sCons sVar (sCons (sOp roRepT (sTup (sCons sInt sNil)) sVar) sNil)))) sName)
      (sSeq (sIfS (sOr (sNot (sB (sCall (sCons sVar (sCons sVar (sCons sVar (sCons sVar sNil))))))) (sNot (sB (sCall (sCons (sCallSW (W := fun cls d _ H => E cls d H) (by exact hW) (sCons sVar (sCons (sTup (sCons sVar sNil)) sNil))) (sCons sVar (sCons sVar (sCons sVar sNil)))))))) (sRet sBl) sNext)
      (sSeq (sIfS (sNot (sB (sCall (sCons (sCallSW (W := fun cls d _ H => E cls d H) (by exact hW) (sCons sVar (sCons (sOp roRepT (sTup (sCons sVar sNil)) sVar) sNil))) (sCons sVar (sCons sVar (sCons sVar sNil))))))) (sRet sBl) sNext)
      (sRet (sAndV (sCall (sCons sVar (sCons sVar (sCons sVar (sCons sVar sNil))))) (sCall (sCons (sCallSW (W := fun cls d _ H => E cls d H) (by exact hW) (sCons sVar (sCons (sOp roRepT (sTup (sCons sVar sNil)) sVar) sNil))) (sCons sVar (sCons sVar (sCons sVar sNil))))))))))))))))))))))))))⟩) (fun ds μ Φ Ψ h => ?hv)
  case hv =>
    obtain ⟨p, ns, c, k, rfl, hst, sc, k1, k4, h⟩ := h
    refine seq_cut fun M hM => ?_
    walk_at "wp"
    refine ⟨p, ns, c, k, rfl, hst, sc, k1, k4, fun as bs c1 hN sc => ?_⟩
    obtain ⟨-, t1, t8⟩ := top_at k1 k4
    obtain ⟨hal, ha1, hbl, hb1, hbt⟩ := hN
    have hla := len_le_sum ha1
    have hlb := len_le_sum hb1
    have sA := top_small (n := as.length) k1 k4 (by omega)
    have sa := top_small (n := as.sum) k1 k4 (by omega)
    have sb := top_small (n := bs.sum) k1 k4 hbt
    have lk : (k : Int).natAbs.log2 < 9000 := log_small (by omega)
    rw [hM]; clear hM M
    refine seq_cut fun M hM => ?_
    walk_at "wp"
    rw [hM]; clear hM M
    refine seq_cut fun M hM => ?_
    walk_at "wp"
    rw [nl_len]
    rw [hM]; clear hM M
    refine seq_cut fun M hM => ?_
    walk_at "wp"
    refine ⟨p, ns, c1, as.length, k, rfl, sset_same, sc, hal, sA.1, k1, k4, sA.2, fun r c3 hr sc => ?_⟩
    rw [sset_sset]
    obtain ⟨f, hfd⟩ : ∃ f : Ch, f = ⟨as.length, k, r⟩ := ⟨_, rfl⟩
    have hf : ChOk f := by rw [hfd]; exact mk_ok hal k1 k4 sA hr
    have fn : f.n = as.length := by rw [hfd]
    have fk : f.k = k := by rw [hfd]
    have fr : f.row = r := by rw [hfd]
    have rowsW : ∀ (ss : List Nat) (c : List D) (δw : DEnv) (j : Nat) (φ : DE) (Z : DK), (∀ s ∈ ss, 1 ≤ s) → ss.sum ≤ topN k → StC ns c →
        (∀ (s : Nat) (μ2 : Sto) (X : DK) (c : List D), μ2 p = some (.lst c) → StC ns c → 1 ≤ s → s ≤ 8 → k ^ s ≤ 256 → (∀ r c', NumOk (k ^ s) s r → StC ns c' → X (.tup (r.map .int)) (sset μ2 p (.lst c'))) → φ (goalX Ψ) (δw.set j (some (.int (s : Int)))) μ2 X) →
        (∀ (gs : List Ch) c', gs.map (·.n) = ss → (∀ g ∈ gs, ChOk g ∧ g.k = k) → StC ns c' → Z (.lst (gs.map rowD)) (sset μ p (.lst c'))) → LcG (eName j) dYes φ δw (goalX Ψ) (natL ss) (sset μ p (.lst c)) Z := fun ss c δw j φ Z h1 ht sc hs hz => by
      refine lcG_drawN (StC ns) (fun i acc => ∃ gs : List Ch, acc = gs.map rowD ∧ gs.map (·.n) = ss.take i ∧ ∀ g ∈ gs, ChOk g ∧ g.k = k) (by rw [nl_len]; have := len_le_sum h1; omega) sset_same sc ⟨[], rfl, rfl, fun g hg => by simp at hg⟩ (fun i d μ2 X acc c6 hi hs2 sc2 ⟨gs, e, rl, ra⟩ hla hx => ?_) (fun acc c4 ⟨gs, e, rl, ra⟩ hla sc => ?_)
      · unfold natL at hi
        rw [List.getElem?_map, Option.map_eq_some_iff] at hi
        obtain ⟨s, hsi, rfl⟩ := hi
        have hsm := List.mem_of_getElem? hsi
        have hs1 := h1 s hsm
        have hsS := le_sum hsm
        have ssm := top_small (n := s) k1 k4 (by omega)
        refine hs s μ2 X c6 hs2 sc2 hs1 ssm.1 ssm.2 fun r' c7 hr' sc7 => ?_
        refine hx _ c7 sc7 ⟨gs ++ [⟨s, k, r'⟩], by rw [e, List.map_append]; rfl, by rw [List.map_append, rl, List.take_add_one, hsi]; rfl, fun g hg => ?_⟩
        rcases List.mem_append.mp hg with q | q
        · exact ra g q
        · rw [List.mem_singleton.mp q]; exact ⟨mk_ok hs1 k1 k4 ssm hr', rfl⟩
      · rw [nl_len, List.take_length] at rl
        subst e
        rw [sset_sset]
        exact hz gs c4 rl ra sc
    rw [hM]; clear hM M
    refine seq_cut fun M hM => ?_
    walk_at "wp"
    refine rowsW as c3 _ _ _ _ ha1 (by omega) sc (fun s μ2 X c6 hs2 sc2 s1 s8 ks hX => ?_) (fun gs c4 rl ra sc => ?_)
    · walk_at "wp"
      exact ⟨p, ns, c6, s, k, rfl, hs2, sc2, s1, s8, k1, k4, ks, hX⟩
    rw [hM]; clear hM M
    refine seq_cut fun M hM => ?_
    walk_at "wp"
    refine rowsW bs c4 _ _ _ _ hb1 hbt sc (fun s μ2 X c6 hs2 sc2 s1 s8 ks hX => ?_) (fun hs c5 rl2 ra2 sc => ?_)
    · walk_at "wp"
      exact ⟨p, ns, c6, s, k, rfl, hs2, sc2, s1, s8, k1, k4, ks, hX⟩
    have hgl : gs.length = as.length := by rw [← rl, List.length_map]
    have hhl : hs.length = bs.length := by rw [← rl2, List.length_map]
    have hsum : sumN gs = as.sum := by unfold sumN; rw [rl]
    have hsum2 : sumN hs = bs.sum := by unfold sumN; rw [rl2]
    have hgo : ∀ g ∈ gs, ChOk g := fun g hg => (ra g hg).1
    have hho : ∀ g ∈ hs, ChOk g := fun g hg => (ra2 g hg).1
    have hfol : Fol f gs := ⟨by rw [hgl, fn], fun g hg => by rw [(ra g hg).2, fk]⟩
    have hb := Fol.beh hf hgo hfol
    have sg : smlC (sumN gs) f.k := by rw [hsum, fk]; exact sa
    have sh : smlC (sumN hs) f.k := by rw [hsum2, fk]; exact sb
    have hF := beh_ok hb sg
    have hhf : ∀ g ∈ hs, ChOk g ∧ g.k = f.k := by rw [fk]; exact ra2
    have hhl2 : hs.length = sumN gs := by rw [hhl, hbl, hsum]
    have hfolF : Fol (behC f gs) hs := ⟨hhl2, fun g hg => (hhf g hg).2⟩
    have hbF : Beh (behC f gs) hs := Fol.beh hF hho hfolF
    rw [hM]; clear hM M
    refine seq_cut fun M hM => ?_
    walk_at "wp"
    intro y hy
    refine ⟨y, f, by rw [fn, fk, fr], hf, sset_same, rfl, NSA, _, sset_same, ?_⟩
    rw [sset_sset, sdel_sset hy]
    rw [show D.obj T.c_Chooser NSA [D.int f.n, D.int f.k, D.tup (f.row.map D.int)] = chO T.c_Chooser f from rfl]
    clear hy y
    rw [hM]; clear hM M
    refine seq_cut fun M hM => ?_
    walk_at "wp"
    rw [← hgl]
    refine ⟨by omega, by omega, lcR (m := gs.length) (fun i => chO T.c_Chooser (gs.getD i ch0)) (by omega) (fun i μ2 X hi hsub hx => ?_) ?_⟩
    · walk_at "wp"
      have hcO := ra _ (List.getElem_mem hi)
      rw [List.getD_eq_getElem?_getD, List.getElem?_eq_getElem hi, Option.getD_some] at hx
      refine ⟨.int gs[i].n, ?_, rowD gs[i], atI_nat (by rw [List.getElem?_map, List.getElem?_eq_getElem hi]; rfl), fun x hxn => ?_⟩
      · rw [← rl, natL_at (by rw [List.length_map]; exact hi), List.getD_eq_getElem?_getD, List.getElem?_map, List.getElem?_eq_getElem hi]; rfl
      refine ⟨x, gs[i], by rw [hcO.2]; rfl, hcO.1, sset_same, rfl, NSA, _, sset_same, ?_⟩
      rw [sset_sset, sdel_sset hxn]
      exact hx
    rw [rng_ch]
    refine ⟨_, .lst _, ?_⟩
    rw [hM]; clear hM M
    refine seq_cut fun M hM => ?_
    walk_at "wp"
    refine ⟨by omega, by omega, lcR (m := hs.length) (fun i => chO T.c_Chooser (hs.getD i ch0)) (by omega) (fun i μ2 X hi hsub hx => ?_) ?_⟩
    · walk_at "wp"
      have hcO := ra2 _ (List.getElem_mem hi)
      rw [List.getD_eq_getElem?_getD, List.getElem?_eq_getElem hi, Option.getD_some] at hx
      refine ⟨.int hs[i].n, ?_, rowD hs[i], atI_nat (by rw [List.getElem?_map, List.getElem?_eq_getElem hi]; rfl), fun x hxn => ?_⟩
      · rw [← rl2, natL_at (by rw [List.length_map]; exact hi), List.getD_eq_getElem?_getD, List.getElem?_map, List.getElem?_eq_getElem hi]; rfl
      refine ⟨x, hs[i], by rw [hcO.2]; rfl, hcO.1, sset_same, rfl, NSA, _, sset_same, ?_⟩
      rw [sset_sset, sdel_sset hxn]
      exact hx
    rw [rng_ch]
    refine ⟨_, .lst _, ?_⟩
    rw [hM]; clear hM M
    refine seq_cut fun M hM => ?_
    walk_at "wp"
    obtain ⟨F, hFd⟩ : ∃ F, F = behC f gs := ⟨_, rfl⟩
    obtain ⟨W, hW⟩ : ∃ W, W = behC F hs := ⟨_, rfl⟩
    rw [← hFd] at hF hbF hfolF
    have hFk : F.k = k := by rw [hFd, ← fk]; rfl
    have hFn : F.n = sumN gs := by rw [hFd]; rfl
    refine ⟨f, gs, by rw [fk, rl]; unfold rowD; rw [fr], hb, sg, ?_⟩
    rw [← hFd]
    refine ⟨F, hs, by rw [hFk, rl2], hbF, by rw [hFk, ← fk]; exact sh, ?_⟩
    rw [← hW]
    rw [hM]; clear hM M
    refine seq_cut fun M hM => ?_
    walk_at "wp"
    rw [natL_int]
    refine w_sumT ?_
    rw [nat_sum, ← natL_int]
    obtain ⟨N, hN⟩ : ∃ N, N = bs.sum := ⟨_, rfl⟩
    rw [← hN]
    have hWn : W.n = N := by rw [hW, hN, ← hsum2]; rfl
    have hWk : W.k = k := by rw [hW, ← hFk]; rfl
    have hWo : ChOk W := by rw [hW]; exact beh_ok hbF (by rw [hFk, ← fk]; exact sh)
    have hWl : W.row.length ≤ 1000 := by have := hWo.len; have := hWo.sm; omega
    have hfl : f.row.length ≤ 1000 := by have := hf.len; have := hf.sm; omega
    obtain ⟨Ps, hPs⟩ : ∃ Ps, Ps = parts gs hs := ⟨_, rfl⟩
    have hPl : Ps.length = gs.length := by rw [hPs, parts_len]
    have hPo : ∀ g ∈ Ps, ChOk g ∧ g.k = k := by rw [hPs]; exact parts_ok k1 ra ra2 hhl2 (by rw [← fk]; exact sh)
    have hPn : sumN Ps = sumN hs := by rw [hPs]; exact parts_sum hhl2
    have hPW : behC f Ps = W := by rw [hPs, hW, hFd]; exact (beh_assoc hb hhf hhl2 sh).symm
    have hfolP : Fol f Ps := ⟨by rw [hPl]; exact hfol.1, fun g hg => by rw [(hPo g hg).2, fk]⟩
    rw [hM]; clear hM M
    refine seq_cut fun M hM => ?_
    walk_at "wp"
    refine ⟨by decide, fun q hq => ?_⟩
    have nqp : q ≠ p := fun z => by rw [z, sset_same] at hq; cases hq
    rw [hM]; clear hM M
    refine seq_cut fun M hM => ?_
    walk_at "wp"
    rw [hM]; clear hM M
    refine seq_cut fun M hM => ?_
    walk_at "wp"
    refine ⟨by omega, by omega, fun i δ' μ' => ∃ x15 : Option D, δ' = [some (.hd (.ref p)), some (.int k), some (.lst [.tup (natL as), .tup (natL bs)]), some (.tup (natL as)), some (.int gs.length), some (.tup (r.map .int)), some (.lst (gs.map rowD)), some (.lst (hs.map rowD)), some (chO T.c_Chooser f), some (.tup (gs.map (chO T.c_Chooser))), some (.tup (hs.map (chO T.c_Chooser))), some (rowD W), some (.int N), some (.hd (.ref q)), some (.int ((as.take i).sum : Nat)), x15, none, none, none, none] ∧ μ' = sset (sset μ p (.lst c5)) q (.lst ((Ps.take i).map (chO T.c_Chooser))) ∧ i ≤ gs.length, ⟨none, rfl, rfl, Nat.zero_le _⟩, ?_, ?_⟩
    · rintro i d δ' μ' hi ⟨x15, rfl, rfl, _⟩
      obtain ⟨hi', rfl⟩ := rngD_get hi
      refine seq_cut fun M2 hM2 => ?_
      walk_at "wp"
      have hia : i < as.length := by omega
      obtain ⟨g, hg⟩ : ∃ g, g = gs[i] := ⟨_, rfl⟩
      have hgi : gs[i]? = some g := by rw [hg]; exact List.getElem?_eq_getElem hi'
      have hgk := ra g (List.mem_of_getElem? hgi)
      have hai : as[i]? = some g.n := by rw [← rl, List.getElem?_map, hgi]; rfl
      obtain ⟨Bn, hBn⟩ : ∃ Bn, Bn = (as.take i).sum := ⟨_, rfl⟩
      have hpre := pre_sum hai
      rw [← hBn] at hpre
      have hPi : Ps[i]? = some (behC g ((hs.drop Bn).take g.n)) := by rw [hPs, parts_get hgi, List.map_take, rl, ← hBn]
      obtain ⟨h0, eh0⟩ : ∃ h0, h0 = (hs.drop Bn).take g.n := ⟨_, rfl⟩
      rw [← eh0] at hPi
      have hh0 : ∀ a ∈ h0, ChOk a ∧ a.k = k := fun a ha => by rw [eh0] at ha; exact ra2 a (List.mem_of_mem_drop (List.mem_of_mem_take ha))
      have hPok := (hPo _ (List.mem_of_getElem? hPi)).1
      have hl0 : h0.length = g.n := by rw [eh0, List.length_take, List.length_drop]; omega
      have g8 := hgk.1.n8
      rw [← hBn]
      refine ⟨_, atI_nat (by rw [List.getElem?_map, hgi]; rfl), .int g.n, atI_nat (by unfold natL; rw [List.getElem?_map, hai]; rfl), ?_⟩
      walk_at "wp"
      rw [cut_mid, ← List.map_drop, ← List.map_take, ← eh0]
      have hfol0 : Fol g h0 := ⟨hl0, fun a ha => by rw [(hh0 a ha).2, hgk.2]⟩
      refine ⟨g, h0, rfl, hgk.1, fun a ha => (hh0 a ha).1, by omega, fun z => absurd hfol0 z, fun _ z => absurd ⟨hPok.n8, hPok.sm⟩ z, fun _ _ => ?_⟩
      refine ⟨_, sset_same, by rw [List.length_map, List.length_take]; omega, ?_⟩
      rw [hM2]; clear hM2 M2
      walk_at "wp"
      refine ⟨.int g.n, atI_nat (by unfold natL; rw [List.getElem?_map, hai]; rfl), ?_⟩
      walk_at "wp"
      refine ⟨some (.int (i : Int)), ?_, ?_, by omega⟩
      · have e2 : (as.take (i + 1)).sum = Bn + g.n := by rw [List.take_add_one, hai, List.sum_append, ← hBn]; simp
        rw [e2, Int.natCast_add]
      · rw [List.take_add_one, hPi, List.map_append]; rfl
    · rintro δ' μ' ⟨x15, rfl, rfl, _⟩
      rw [hM]; clear hM M
      refine seq_cut fun M hM => ?_
      walk_at "wp"
      rw [List.take_of_length_le (by omega : Ps.length ≤ gs.length)]
      have fin : ∀ x, ∃ μ2, DW.Sub μ2 (sset (sset μ p (.lst c5)) q x) ∧ Φ (.bl true) μ2 := fun x => ⟨_, Sub.set Sub.refl (by rw [sset_ne nqp] at hq ⊢; exact hq), h c5 sc⟩
      have fitsW : ∀ (Z : DK) (Y : XD → Sto → Prop) (μ' : Sto), Z (.bl true) μ' → c__law_fits T.c_Chooser [chO T.c_Chooser W, .int N, .int k, rowD W] μ' Z Y := fun Z Y μ' hZ => ⟨W, by rw [hWn, hWk], hWl, hZ⟩
      refine ⟨f, Ps, rfl, hf, fun g hg => (hPo g hg).1, by omega, fun z => absurd hfolP z, fun _ z => absurd (by rw [hPn]; exact sh) z, fun _ _ => ?_⟩
      rw [hPW]
      refine fitsW _ _ _ ⟨true, rfl, nofun, fun _ => ?_⟩
      rw [hM]; clear hM M
      refine seq_cut fun M hM => ?_
      walk_at "wp"
      refine ⟨f, gs, rfl, hf, hgo, by omega, fun z => absurd hfol z, fun _ z => absurd sg z, fun _ _ => ?_⟩
      rw [← hFd]
      refine ⟨F, hs, rfl, hF, hho, by omega, fun z => absurd hfolF z, fun _ z => absurd (by rw [hFk, ← fk]; exact sh) z, fun _ _ => ?_⟩
      rw [← hW]
      rw [hM]; clear hM M
      refine seq_cut fun M hM => ?_
      walk_at "wp"
      refine ⟨by decide, by omega, by omega, by decide, ?_⟩
      intro y hy
      have huo : ChOk (unitC k) := unit_ok k1 k4
      rw [show (List.replicate k [D.int 0]).flatten = (List.replicate k (0 : Int)).map D.int by rw [List.flatten_replicate_singleton, List.map_replicate]]
      refine ⟨y, unitC k, rfl, huo, sset_same, rfl, NSA, _, sset_same, ?_⟩
      rw [sset_sset, sdel_sset hy]
      clear hy y
      obtain ⟨u, hu⟩ : ∃ u, u = unitC k := ⟨_, rfl⟩
      rw [show D.obj T.c_Chooser NSA [D.int (unitC k).n, D.int (unitC k).k, D.tup ((unitC k).row.map D.int)] = chO T.c_Chooser u by rw [hu]; rfl]
      have hun : u.n = 1 := by rw [hu]; rfl
      have huk : u.k = k := by rw [hu]; rfl
      rw [← hu] at huo
      have putU : ∀ (g : Ch), ChOk g → g.k = k → behC u [g] = g := fun g hg hk => by
        have e := prod_beh u g
        rw [hun] at e
        rw [show [g] = List.replicate 1 g from rfl, e, hu, ← hk]
        exact unit_left hg
      have putR : ∀ (g : Ch), ChOk g → g.k = k → behC g (List.replicate g.n u) = g := fun g hg hk => by
        rw [prod_beh, hu, ← hk]
        exact unit_right hg
      rw [hM]; clear hM M
      refine seq_cut fun M hM => ?_
      walk_at "wp"
      refine fitsW _ _ _ ⟨true, rfl, nofun, fun _ => ?_⟩
      have fu : Fol u [W] := ⟨by rw [hun]; rfl, fun g hg => by rw [List.mem_singleton.mp hg, hWk, huk]⟩
      have hW8 := hWo.n8
      have hf8 := hf.n8
      have sW : smlC W.n k := by rw [← hWk]; exact ⟨hWo.n8, hWo.sm⟩
      have sf : smlC f.n k := by rw [← fk]; exact ⟨hf.n8, hf.sm⟩
      have e1 : sumN [W] = W.n := by unfold sumN; simp
      refine ⟨by decide, u, [W], rfl, huo, fun g hg => by rw [List.mem_singleton.mp hg]; exact hWo, by simp, fun z => absurd fu z, fun _ z => absurd (by rw [e1, huk]; exact sW) z, fun _ _ => ?_⟩
      rw [putU W hWo hWk]
      refine fitsW _ _ _ ⟨true, rfl, nofun, fun _ => ?_⟩
      have repU : ∀ m : Nat, (List.replicate m [chO T.c_Chooser u]).flatten = (List.replicate m u).map (chO T.c_Chooser) := fun m => by rw [List.flatten_replicate_singleton, List.map_replicate]
      have eR : ∀ m : Nat, sumN (List.replicate m u) = m := fun m => by unfold sumN; rw [List.map_replicate, rep_sum, hun, Nat.mul_one]
      have folR : ∀ g : Ch, g.k = k → Fol g (List.replicate g.n u) := fun g hg => ⟨List.length_replicate, fun a ha => by rw [List.eq_of_mem_replicate ha, huk, hg]⟩
      rw [hM]; clear hM M
      refine seq_cut fun M hM => ?_
      walk_at "wp"
      refine ⟨by decide, by omega, by omega, by decide, ?_⟩
      rw [repU, ← hWn]
      refine ⟨W, List.replicate W.n u, rfl, hWo, fun a ha => by rw [List.eq_of_mem_replicate ha]; exact huo, by rw [List.length_replicate]; omega, fun z => absurd (folR W hWk) z, fun _ z => absurd (by rw [eR, hWk]; exact sW) z, fun _ _ => ?_⟩
      rw [putR W hWo hWk, hWn]
      refine fitsW _ _ _ ⟨true, rfl, nofun, fun _ => ?_⟩
      rw [hM]; clear hM M
      walk_at "wps"
      have efn : f.n = gs.length := by rw [fn, hgl]
      have fitsf : ∀ (Z : DK) (Y : XD → Sto → Prop) (μ' : Sto), Z (.bl true) μ' → c__law_fits T.c_Chooser [chO T.c_Chooser f, .int gs.length, .int k, .tup (r.map .int)] μ' Z Y := fun Z Y μ' hZ => ⟨f, by rw [← efn, fk, ← fr]; rfl, hfl, hZ⟩
      refine fitsf _ _ _ ⟨true, rfl, fun _ => ⟨by decide, by omega, by omega, by decide, ?_⟩, nofun⟩
      rw [repU, ← efn]
      refine ⟨f, List.replicate f.n u, rfl, hf, fun a ha => by rw [List.eq_of_mem_replicate ha]; exact huo, by rw [List.length_replicate]; omega, fun z => absurd (folR f fk) z, fun _ z => absurd (by rw [eR, fk]; exact sf) z, fun _ _ => ?_⟩
      rw [putR f hf fk, efn]
      exact fitsf _ _ _ (fin _)
end
section
variable {P : Program} {w : World} {K : Fg} {mg : Str → Option Value} {base : Heap}
def prL : List Nat → Nat
  | [] => 1
  | s :: ss => s * prL ss
theorem prL_snoc : ∀ (l : List Nat) (s : Nat), prL (l ++ [s]) = prL l * s
  | [], s => by show s * 1 = 1 * s; omega
  | a :: l, s => by rw [List.cons_append, prL, prL_snoc l s, prL, Nat.mul_assoc]
theorem prL_pos : ∀ {l : List Nat}, (∀ s ∈ l, 1 ≤ s) → 1 ≤ prL l
  | [], _ => Nat.le_refl _
  | a :: l, h => Nat.mul_pos (h a List.mem_cons_self) (prL_pos fun s hs => h s (List.mem_cons_of_mem _ hs))
theorem prL_prN : ∀ cs : List Ch, prL (cs.map (·.n)) = prN cs
  | [] => rfl
  | c :: cs => by rw [List.map_cons, prL, prL_prN cs]; rfl
theorem prL_le : ∀ {l : List Nat} {s : Nat}, (∀ s ∈ l, 1 ≤ s) → s ∈ l → s ≤ prL l
  | [], _, _, h => by simp at h
  | a :: l, s, h, hs => by
    rcases List.mem_cons.mp hs with rfl | hs
    · exact Nat.le_mul_of_pos_right _ (prL_pos fun s hs => h s (List.mem_cons_of_mem _ hs))
    · exact Nat.le_trans (prL_le (fun s hs => h s (List.mem_cons_of_mem _ hs)) hs) (Nat.le_mul_of_pos_left _ (h a List.mem_cons_self))
structure TurnOk (k : Nat) (ss : List Nat) : Prop where
  l1 : 1 ≤ ss.length
  l4 : ss.length ≤ 4
  s1 : ∀ s ∈ ss, 1 ≤ s
  top : prL ss ≤ topN k
def c__law_sizes_in_turn : Con := fun ds μ Φ _ => ∃ (p : Addr) (ns : List Int) (c : List D) (k : Nat), ds = [.hd (.ref p), .int k] ∧ μ p = some (.lst c) ∧ StC ns c ∧ 1 ≤ k ∧ k ≤ 4 ∧ ∀ ss c', TurnOk k ss → StC ns c' → Φ (.lst (natL ss)) (sset μ p (.lst c'))
theorem len__law_sizes_in_turn {ds μ Φ Ψ} (h : c__law_sizes_in_turn ds μ Φ Ψ) : ds.length = 2 := by obtain ⟨_, _, _, _, rfl, _⟩ := h; rfl
theorem six_at {l : List D} {y : Int} (h0 : 0 ≤ y) (h1 : y < 6) (hl : ∃ a b c d e f : Nat, l = [.int a, .int b, .int c, .int d, .int e, .int f] ∧ (∀ z ∈ [a, b, c, d, e, f], 1 ≤ z ∧ z ≤ 4)) : ∃ z : Nat, atI l y = some (.int z) ∧ 1 ≤ z ∧ z ≤ 4 := by
  obtain ⟨a, b, c, d, e, f, rfl, h⟩ := hl
  obtain ⟨q, rfl⟩ : ∃ q : Nat, y = (q : Int) := ⟨y.toNat, by omega⟩
  rcases (show q = 0 ∨ q = 1 ∨ q = 2 ∨ q = 3 ∨ q = 4 ∨ q = 5 by omega) with rfl | rfl | rfl | rfl | rfl | rfl
  · exact ⟨a, atI_nat (j := 0) rfl, (h a (by simp)).1, (h a (by simp)).2⟩
  · exact ⟨b, atI_nat (j := 1) rfl, (h b (by simp)).1, (h b (by simp)).2⟩
  · exact ⟨c, atI_nat (j := 2) rfl, (h c (by simp)).1, (h c (by simp)).2⟩
  · exact ⟨d, atI_nat (j := 3) rfl, (h d (by simp)).1, (h d (by simp)).2⟩
  · exact ⟨e, atI_nat (j := 4) rfl, (h e (by simp)).1, (h e (by simp)).2⟩
  · exact ⟨f, atI_nat (j := 5) rfl, (h f (by simp)).1, (h f (by simp)).2⟩
theorem ok__law_sizes_in_turn {cx : CXT} (T : Txt P w K mg) : FnOk P w K mg base cx 3 T.f__law_sizes_in_turn T.d__law_sizes_in_turn ["_law_state", "_law_k"] (spOf K c__law_sizes_in_turn) := by
  refine def_okC T.F__law_sizes_in_turn sc__law_sizes_in_turn _ (fun ds μ Φ Ψ h => len__law_sizes_in_turn h) (fun cdv A outer s H E B hW hr =>
    ⟨_, (pss_cons (ps_set (i := 2) sc__law_sizes_in_turn.nd rfl (Or.inl rfl) (pe_callB (call_max2 rfl) (by rfl) T.z_max (by decide +kernel) (pa_cons (pe_call (ok__law_limit T) hr rfl T.g__law_limit T.F__law_limit.kp T.b__law_limit .nil passN (pa_cons (pv 0) (pa_cons (pv 1) pa_nil))) (pa_cons pe_int pa_nil))))
      (pss_cons (ps_set (i := 3) sc__law_sizes_in_turn.nd rfl (Or.inl rfl) (pe_lst pa_nil))
      (pss_cons (ps_for (passes_of rfl) rfl (pi_range1 rfl T.z_range (pa_cons (pe_ix ix_list (pe_lst (pa_cons pe_int (pa_cons pe_int (pa_cons pe_int (pa_cons pe_int (pa_cons pe_int (pa_cons pe_int pa_nil))))))) (pe_call (ok__law_pick T) (hr.mono (by decide)) rfl T.g__law_pick T.F__law_pick.kp T.b__law_pick .nil passN (pa_cons (pv 0) (pa_cons pe_int pa_nil))) (fun _ _ => rfl)) pa_nil)) (pg_name (i := 4) sc__law_sizes_in_turn.nd rfl (Or.inl rfl)) (pss_cons (ps_expr (pe_bm PySem.F.plainAttrs_list PySem.F.slot_list_append PySem.F.type_list_append mt_append (pv 3) (pa_cons (pe_callB (call_min2 rfl) (by rfl) T.z_min (by decide +kernel) (pa_cons (pv 2) (pa_cons (pe_ix ix_list (pe_lst (pa_cons pe_int (pa_cons pe_int (pa_cons pe_int (pa_cons pe_int (pa_cons pe_int (pa_cons pe_int pa_nil))))))) (pe_call (ok__law_pick T) (hr.mono (by decide)) rfl T.g__law_pick T.F__law_pick.kp T.b__law_pick .nil passN (pa_cons (pv 0) (pa_cons pe_int pa_nil))) (fun _ _ => rfl)) pa_nil))) pa_nil)))
      (pss_one (ps_set (i := 2) sc__law_sizes_in_turn.nd rfl (Or.inl rfl) (pe_op op_fdivW (pv 2) (pe_callB (call_max2 rfl) (by rfl) T.z_max (by decide +kernel) (pa_cons pe_int (pa_cons (pe_ix ix_list (pv 3) (pe_un un_neg pe_int) (fun _ _ => rfl)) pa_nil))))))))
      (pss_one (ps_ret (pv 3)))))),
      (sSeq (sAsg (sCB rcMax2 (sCons (sCall (sCons sVar (sCons sVar sNil))) (sCons sInt sNil))) sName)
      (sSeq (sAsg (sOwn sNil) sName)
      (sSeq (sFor (siR1 (sOp roIxL (sLst (sCons sInt (sCons sInt (sCons sInt (sCons sInt (sCons sInt (sCons sInt sNil))))))) (sCall (sCons sVar (sCons sInt sNil))))) (fun _ _ _ => sName) (fun _ _ _ => (sSeq (sDrop (sApp sVar (sCB rcMin2 (sCons sVar (sCons (sOp roIxL (sLst (sCons sInt (sCons sInt (sCons sInt (sCons sInt (sCons sInt (sCons sInt sNil))))))) (sCall (sCons sVar (sCons sInt sNil)))) sNil)))))
      (sAsg (sOp roInt sVar (sCB rcMax2 (sCons sInt (sCons (sOp roIxL sVar (sUn ruInt sInt)) sNil)))) sName))))
      (sRet sRest))))⟩) (fun ds μ Φ Ψ h => ?hv)
  case hv =>
    obtain ⟨p, ns, c, k, rfl, hst, sc, k1, k4, h⟩ := h
    obtain ⟨-, t1, t8⟩ := top_at k1 k4
    have t4 : 4 ≤ topN k := by rcases (show k = 1 ∨ k = 2 ∨ k = 3 ∨ k = 4 by omega) with rfl | rfl | rfl | rfl <;> decide
    refine seq_cut fun M hM => ?_
    walk_at "wp"
    refine ⟨p, ns, c, k, rfl, hst, sc, k1, k4, fun L0 c1 L3 Lt sc => ?_⟩
    walk_at "wp"
    refine ⟨_, _, rfl, ?_⟩
    obtain ⟨L, hL, hL4, hLt⟩ : ∃ L : Nat, (if (4 : Int) > (L0 : Int) then (4 : Int) else (L0 : Int)) = (L : Int) ∧ 4 ≤ L ∧ L ≤ topN k := ⟨max 4 L0, by split <;> omega, by omega, by omega⟩
    rw [hL]
    rw [hM]; clear hM M
    refine seq_cut fun M hM => ?_
    walk_at "wp"
    refine ⟨by decide, fun q hq => ?_⟩
    have nqp : q ≠ p := fun z => by rw [z, sset_same] at hq; cases hq
    have cm : ∀ (c c' d : List D), sset (sset (sset μ p (.lst c)) q (.lst d)) p (.lst c') = sset (sset μ p (.lst c')) q (.lst d) := fun c c' d => by rw [sset_comm nqp, sset_sset]
    have atp : ∀ (c d : List D), sset (sset μ p (.lst c)) q (.lst d) p = some (.lst c) := fun c d => by rw [sset_ne (Ne.symm nqp), sset_same]
    rw [hM]; clear hM M
    refine seq_cut fun M hM => ?_
    walk_at "wp"
    refine ⟨by decide, p, ns, c1, 6, rfl, atp _ _, sc, by decide, by decide, fun y c2 y0 y1 sc => ?_⟩
    rw [cm]
    obtain ⟨m, hm, m1, m4⟩ := six_at (l := [D.int 1, D.int 2, D.int 2, D.int 3, D.int 3, D.int 4]) y0 y1 ⟨1, 2, 2, 3, 3, 4, rfl, by decide⟩
    walk_at "wp"
    refine ⟨_, hm, ?_⟩
    walk_at "wp"
    refine ⟨by omega, by omega, fun i δ' μ' => ∃ (ss : List Nat) (c' : List D) (L' : Nat) (x : Option D), δ' = [some (.hd (.ref p)), some (.int k), some (.int L'), some (.hd (.ref q)), x] ∧ μ' = sset (sset μ p (.lst c')) q (.lst (natL ss)) ∧ ss.length = i ∧ i ≤ m ∧ (∀ s ∈ ss, 1 ≤ s) ∧ 1 ≤ L' ∧ prL ss * L' ≤ L ∧ StC ns c', ⟨[], c2, L, none, rfl, rfl, rfl, Nat.zero_le _, nofun, by omega, by rw [prL]; omega, sc⟩, ?_, ?_⟩
    · rintro i d δ' μ' hi ⟨ss, c3, L', x, rfl, rfl, hsl, _, hs1, hL1, hpr, sc⟩
      obtain ⟨hi', rfl⟩ := rngD_get hi
      walk_at "wps"
      refine ⟨by decide, p, ns, c3, 6, rfl, atp _ _, sc, by decide, by decide, fun y c4 y0 y1 sc => ?_⟩
      rw [cm]
      obtain ⟨x6, hx6, x61, x64⟩ := six_at (l := [D.int 2, D.int 2, D.int 1, D.int 3, D.int 2, D.int 4]) y0 y1 ⟨2, 2, 1, 3, 2, 4, rfl, by decide⟩
      walk_at "wp"
      refine ⟨_, hx6, ?_⟩
      walk_at "wp"
      obtain ⟨s, hs, hs1', hsL, hs4⟩ : ∃ s : Nat, (if (x6 : Int) < (L' : Int) then (x6 : Int) else (L' : Int)) = (s : Int) ∧ 1 ≤ s ∧ s ≤ L' ∧ s ≤ 4 := ⟨min x6 L', by split <;> omega, by omega, by omega, by omega⟩
      rw [hs]
      have hL'8 : L' ≤ 8 := by
        have := Nat.le_mul_of_pos_left L' (prL_pos hs1)
        omega
      have em : (if (s : Int) > 1 then (s : Int) else 1) = (s : Int) := by split <;> omega
      refine ⟨by rw [nl_len]; omega, .int s, DW.atI_last, ?_⟩
      refine ⟨_, _, rfl, ?_⟩
      rw [em]
      walk_at "wp"
      refine ⟨wide_div (b := 10) (by omega) (by omega) (by omega) (by omega), ss ++ [s], c4, L' / s, _, rfl, by unfold natL; rw [List.map_append]; rfl, by rw [List.length_append, hsl]; rfl, by omega, fun z hz => ?_, (Nat.le_div_iff_mul_le hs1').mpr (by omega), ?_, sc⟩
      · rcases List.mem_append.mp hz with hz | hz
        · exact hs1 z hz
        · rw [List.mem_singleton.mp hz]; exact hs1'
      · rw [prL_snoc, Nat.mul_assoc]
        exact Nat.le_trans (Nat.mul_le_mul_left _ (Nat.mul_div_le L' s)) hpr
    · rintro δ' μ' ⟨ss, c3, L', x, rfl, rfl, hsl, _, hs1, hL1, hpr, sc⟩
      rw [hM]; clear hM M
      walk_at "wps"
      have := Nat.le_trans (Nat.le_mul_of_pos_right (prL ss) hL1) hpr
      exact ⟨_, Sub.set Sub.refl (by rw [sset_ne nqp] at hq ⊢; exact hq), h ss c3 ⟨by omega, by omega, hs1, by omega⟩ sc⟩
def c__law_turned_row : Con := fun ds μ Φ _ => ∃ (k : Nat) (cs : List Ch), ds = [.lst (cs.map rowD), .lst (natL (cs.map (·.n))), .int k] ∧ cs ≠ [] ∧ cs.length ≤ 8 ∧ (∀ c ∈ cs, ChOk c ∧ c.k = k) ∧ smlC (prN cs) k ∧ Φ (rowD (turnC cs)) μ
theorem len__law_turned_row {ds μ Φ Ψ} (h : c__law_turned_row ds μ Φ Ψ) : ds.length = 3 := by obtain ⟨_, _, rfl, _⟩ := h; rfl
theorem ok__law_turned_row {cx : CXT} (T : Txt P w K mg) : FnOk P w K mg base cx 5 T.f__law_turned_row T.d__law_turned_row ["_law_rows", "_law_sizes", "_law_k"] (spOf K c__law_turned_row) := by
  refine def_okC T.F__law_turned_row sc__law_turned_row _ (fun ds μ Φ Ψ h => len__law_turned_row h) (fun cdv A outer s H E B hW hr =>
    ⟨_, (pss_cons (ps_set (i := 3) sc__law_turned_row.nd rfl (Or.inl rfl) (pe_ix ix_list (pv 0) (pe_un un_neg pe_int) (fun _ _ => rfl)))
      (pss_cons (ps_set (i := 4) sc__law_turned_row.nd rfl (Or.inl rfl) (pe_ix ix_list (pv 1) (pe_un un_neg pe_int) (fun _ _ => rfl)))
      (pss_cons (ps_for (passes_of rfl) rfl (pi_range2 rfl T.z_range (pa_cons pe_int (pa_cons (pe_callB call_len_seq (by rfl) T.z_len PySem.boot_len (pa_cons (pv 0) pa_nil)) pa_nil))) (pg_name (i := 5) sc__law_turned_row.nd rfl (Or.inl rfl)) (pss_cons (ps_set (i := 6) sc__law_turned_row.nd rfl (Or.inl rfl) (pe_ix ix_list (pv 1) (pe_op op_sub (pe_op op_sub (pe_callB call_len_seq (by rfl) T.z_len PySem.boot_len (pa_cons (pv 0) pa_nil)) pe_int) (pv 5)) (fun _ _ => rfl)))
      (pss_cons (ps_set (i := 3) sc__law_turned_row.nd rfl (Or.inl rfl) (pe_call (ok__law_put_row T) hr rfl T.g__law_put_row T.F__law_put_row.kp T.b__law_put_row .nil passN (pa_cons (pe_ix ix_list (pv 0) (pe_op op_sub (pe_op op_sub (pe_callB call_len_seq (by rfl) T.z_len PySem.boot_len (pa_cons (pv 0) pa_nil)) pe_int) (pv 5)) (fun _ _ => rfl)) (pa_cons (pe_op op_rep (pe_lst (pa_cons (pv 3) pa_nil)) (pv 6)) (pa_cons (pe_op op_repA (pe_tupN (pa_cons (pv 4) pa_nil)) (pv 6)) (pa_cons (pv 2) pa_nil))))))
      (pss_one (ps_set (i := 4) sc__law_turned_row.nd rfl (Or.inl rfl) (pe_op op_mulX (pv 4) (pv 6)))))))
      (pss_one (ps_ret (pv 3)))))),
      (sSeq (sAsg (sOp roIxL sVar (sUn ruInt sInt)) sName)
      (sSeq (sAsg (sOp roIxL sVar (sUn ruInt sInt)) sName)
      (sSeq (sFor (siR2 sInt (sCB rcLen (sCons sVar sNil))) (fun _ _ _ => sName) (fun _ _ _ => (sSeq (sAsg (sOp roIxL sVar (sOp roInt0 (sOp roInt0 (sCB rcLen (sCons sVar sNil)) sInt) sVar)) sName)
      (sSeq (sAsg (sCall (sCons (sOp roIxL sVar (sOp roInt0 (sOp roInt0 (sCB rcLen (sCons sVar sNil)) sInt) sVar)) (sCons (sOp roRepL (sLst (sCons sVar sNil)) sVar) (sCons (sOp roRepT (sTup (sCons sVar sNil)) sVar) (sCons sVar sNil))))) sName)
      (sAsg (sOp roInt sVar sVar) sName)))))
      (sRet sVar))))⟩) (fun ds μ Φ Ψ h => ?hv)
  case hv =>
    obtain ⟨k, A, rfl, hne, h8, hA, hs, h⟩ := h
    have hAl : 0 < A.length := List.length_pos_iff.mpr hne
    have hAo : ∀ g ∈ A, ChOk g := fun g hg => (hA g hg).1
    refine seq_cut fun M hM => ?_
    walk_at "wp"
    refine ⟨_, at_back hAl, ?_⟩
    have enn : natL (A.map (·.n)) = A.map fun c => D.int (c.n : Int) := by unfold natL; rw [List.map_map]; rfl
    have k1 : 1 ≤ k := by have := hA _ (List.getElem_mem hAl); rw [← this.2]; exact this.1.k1
    have k4 : k ≤ 4 := by have := hA _ (List.getElem_mem hAl); rw [← this.2]; exact this.1.k4
    rw [hM]; clear hM M
    refine seq_cut fun M hM => ?_
    walk_at "wp"
    refine ⟨_, by rw [enn]; exact at_back (f := fun c => D.int (c.n : Int)) hAl, ?_⟩
    rw [hM]; clear hM M
    refine seq_cut fun M hM => ?_
    walk_at "wp"
    have one : A.drop (A.length - 1) = [A[A.length - 1]'(by omega)] := by
      rw [List.drop_eq_getElem_cons (by omega), show A.length - 1 + 1 = A.length by omega, List.drop_length]
    refine ⟨1, A.length, rfl, rfl, by omega, fun i δ' μ' => ∃ (x4 x5 : Option D), μ' = μ ∧ i < A.length ∧ δ' = [some (.lst (A.map rowD)), some (.lst (natL (A.map (·.n)))), some (.int k), some (rowD (turnC (A.drop (A.length - 1 - i)))), some (.int (turnC (A.drop (A.length - 1 - i))).n), x4, x5], ⟨none, none, rfl, hAl, by rw [Nat.sub_zero, one]; rfl⟩, ?_, ?_⟩
    · rintro i d δ' μ' hi ⟨x4, x5, rfl, hia, rfl⟩
      obtain ⟨hi2, rfl⟩ := rngD_get hi
      have hi2 : i + 1 < A.length := by omega
      have hlt : A.length - 2 - i < A.length := by omega
      have hdr : A.drop (A.length - 2 - i) = A[A.length - 2 - i] :: A.drop (A.length - 1 - i) := by
        rw [List.drop_eq_getElem_cons hlt, show A.length - 2 - i + 1 = A.length - 1 - i by omega]
      obtain ⟨B, hB⟩ : ∃ B, B = A.drop (A.length - 1 - i) := ⟨_, rfl⟩
      have hBn : B ≠ [] := by rw [hB]; intro z; have := congrArg List.length z; rw [List.length_drop] at this; simp at this; omega
      have hBk : ∀ g ∈ B, ChOk g ∧ g.k = k := by rw [hB]; exact fun g hg => hA g (List.mem_of_mem_drop hg)
      have hsB : smlC (prN B) k := by rw [hB]; exact sml_mono k1 (prN_drop hAo _) hs
      obtain ⟨u1, u2, u3⟩ := turn_ok hBn hBk hsB
      obtain ⟨g, hg⟩ : ∃ g, g = A[A.length - 2 - i] := ⟨_, rfl⟩
      have hgk := hA _ (List.getElem_mem hlt)
      have hgi : A[A.length - 2 - i]? = some g := by rw [hg]; exact List.getElem?_eq_getElem hlt
      rw [← hB] at hdr
      rw [← hg] at hgk hdr
      have en : g.n * (turnC B).n = prN (A.drop (A.length - 2 - i)) := by rw [hdr, u3]; rfl
      have et : turnC (A.drop (A.length - 2 - i)) = prodC g (turnC B) := by
        rw [hdr]
        cases B with
        | nil => exact absurd rfl hBn
        | cons b B => rfl
      have sN : smlC (g.n * (turnC B).n) k := by rw [en]; exact sml_mono k1 (prN_drop hAo _) hs
      rw [← hB]
      obtain ⟨t, ht⟩ : ∃ t, t = turnC B := ⟨_, rfl⟩
      rw [← ht] at u1 u2 u3 en et sN ⊢
      have ei : (A.length : Int) - 1 - (1 + (i : Int)) = ((A.length - 2 - i : Nat) : Int) := by omega
      have g8 := hgk.1.n8
      have t8 := u1.n8
      refine seq_cut fun M2 hM2 => ?_
      walk_at "wp"
      rw [ei]
      refine ⟨.int g.n, atI_nat (by unfold natL; rw [List.map_map, List.getElem?_map, hgi]; rfl), ?_⟩
      rw [hM2]; clear hM2 M2
      refine seq_cut fun M2 hM2 => ?_
      walk_at "wp"
      rw [ei]
      refine ⟨rowD g, atI_nat (by rw [List.getElem?_map, hgi]; rfl), ?_⟩
      walk_at "wp"
      refine ⟨by decide, by omega, by omega, by omega, by decide, by omega, by omega, by decide, ?_⟩
      have ef : Fol g (List.replicate g.n t) := ⟨List.length_replicate, fun a ha => by rw [List.eq_of_mem_replicate ha, u2, hgk.2]⟩
      have eb : Beh g (List.replicate g.n t) := Fol.beh hgk.1 (fun a ha => by rw [List.eq_of_mem_replicate ha]; exact u1) ef
      have es : sumN (List.replicate g.n t) = g.n * t.n := by unfold sumN; rw [List.map_replicate, rep_sum]
      refine ⟨g, List.replicate g.n t, ?_, eb, by rw [es, hgk.2]; exact sN, ?_⟩
      · rw [List.flatten_replicate_singleton, List.flatten_replicate_singleton, List.map_replicate, List.map_replicate, hgk.2]
        unfold natL
        rw [List.map_replicate]
      rw [prod_beh, ← et]
      rw [hM2]; clear hM2 M2
      walk_at "wps"
      have e2 : A.length - 1 - (i + 1) = A.length - 2 - i := by omega
      refine ⟨mulx 10 10 (by omega) (by omega) (by decide), some (.int (1 + (i : Int))), some (.int g.n), by omega, ?_⟩
      rw [e2, et]
      have e3 : ((t.n : Int) * (g.n : Int)) = (((prodC g t).n : Nat) : Int) := by
        show _ = ((g.n * t.n : Nat) : Int)
        rw [Int.natCast_mul, Int.mul_comm]
      rw [e3]
    · rintro δ' μ' ⟨x4, x5, rfl, hia, rfl⟩
      have e0 : A.length - 1 - ((A.length : Int) - 1).toNat = 0 := by omega
      rw [e0, List.drop_zero]
      rw [hM]; clear hM M
      walk_at "wps"
      exact ret_same h
def c__law_in_turn (C S L : Addr) : Con := fun ds μ Φ Ψ => ∃ (c : Ch) (cs : List Ch), ds = [.lst ((c :: cs).map (chO C))] ∧ (∀ g ∈ c :: cs, ChOk g) ∧ cs.length ≤ 3 ∧ ((∃ g ∈ cs, g.k ≠ c.k) → Ψ (.mk S none) μ) ∧ ((∀ g ∈ cs, g.k = c.k) → ¬ smlC (prN (c :: cs)) c.k → Ψ (.mk L none) μ) ∧ ((∀ g ∈ cs, g.k = c.k) → smlC (prN (c :: cs)) c.k → Φ (chO C (turnC (c :: cs))) μ)
theorem len__law_in_turn {C S L ds μ Φ Ψ} (h : c__law_in_turn C S L ds μ Φ Ψ) : ds.length = 1 := by obtain ⟨_, _, rfl, _⟩ := h; rfl
theorem ok__law_in_turn (T : Txt P w K mg) : FnOk P w K mg base (L2N.CX P w) 14 T.f__law_in_turn T.d__law_in_turn ["_law_parts"] (spOf K (c__law_in_turn T.c_Chooser T.c_SizeMismatch T.c_TooLarge)) := by
  refine def_okC T.F__law_in_turn sc__law_in_turn _ (fun ds μ Φ Ψ h => len__law_in_turn h) (fun cdv A outer s H E B hW hr =>
    have tk : L2N.Takes (cxOf (L2N.CX P w) P w K mg base N__law_in_turn "_law_in_turn" (defScope s__law_in_turn) T.f__law_in_turn cdv A outer s H E) (fun cls d _ H => E cls d H) := L2N.takes_of rfl rfl rfl rfl
    ⟨_, (pss_cons (ps_if (pt_cmpR op_eq (pe_callB call_len_seq (by rfl) T.z_len PySem.boot_len (pa_cons (pv 0) pa_nil)) pe_int (nomark _)) (pss_one (ps_ret (pe_callSR (ok_put_in_turn T) hr rfl T.g_put_in_turn T.F_put_in_turn.kp (fun σ => L2N.passAt tk σ) (pa_cons (pe_ix ix_list (pv 0) pe_int (fun _ _ => rfl)) pa_nil)))) pss_nil)
      (pss_cons (ps_if (pt_cmpR op_eq (pe_callB call_len_seq (by rfl) T.z_len PySem.boot_len (pa_cons (pv 0) pa_nil)) pe_int (nomark _)) (pss_one (ps_ret (pe_callSR (ok_put_in_turn T) hr rfl T.g_put_in_turn T.F_put_in_turn.kp (fun σ => L2N.passAt tk σ) (pa_cons (pe_ix ix_list (pv 0) pe_int (fun _ _ => rfl)) (pa_cons (pe_ix ix_list (pv 0) pe_int (fun _ _ => rfl)) pa_nil))))) pss_nil)
      (pss_cons (ps_if (pt_cmpR op_eq (pe_callB call_len_seq (by rfl) T.z_len PySem.boot_len (pa_cons (pv 0) pa_nil)) pe_int (nomark _)) (pss_one (ps_ret (pe_callSR (ok_put_in_turn T) hr rfl T.g_put_in_turn T.F_put_in_turn.kp (fun σ => L2N.passAt tk σ) (pa_cons (pe_ix ix_list (pv 0) pe_int (fun _ _ => rfl)) (pa_cons (pe_ix ix_list (pv 0) pe_int (fun _ _ => rfl)) (pa_cons (pe_ix ix_list (pv 0) pe_int (fun _ _ => rfl)) pa_nil)))))) pss_nil)
      (pss_one (ps_ret (pe_callSR (ok_put_in_turn T) hr rfl T.g_put_in_turn T.F_put_in_turn.kp (fun σ => L2N.passAt tk σ) (pa_cons (pe_ix ix_list (pv 0) pe_int (fun _ _ => rfl)) (pa_cons (pe_ix ix_list (pv 0) pe_int (fun _ _ => rfl)) (pa_cons (pe_ix ix_list (pv 0) pe_int (fun _ _ => rfl)) (pa_cons (pe_ix ix_list (pv 0) pe_int (fun _ _ => rfl)) pa_nil)))))))))),
      (sSeq (sIfS (sTest (sOp roEq (sCB rcLen (sCons sVar sNil)) sInt)) (sRet (sCallRW (W := fun cls d _ H => E cls d H) (by exact hW) (sCons (sOp roIxL sVar sInt) sNil))) sNext)
      (sSeq (sIfS (sTest (sOp roEq (sCB rcLen (sCons sVar sNil)) sInt)) (sRet (sCallRW (W := fun cls d _ H => E cls d H) (by exact hW) (sCons (sOp roIxL sVar sInt) (sCons (sOp roIxL sVar sInt) sNil)))) sNext)
      (sSeq (sIfS (sTest (sOp roEq (sCB rcLen (sCons sVar sNil)) sInt)) (sRet (sCallRW (W := fun cls d _ H => E cls d H) (by exact hW) (sCons (sOp roIxL sVar sInt) (sCons (sOp roIxL sVar sInt) (sCons (sOp roIxL sVar sInt) sNil))))) sNext)
      (sRet (sCallRW (W := fun cls d _ H => E cls d H) (by exact hW) (sCons (sOp roIxL sVar sInt) (sCons (sOp roIxL sVar sInt) (sCons (sOp roIxL sVar sInt) (sCons (sOp roIxL sVar sInt) sNil)))))))))⟩) (fun ds μ Φ Ψ h => ?hv)
  case hv =>
    obtain ⟨c, cs, rfl, hok, hl, h1, h2, h3⟩ := h
    match cs, hl, hok, h1, h2, h3 with
    | [], _, hok, h1, h2, h3 =>
      refine seq_cut fun M hM => ?_
      walk_at "wp"
      refine ⟨fun _ => ⟨by decide, by decide, c, [], rfl, hok, by decide, fun q => ⟨_, Sub.refl, h1 q⟩, fun q1 q2 => ⟨_, Sub.refl, h2 q1 q2⟩, fun q1 q2 => ret_same (h3 q1 q2)⟩, fun q => absurd rfl q⟩
    | [d], _, hok, h1, h2, h3 =>
      refine seq_cut fun M hM => ?_
      walk_at "wp"
      refine ⟨fun q => absurd q (by decide), fun _ => ?_⟩
      show M [some (.lst [chO T.c_Chooser c, chO T.c_Chooser d])] μ
      rw [hM]; clear hM M
      refine seq_cut fun M hM => ?_
      walk_at "wp"
      refine ⟨fun _ => ⟨by decide, by decide, c, [d], rfl, hok, by simp, fun q => ⟨_, Sub.refl, h1 q⟩, fun q1 q2 => ⟨_, Sub.refl, h2 q1 q2⟩, fun q1 q2 => ret_same (h3 q1 q2)⟩, fun q => absurd rfl q⟩
    | [d, e], _, hok, h1, h2, h3 =>
      refine seq_cut fun M hM => ?_
      walk_at "wp"
      refine ⟨fun q => absurd q (by decide), fun _ => ?_⟩
      show M [some (.lst [chO T.c_Chooser c, chO T.c_Chooser d, chO T.c_Chooser e])] μ
      rw [hM]; clear hM M
      refine seq_cut fun M hM => ?_
      walk_at "wp"
      refine ⟨fun q => absurd q (by decide), fun _ => ?_⟩
      rw [hM]; clear hM M
      refine seq_cut fun M hM => ?_
      walk_at "wp"
      refine ⟨fun _ => ⟨by decide, by decide, c, [d, e], rfl, hok, by simp, fun q => ⟨_, Sub.refl, h1 q⟩, fun q1 q2 => ⟨_, Sub.refl, h2 q1 q2⟩, fun q1 q2 => ret_same (h3 q1 q2)⟩, fun q => absurd rfl q⟩
    | [d, e, f], _, hok, h1, h2, h3 =>
      refine seq_cut fun M hM => ?_
      walk_at "wp"
      refine ⟨fun q => absurd q (by decide), fun _ => ?_⟩
      show M [some (.lst [chO T.c_Chooser c, chO T.c_Chooser d, chO T.c_Chooser e, chO T.c_Chooser f])] μ
      rw [hM]; clear hM M
      refine seq_cut fun M hM => ?_
      walk_at "wp"
      refine ⟨fun q => absurd q (by decide), fun _ => ?_⟩
      rw [hM]; clear hM M
      refine seq_cut fun M hM => ?_
      walk_at "wp"
      refine ⟨fun q => absurd q (by decide), fun _ => ?_⟩
      rw [hM]; clear hM M
      walk_at "wps"
      exact ⟨by decide, by decide, c, [d, e, f], rfl, hok, by simp, fun q => ⟨_, Sub.refl, h1 q⟩, fun q1 q2 => ⟨_, Sub.refl, h2 q1 q2⟩, fun q1 q2 => ret_same (h3 q1 q2)⟩
def c__law_power (C L O : Addr) : Con := fun ds μ Φ Ψ => ∃ (f : Ch) (e : Nat), ds = [chO C f, .int e] ∧ ChOk f ∧ (e = 0 ∨ e = 1 ∨ e = 2 ∨ e = 3 ∨ e = 4 ∨ e = 8 ∨ e = 9 ∨ e = 10) ∧ (¬ (1 ≤ e ∧ e ≤ 8) → Ψ (.mk O none) μ) ∧ (1 ≤ e → e ≤ 8 → ¬ smlC (f.n ^ e) f.k → Ψ (.mk L none) μ) ∧ (1 ≤ e → e ≤ 8 → smlC (f.n ^ e) f.k → Φ (chO C (turnC (List.replicate e f))) μ)
theorem len__law_power {C L O ds μ Φ Ψ} (h : c__law_power C L O ds μ Φ Ψ) : ds.length = 2 := by obtain ⟨_, _, rfl, _⟩ := h; rfl
theorem ok__law_power (T : Txt P w K mg) : FnOk P w K mg base (L2N.CX P w) 14 T.f__law_power T.d__law_power ["_law_part", "_law_exponent"] (spOf K (c__law_power T.c_Chooser T.c_TooLarge T.c_OutOfRange)) := by
  refine def_okC T.F__law_power sc__law_power _ (fun ds μ Φ Ψ h => len__law_power h) (fun cdv A outer s H E B hW hr =>
    have tk : L2N.Takes (cxOf (L2N.CX P w) P w K mg base N__law_power "_law_power" (defScope s__law_power) T.f__law_power cdv A outer s H E) (fun cls d _ H => E cls d H) := L2N.takes_of rfl rfl rfl rfl
    ⟨_, (pss_cons (ps_if (pt_cmpR op_eq (pv 1) pe_int (nomark _)) (pss_one (ps_ret (pe_binXI T.sf_Chooser T.me_Chooser___pow__ T.rp_Chooser T.ip_Chooser.choose_spec T.jp_Chooser.choose_spec T.su_Chooser (ok_Chooser___pow__ T) (hr.mono (by decide)) T.b_Chooser___pow__ (fun σ => L2N.passAt tk σ) (pv 0) pe_int))) pss_nil)
      (pss_cons (ps_if (pt_cmpR op_eq (pv 1) pe_int (nomark _)) (pss_one (ps_ret (pe_binXI T.sf_Chooser T.me_Chooser___pow__ T.rp_Chooser T.ip_Chooser.choose_spec T.jp_Chooser.choose_spec T.su_Chooser (ok_Chooser___pow__ T) (hr.mono (by decide)) T.b_Chooser___pow__ (fun σ => L2N.passAt tk σ) (pv 0) pe_int))) pss_nil)
      (pss_cons (ps_if (pt_cmpR op_eq (pv 1) pe_int (nomark _)) (pss_one (ps_ret (pe_binXI T.sf_Chooser T.me_Chooser___pow__ T.rp_Chooser T.ip_Chooser.choose_spec T.jp_Chooser.choose_spec T.su_Chooser (ok_Chooser___pow__ T) (hr.mono (by decide)) T.b_Chooser___pow__ (fun σ => L2N.passAt tk σ) (pv 0) pe_int))) pss_nil)
      (pss_cons (ps_if (pt_cmpR op_eq (pv 1) pe_int (nomark _)) (pss_one (ps_ret (pe_binXI T.sf_Chooser T.me_Chooser___pow__ T.rp_Chooser T.ip_Chooser.choose_spec T.jp_Chooser.choose_spec T.su_Chooser (ok_Chooser___pow__ T) (hr.mono (by decide)) T.b_Chooser___pow__ (fun σ => L2N.passAt tk σ) (pv 0) pe_int))) pss_nil)
      (pss_cons (ps_if (pt_cmpR op_eq (pv 1) pe_int (nomark _)) (pss_one (ps_ret (pe_binXI T.sf_Chooser T.me_Chooser___pow__ T.rp_Chooser T.ip_Chooser.choose_spec T.jp_Chooser.choose_spec T.su_Chooser (ok_Chooser___pow__ T) (hr.mono (by decide)) T.b_Chooser___pow__ (fun σ => L2N.passAt tk σ) (pv 0) pe_int))) pss_nil)
      (pss_cons (ps_if (pt_cmpR op_eq (pv 1) pe_int (nomark _)) (pss_one (ps_ret (pe_binXI T.sf_Chooser T.me_Chooser___pow__ T.rp_Chooser T.ip_Chooser.choose_spec T.jp_Chooser.choose_spec T.su_Chooser (ok_Chooser___pow__ T) (hr.mono (by decide)) T.b_Chooser___pow__ (fun σ => L2N.passAt tk σ) (pv 0) pe_int))) pss_nil)
      (pss_cons (ps_if (pt_cmpR op_eq (pv 1) pe_int (nomark _)) (pss_one (ps_ret (pe_binXI T.sf_Chooser T.me_Chooser___pow__ T.rp_Chooser T.ip_Chooser.choose_spec T.jp_Chooser.choose_spec T.su_Chooser (ok_Chooser___pow__ T) (hr.mono (by decide)) T.b_Chooser___pow__ (fun σ => L2N.passAt tk σ) (pv 0) pe_int))) pss_nil)
      (pss_one (ps_ret (pe_binXI T.sf_Chooser T.me_Chooser___pow__ T.rp_Chooser T.ip_Chooser.choose_spec T.jp_Chooser.choose_spec T.su_Chooser (ok_Chooser___pow__ T) (hr.mono (by decide)) T.b_Chooser___pow__ (fun σ => L2N.passAt tk σ) (pv 0) pe_int)))))))))),
      (sSeq (sIfS (sTest (sOp roEq sVar sInt)) (sRet (sBinXI (NS := NSA) (W := fun cls d _ H => E cls d H) (by exact hW) sVar sInt)) sNext)
      (sSeq (sIfS (sTest (sOp roEq sVar sInt)) (sRet (sBinXI (NS := NSA) (W := fun cls d _ H => E cls d H) (by exact hW) sVar sInt)) sNext)
      (sSeq (sIfS (sTest (sOp roEq sVar sInt)) (sRet (sBinXI (NS := NSA) (W := fun cls d _ H => E cls d H) (by exact hW) sVar sInt)) sNext)
      (sSeq (sIfS (sTest (sOp roEq sVar sInt)) (sRet (sBinXI (NS := NSA) (W := fun cls d _ H => E cls d H) (by exact hW) sVar sInt)) sNext)
      (sSeq (sIfS (sTest (sOp roEq sVar sInt)) (sRet (sBinXI (NS := NSA) (W := fun cls d _ H => E cls d H) (by exact hW) sVar sInt)) sNext)
      (sSeq (sIfS (sTest (sOp roEq sVar sInt)) (sRet (sBinXI (NS := NSA) (W := fun cls d _ H => E cls d H) (by exact hW) sVar sInt)) sNext)
      (sSeq (sIfS (sTest (sOp roEq sVar sInt)) (sRet (sBinXI (NS := NSA) (W := fun cls d _ H => E cls d H) (by exact hW) sVar sInt)) sNext)
      (sRet (sBinXI (NS := NSA) (W := fun cls d _ H => E cls d H) (by exact hW) sVar sInt)))))))))⟩) (fun ds μ Φ Ψ h => ?hv)
  case hv =>
    obtain ⟨f, e, rfl, hf, he, h0, h1, h2⟩ := h
    rcases he with rfl | rfl | rfl | rfl | rfl | rfl | rfl | rfl
    · refine seq_cut fun M hM => ?_
      walk_at "wp"
      refine ⟨fun _ => ?_, fun q => absurd rfl q⟩
      refine ⟨_, 0, rfl, rfl, f, 0, rfl, hf, fun z => ⟨_, Sub.refl, h0 fun w => z ⟨by omega, by omega⟩⟩, fun j hj q1 q2 => ⟨fun z => ?_, fun z => ?_⟩⟩
      · obtain rfl : j = 0 := by omega
        exact ⟨_, Sub.refl, h1 q1 q2 z⟩
      · obtain rfl : j = 0 := by omega
        exact ⟨⟨_, _, _, rfl⟩, ret_same (h2 q1 q2 z)⟩
    · refine seq_cut fun M hM => ?_
      walk_at "wp"
      refine ⟨fun q => absurd q (by decide), fun _ => ?_⟩
      show M [some (chO T.c_Chooser f), some (.int (1 : Nat))] μ
      rw [hM]; clear hM M
      refine seq_cut fun M hM => ?_
      walk_at "wp"
      refine ⟨fun _ => ?_, fun q => absurd rfl q⟩
      refine ⟨_, 1, rfl, rfl, f, 1, rfl, hf, fun z => ⟨_, Sub.refl, h0 fun w => z ⟨by omega, by omega⟩⟩, fun j hj q1 q2 => ⟨fun z => ?_, fun z => ?_⟩⟩
      · obtain rfl : j = 1 := by omega
        exact ⟨_, Sub.refl, h1 q1 q2 z⟩
      · obtain rfl : j = 1 := by omega
        exact ⟨⟨_, _, _, rfl⟩, ret_same (h2 q1 q2 z)⟩
    · refine seq_cut fun M hM => ?_
      walk_at "wp"
      refine ⟨fun q => absurd q (by decide), fun _ => ?_⟩
      show M [some (chO T.c_Chooser f), some (.int (2 : Nat))] μ
      rw [hM]; clear hM M
      refine seq_cut fun M hM => ?_
      walk_at "wp"
      refine ⟨fun q => absurd q (by decide), fun _ => ?_⟩
      rw [hM]; clear hM M
      refine seq_cut fun M hM => ?_
      walk_at "wp"
      refine ⟨fun _ => ?_, fun q => absurd rfl q⟩
      refine ⟨_, 2, rfl, rfl, f, 2, rfl, hf, fun z => ⟨_, Sub.refl, h0 fun w => z ⟨by omega, by omega⟩⟩, fun j hj q1 q2 => ⟨fun z => ?_, fun z => ?_⟩⟩
      · obtain rfl : j = 2 := by omega
        exact ⟨_, Sub.refl, h1 q1 q2 z⟩
      · obtain rfl : j = 2 := by omega
        exact ⟨⟨_, _, _, rfl⟩, ret_same (h2 q1 q2 z)⟩
    · refine seq_cut fun M hM => ?_
      walk_at "wp"
      refine ⟨fun q => absurd q (by decide), fun _ => ?_⟩
      show M [some (chO T.c_Chooser f), some (.int (3 : Nat))] μ
      rw [hM]; clear hM M
      refine seq_cut fun M hM => ?_
      walk_at "wp"
      refine ⟨fun q => absurd q (by decide), fun _ => ?_⟩
      rw [hM]; clear hM M
      refine seq_cut fun M hM => ?_
      walk_at "wp"
      refine ⟨fun q => absurd q (by decide), fun _ => ?_⟩
      rw [hM]; clear hM M
      refine seq_cut fun M hM => ?_
      walk_at "wp"
      refine ⟨fun _ => ?_, fun q => absurd rfl q⟩
      refine ⟨_, 3, rfl, rfl, f, 3, rfl, hf, fun z => ⟨_, Sub.refl, h0 fun w => z ⟨by omega, by omega⟩⟩, fun j hj q1 q2 => ⟨fun z => ?_, fun z => ?_⟩⟩
      · obtain rfl : j = 3 := by omega
        exact ⟨_, Sub.refl, h1 q1 q2 z⟩
      · obtain rfl : j = 3 := by omega
        exact ⟨⟨_, _, _, rfl⟩, ret_same (h2 q1 q2 z)⟩
    · refine seq_cut fun M hM => ?_
      walk_at "wp"
      refine ⟨fun q => absurd q (by decide), fun _ => ?_⟩
      show M [some (chO T.c_Chooser f), some (.int (4 : Nat))] μ
      rw [hM]; clear hM M
      refine seq_cut fun M hM => ?_
      walk_at "wp"
      refine ⟨fun q => absurd q (by decide), fun _ => ?_⟩
      rw [hM]; clear hM M
      refine seq_cut fun M hM => ?_
      walk_at "wp"
      refine ⟨fun q => absurd q (by decide), fun _ => ?_⟩
      rw [hM]; clear hM M
      refine seq_cut fun M hM => ?_
      walk_at "wp"
      refine ⟨fun q => absurd q (by decide), fun _ => ?_⟩
      rw [hM]; clear hM M
      refine seq_cut fun M hM => ?_
      walk_at "wp"
      refine ⟨fun _ => ?_, fun q => absurd rfl q⟩
      refine ⟨_, 4, rfl, rfl, f, 4, rfl, hf, fun z => ⟨_, Sub.refl, h0 fun w => z ⟨by omega, by omega⟩⟩, fun j hj q1 q2 => ⟨fun z => ?_, fun z => ?_⟩⟩
      · obtain rfl : j = 4 := by omega
        exact ⟨_, Sub.refl, h1 q1 q2 z⟩
      · obtain rfl : j = 4 := by omega
        exact ⟨⟨_, _, _, rfl⟩, ret_same (h2 q1 q2 z)⟩
    · refine seq_cut fun M hM => ?_
      walk_at "wp"
      refine ⟨fun q => absurd q (by decide), fun _ => ?_⟩
      show M [some (chO T.c_Chooser f), some (.int (8 : Nat))] μ
      rw [hM]; clear hM M
      refine seq_cut fun M hM => ?_
      walk_at "wp"
      refine ⟨fun q => absurd q (by decide), fun _ => ?_⟩
      rw [hM]; clear hM M
      refine seq_cut fun M hM => ?_
      walk_at "wp"
      refine ⟨fun q => absurd q (by decide), fun _ => ?_⟩
      rw [hM]; clear hM M
      refine seq_cut fun M hM => ?_
      walk_at "wp"
      refine ⟨fun q => absurd q (by decide), fun _ => ?_⟩
      rw [hM]; clear hM M
      refine seq_cut fun M hM => ?_
      walk_at "wp"
      refine ⟨fun q => absurd q (by decide), fun _ => ?_⟩
      rw [hM]; clear hM M
      refine seq_cut fun M hM => ?_
      walk_at "wp"
      refine ⟨fun _ => ?_, fun q => absurd rfl q⟩
      refine ⟨_, 8, rfl, rfl, f, 8, rfl, hf, fun z => ⟨_, Sub.refl, h0 fun w => z ⟨by omega, by omega⟩⟩, fun j hj q1 q2 => ⟨fun z => ?_, fun z => ?_⟩⟩
      · obtain rfl : j = 8 := by omega
        exact ⟨_, Sub.refl, h1 q1 q2 z⟩
      · obtain rfl : j = 8 := by omega
        exact ⟨⟨_, _, _, rfl⟩, ret_same (h2 q1 q2 z)⟩
    · refine seq_cut fun M hM => ?_
      walk_at "wp"
      refine ⟨fun q => absurd q (by decide), fun _ => ?_⟩
      show M [some (chO T.c_Chooser f), some (.int (9 : Nat))] μ
      rw [hM]; clear hM M
      refine seq_cut fun M hM => ?_
      walk_at "wp"
      refine ⟨fun q => absurd q (by decide), fun _ => ?_⟩
      rw [hM]; clear hM M
      refine seq_cut fun M hM => ?_
      walk_at "wp"
      refine ⟨fun q => absurd q (by decide), fun _ => ?_⟩
      rw [hM]; clear hM M
      refine seq_cut fun M hM => ?_
      walk_at "wp"
      refine ⟨fun q => absurd q (by decide), fun _ => ?_⟩
      rw [hM]; clear hM M
      refine seq_cut fun M hM => ?_
      walk_at "wp"
      refine ⟨fun q => absurd q (by decide), fun _ => ?_⟩
      rw [hM]; clear hM M
      refine seq_cut fun M hM => ?_
      walk_at "wp"
      refine ⟨fun q => absurd q (by decide), fun _ => ?_⟩
      rw [hM]; clear hM M
      refine seq_cut fun M hM => ?_
      walk_at "wp"
      refine ⟨fun _ => ?_, fun q => absurd rfl q⟩
      refine ⟨_, 9, rfl, rfl, f, 9, rfl, hf, fun z => ⟨_, Sub.refl, h0 fun w => z ⟨by omega, by omega⟩⟩, fun j hj q1 q2 => ⟨fun z => ?_, fun z => ?_⟩⟩
      · obtain rfl : j = 9 := by omega
        exact ⟨_, Sub.refl, h1 q1 q2 z⟩
      · obtain rfl : j = 9 := by omega
        exact ⟨⟨_, _, _, rfl⟩, ret_same (h2 q1 q2 z)⟩
    · refine seq_cut fun M hM => ?_
      walk_at "wp"
      refine ⟨fun q => absurd q (by decide), fun _ => ?_⟩
      show M [some (chO T.c_Chooser f), some (.int (10 : Nat))] μ
      rw [hM]; clear hM M
      refine seq_cut fun M hM => ?_
      walk_at "wp"
      refine ⟨fun q => absurd q (by decide), fun _ => ?_⟩
      rw [hM]; clear hM M
      refine seq_cut fun M hM => ?_
      walk_at "wp"
      refine ⟨fun q => absurd q (by decide), fun _ => ?_⟩
      rw [hM]; clear hM M
      refine seq_cut fun M hM => ?_
      walk_at "wp"
      refine ⟨fun q => absurd q (by decide), fun _ => ?_⟩
      rw [hM]; clear hM M
      refine seq_cut fun M hM => ?_
      walk_at "wp"
      refine ⟨fun q => absurd q (by decide), fun _ => ?_⟩
      rw [hM]; clear hM M
      refine seq_cut fun M hM => ?_
      walk_at "wp"
      refine ⟨fun q => absurd q (by decide), fun _ => ?_⟩
      rw [hM]; clear hM M
      refine seq_cut fun M hM => ?_
      walk_at "wp"
      refine ⟨fun q => absurd q (by decide), fun _ => ?_⟩
      rw [hM]; clear hM M
      walk_at "wps"
      refine ⟨_, 10, rfl, rfl, f, 10, rfl, hf, fun z => ⟨_, Sub.refl, h0 fun w => z ⟨by omega, by omega⟩⟩, fun j hj q1 q2 => ⟨fun z => ?_, fun z => ?_⟩⟩
      · obtain rfl : j = 10 := by omega
        exact ⟨_, Sub.refl, h1 q1 q2 z⟩
      · obtain rfl : j = 10 := by omega
        exact ⟨⟨_, _, _, rfl⟩, ret_same (h2 q1 q2 z)⟩
end
section
variable {P : Program} {w : World} {K : Fg} {mg : Str → Option Value} {base : Heap}
theorem lcKinds {Ψ : XP} {Φ : DK} {δw : DEnv} {μ1 : Sto} {a : Nat} (bs : List Bool) (ha : a < δw.length) (hl : bs.length ≤ 1000) (hd : Φ (.lst ((bs.map fun b => (if b then (1 : Int) else 0)).map .int)) μ1) : LcG (eName a) dYes (dCB cInt (dCons (dVar a) dNil)) δw Ψ (bs.map D.bl) μ1 Φ := by
  refine lcG_mapN (fun i => .int (if bs.getD i false then 1 else 0)) (by rw [List.length_map]; omega) (fun i d μ2 X hi hsub hx => ?_) ?_
  · rw [List.getElem?_map, Option.map_eq_some_iff] at hi
    obtain ⟨b, hb, rfl⟩ := hi
    rw [List.getD_eq_getElem?_getD, hb, Option.getD_some] at hx
    simp only [u_cb, u_cons, u_nil, u_var, List.getElem?_set_self ha, Option.some.injEq, exists_eq_left']
    exact ⟨0, .inr ⟨b, rfl, hx⟩⟩
  · have e : ((List.range (bs.map D.bl).length).map fun i => D.int (if bs.getD i false then 1 else 0)) = (bs.map fun b => (if b then (1 : Int) else 0)).map .int := by
      apply List.ext_getElem
      · simp
      · intro i h1 h2
        simp at h1
        simp [List.getD_eq_getElem?_getD, List.getElem?_eq_getElem h1]
    rw [e]
    exact hd
def DoT (C : Addr) : Con := fun ds μ Φ _ => ∃ (c : Ch) (cs : List Ch) (d : D), ds = [.int 0, .lst ((c :: cs).map (chO C)), d] ∧ (∀ g ∈ c :: cs, ChOk g) ∧ cs.length ≤ 3 ∧ ((∃ g ∈ cs, g.k ≠ c.k) → Φ (refD 1) μ) ∧ ((∀ g ∈ cs, g.k = c.k) → ¬ smlC (prN (c :: cs)) c.k → Φ (refD 2) μ) ∧ ((∀ g ∈ cs, g.k = c.k) → smlC (prN (c :: cs)) c.k → Φ (chD (turnC (c :: cs))) μ)
def DoM (C : Addr) : Con := fun ds μ Φ _ => ∃ (f g : Ch), ds = [.int 1, chO C f, chO C g] ∧ ChOk f ∧ ChOk g ∧ (f.k ≠ g.k → Φ (refD 1) μ) ∧ (f.k = g.k → ¬ smlC (f.n * g.n) f.k → Φ (refD 2) μ) ∧ (f.k = g.k → smlC (f.n * g.n) f.k → Φ (chD (prodC f g)) μ)
def DoP (C : Addr) : Con := fun ds μ Φ _ => ∃ (f : Ch) (e : Nat), ds = [.int 2, chO C f, .int e] ∧ ChOk f ∧ (e = 0 ∨ e = 1 ∨ e = 2 ∨ e = 3 ∨ e = 4 ∨ e = 8 ∨ e = 9 ∨ e = 10) ∧ (¬ (1 ≤ e ∧ e ≤ 8) → Φ (refD 3) μ) ∧ (1 ≤ e → e ≤ 8 → ¬ smlC (f.n ^ e) f.k → Φ (refD 2) μ) ∧ (1 ≤ e → e ≤ 8 → smlC (f.n ^ e) f.k → Φ (chD (turnC (List.replicate e f))) μ)
def c__law_do (C : Addr) : Con := fun ds μ Φ Ψ => DoT C ds μ Φ Ψ ∨ DoM C ds μ Φ Ψ ∨ DoP C ds μ Φ Ψ
theorem len__law_do {C ds μ Φ Ψ} (h : c__law_do C ds μ Φ Ψ) : ds.length = 3 := by rcases h with ⟨_, _, _, rfl, _⟩ | ⟨_, _, rfl, _⟩ | ⟨_, _, rfl, _⟩ <;> rfl
theorem ok__law_do (T : Txt P w K mg) : FnOk P w K mg base (L2N.CX P w) 16 T.f__law_do T.d__law_do ["_law_door", "_law_first", "_law_second"] (spOf K (c__law_do T.c_Chooser)) := by
  refine def_okC T.F__law_do sc__law_do _ (fun ds μ Φ Ψ h => len__law_do h) (fun cdv A outer s H E B hW hr =>
    have tk : L2N.Takes (cxOf (L2N.CX P w) P w K mg base N__law_do "_law_do" (defScope s__law_do) T.f__law_do cdv A outer s H E) (fun cls d _ H => E cls d H) := L2N.takes_of rfl rfl rfl rfl
    ⟨_, (pss_one (L2N.ps_try_as (i := 3) rfl rfl sc__law_do.nd rfl rfl ⟨rfl, by decide, .inl T.g_ChoosersError⟩ tk (fun W pn xe tk pown => (pss_cons (ps_if (pt_cmpR op_eq (pv 0) pe_int (nomark _)) (pss_one (ps_set (i := 4) sc__law_do.nd rfl (Or.inl rfl) (pe_callS (ok__law_in_turn T) (hr.mono (by decide)) rfl T.g__law_in_turn T.F__law_in_turn.kp T.b__law_in_turn (fun σ => L2N.passAt tk σ) (pa_cons (pv 1) pa_nil)))) (pss_one (ps_if (pt_cmpR op_eq (pv 0) pe_int (nomark _)) (pss_one (ps_set (i := 4) sc__law_do.nd rfl (Or.inl rfl) (pe_binX T.sf_Chooser T.me_Chooser___mul__ (ok_Chooser___mul__ T) (hr.mono (by decide)) T.b_Chooser___mul__ (fun σ => L2N.passAt tk σ) (pv 1) (pv 2)))) (pss_one (ps_set (i := 4) sc__law_do.nd rfl (Or.inl rfl) (pe_callS (ok__law_power T) (hr.mono (by decide)) rfl T.g__law_power T.F__law_power.kp T.b__law_power (fun σ => L2N.passAt tk σ) (pa_cons (pv 1) (pa_cons (pv 2) pa_nil))))))))
      (pss_one (ps_ret (pe_tupN (pa_cons pe_str (pa_cons (pe_fld (pv 4) rfl) (pa_cons (pe_fld (pv 4) rfl) (pa_cons (pe_fld (pv 4) rfl) pa_nil)))))))))
      (fun a oe cls d pn hz hf => (pss_cons (ps_set (i := 5) sc__law_do.nd rfl (Or.inl rfl) (pe_lst (pa_cons (pe_callB (call_isH hz hf) (by rfl) T.z_isinstance (by decide +kernel) (pa_cons (pv 3) (pa_cons (pe_glob (v := .ref T.c_SizeMismatch) rfl T.g_SizeMismatch rfl) pa_nil))) (pa_cons (pe_callB (call_isH hz hf) (by rfl) T.z_isinstance (by decide +kernel) (pa_cons (pv 3) (pa_cons (pe_glob (v := .ref T.c_TooLarge) rfl T.g_TooLarge rfl) pa_nil))) (pa_cons (pe_callB (call_isH hz hf) (by rfl) T.z_isinstance (by decide +kernel) (pa_cons (pv 3) (pa_cons (pe_glob (v := .ref T.c_OutOfRange) rfl T.g_OutOfRange rfl) pa_nil))) pa_nil)))))
      (pss_cons (ps_set (i := 6) sc__law_do.nd rfl (Or.inl rfl) (pe_lst (pa_cons (pe_callB (call_isH hz hf) (by rfl) T.z_isinstance (by decide +kernel) (pa_cons (pv 3) (pa_cons (pe_glob (v := .ref T.c_InvalidTerm) rfl T.g_InvalidTerm rfl) pa_nil))) (pa_cons (pe_callB (call_isH hz hf) (by rfl) T.z_isinstance (by decide +kernel) (pa_cons (pv 3) (pa_cons (pe_glob (v := .ref T.c_InvalidChooser) rfl T.g_InvalidChooser rfl) pa_nil))) (pa_cons (pe_callB (call_isH hz hf) (by rfl) T.z_isinstance (by decide +kernel) (pa_cons (pv 3) (pa_cons (pe_glob (v := .ref T.c_InvalidContext) rfl T.g_InvalidContext rfl) pa_nil))) pa_nil)))))
      (pss_cons (ps_if (PW.pt (pw_or (pt_val (pe_callB (cr_anyH hz.2.2 hf) (by rfl) T.z_any (by decide +kernel) (pa_cons (pv 6) pa_nil))) (pw_or (pt_not (pt_val (pe_callB (call_isH hz hf) (by rfl) T.z_isinstance (by decide +kernel) (pa_cons (pv 3) (pa_cons (pe_bltn (v := .ty "ValueError") rfl T.z_ValueError (by decide +kernel) rfl) pa_nil))))) (pw_or1 (pt_cmpR op_ne (pe_callB (cr_sumH hz.2.2 hf) (by rfl) T.z_sum (by decide +kernel) (pa_cons (pe_lcH (own := [("_law_kind", 7)]) hz.2.2 hf sc__law_do.nd (pil_list (pv 5)) (blkOk_by (N := N__law_do) (sc := defScope s__law_do) (by decide +kernel)) (fun _ _ _ _ _ => (pg_name (i := 7) sc__law_do.nd rfl (Or.inl rfl))) (fun _ _ _ _ _ => pts_nil) (fun _ _ _ _ _ => (pe_callTy call_int1 (by rfl) T.z_int (by decide +kernel) (pa_cons (pv 7) pa_nil)))) pa_nil)) pe_int (nomark _)))))) (pss_one (ps_ret (pe_tupN (pa_cons pe_str (pa_cons pe_int pa_nil))))) pss_nil)
      (pss_one (ps_ret (pe_tupN (pa_cons pe_str (pa_cons (pe_op op_add pe_int (pe_bm PySem.F.plainAttrs_list PySem.F.slot_list_index PySem.F.type_list_index mt_index (pv 5) (pa_cons pe_bl pa_nil))) pa_nil))))))))))),
      (sTryAs (c := .ref T.c_ChoosersError) (i := 3) hW (fun W B hW => (sSeq (sIfS (sTest (sOp roEq sVar sInt)) (sAsg (sCallSW (W := W) (by exact hW) (sCons sVar sNil)) sName) (sIfS (sTest (sOp roEq sVar sInt)) (sAsg (sBinX (NS := NSA) (W := W) (by exact hW) sVar sVar) sName) (sAsg (sCallSW (W := W) (by exact hW) (sCons sVar (sCons sVar sNil))) sName)))
      (sRet (sTup (sCons sStr (sCons (sFldO (NS := NSA) (i := 0) T.cls_Chooser T.na_Chooser_options rfl (by decide) sVar) (sCons (sFldO (NS := NSA) (i := 1) T.cls_Chooser T.na_Chooser_outcomes rfl (by decide) sVar) (sCons (sFldO (NS := NSA) (i := 2) T.cls_Chooser T.na_Chooser_row rfl (by decide) sVar) sNil))))))))
      (fun a cls dd x B hW rx => (sSeq (sAsg (sLst (sCons (sIsE rx (sCons sVar (sCons sHd sNil))) (sCons (sIsE rx (sCons sVar (sCons sHd sNil))) (sCons (sIsE rx (sCons sVar (sCons sHd sNil))) sNil)))) sName)
      (sSeq (sAsg (sLst (sCons (sIsE rx (sCons sVar (sCons sHd sNil))) (sCons (sIsE rx (sCons sVar (sCons sHd sNil))) (sCons (sIsE rx (sCons sVar (sCons sHd sNil))) sNil)))) sName)
      (sSeq (sIfS (sOr (sB (sCB rcAny (sCons sVar sNil))) (sOr (sNot (sB (sIsE rx (sCons sVar (sCons sHd sNil))))) (sTest (sOp roNe (sCB rcSum (sCons (sLc (siL sVar) (gwName List.mem_cons_self) (fun _ _ _ => sName) (fun _ _ _ => sYes) (fun _ _ _ => (sCB rcInt (sCons sVar sNil)))) sNil)) sInt)))) (sRet (sTup (sCons sStr (sCons sInt sNil)))) sNext)
      (sRet (sTup (sCons sStr (sCons (sOp roInt0 sInt (sIdx sVar sBl)) sNil)))))))))⟩) (fun ds μ Φ Ψ h => ?hv)
  case hv =>
    rcases h with ⟨c, cs, d, rfl, hok, hl, h1, h2, h3⟩ | ⟨f, g, rfl, hf, hg, h1, h2, h3⟩ | ⟨f, e, rfl, hf, he, h1, h2, h3⟩
    · walk_at "wps"
      simp (config := { decide := true }) only [false_implies, true_implies, and_true, true_and, not_true_eq_false, not_false_eq_true]
      refine ⟨c, cs, rfl, hok, hl, fun z => ?_, fun z hs => ?_, fun z hs => ?_⟩
      · refine ⟨true, T.m_SizeMismatch_ChoosersError, fun _ p hp => ?_, nofun⟩
        refine ⟨true, T.i_SizeMismatch_SizeMismatch, T.ec_SizeMismatch, false, T.i_SizeMismatch_TooLarge, T.ec_SizeMismatch, false, T.i_SizeMismatch_OutOfRange, T.ec_SizeMismatch, false, T.i_SizeMismatch_InvalidTerm, T.ec_SizeMismatch, false, T.i_SizeMismatch_InvalidChooser, T.ec_SizeMismatch, false, T.i_SizeMismatch_InvalidContext, T.ec_SizeMismatch, ⟨[false, false, false], rfl, ?_⟩⟩
        refine ⟨_, rfl, nofun, fun _ => ⟨true, T.i_SizeMismatch_ValueError, T.ec_SizeMismatch, nofun, fun _ => ?_⟩⟩
        refine lcKinds [true, false, false] (by simp only [List.length_cons, List.length_nil]; decide) (by decide) (w_sumL ?_)
        walk_at "wps"
        refine ⟨nofun, fun _ => ⟨by decide, 0, .bl true, rfl, by decide, fun m z hm hz => ?_, ret_same (h1 z)⟩⟩
        exact absurd hm (Nat.not_lt_zero _)
      · refine ⟨true, T.m_TooLarge_ChoosersError, fun _ p hp => ?_, nofun⟩
        refine ⟨false, T.i_TooLarge_SizeMismatch, T.ec_TooLarge, true, T.i_TooLarge_TooLarge, T.ec_TooLarge, false, T.i_TooLarge_OutOfRange, T.ec_TooLarge, false, T.i_TooLarge_InvalidTerm, T.ec_TooLarge, false, T.i_TooLarge_InvalidChooser, T.ec_TooLarge, false, T.i_TooLarge_InvalidContext, T.ec_TooLarge, ⟨[false, false, false], rfl, ?_⟩⟩
        refine ⟨_, rfl, nofun, fun _ => ⟨true, T.i_TooLarge_ValueError, T.ec_TooLarge, nofun, fun _ => ?_⟩⟩
        refine lcKinds [false, true, false] (by simp only [List.length_cons, List.length_nil]; decide) (by decide) (w_sumL ?_)
        walk_at "wps"
        refine ⟨nofun, fun _ => ⟨by decide, 1, .bl true, rfl, by decide, fun m z hm hz => ?_, ret_same (h2 z hs)⟩⟩
        rcases (show m = 0 by omega) with rfl <;> (cases hz; rfl)
      · exact ⟨_, _, rfl, rfl, _, _, rfl, rfl, _, _, rfl, rfl, ret_same (h3 z hs)⟩
    · walk_at "wps"
      simp (config := { decide := true }) only [false_implies, true_implies, and_true, true_and, not_true_eq_false, not_false_eq_true]
      refine ⟨_, _, rfl, rfl, f, g, rfl, hf, hg, fun z => ?_, fun z hs => ?_, fun z hs => ?_⟩
      · refine ⟨true, T.m_SizeMismatch_ChoosersError, fun _ p hp => ?_, nofun⟩
        refine ⟨true, T.i_SizeMismatch_SizeMismatch, T.ec_SizeMismatch, false, T.i_SizeMismatch_TooLarge, T.ec_SizeMismatch, false, T.i_SizeMismatch_OutOfRange, T.ec_SizeMismatch, false, T.i_SizeMismatch_InvalidTerm, T.ec_SizeMismatch, false, T.i_SizeMismatch_InvalidChooser, T.ec_SizeMismatch, false, T.i_SizeMismatch_InvalidContext, T.ec_SizeMismatch, ⟨[false, false, false], rfl, ?_⟩⟩
        refine ⟨_, rfl, nofun, fun _ => ⟨true, T.i_SizeMismatch_ValueError, T.ec_SizeMismatch, nofun, fun _ => ?_⟩⟩
        refine lcKinds [true, false, false] (by simp only [List.length_cons, List.length_nil]; decide) (by decide) (w_sumL ?_)
        walk_at "wps"
        refine ⟨nofun, fun _ => ⟨by decide, 0, .bl true, rfl, by decide, fun m z hm hz => ?_, ret_same (h1 z)⟩⟩
        exact absurd hm (Nat.not_lt_zero _)
      · refine ⟨true, T.m_TooLarge_ChoosersError, fun _ p hp => ?_, nofun⟩
        refine ⟨false, T.i_TooLarge_SizeMismatch, T.ec_TooLarge, true, T.i_TooLarge_TooLarge, T.ec_TooLarge, false, T.i_TooLarge_OutOfRange, T.ec_TooLarge, false, T.i_TooLarge_InvalidTerm, T.ec_TooLarge, false, T.i_TooLarge_InvalidChooser, T.ec_TooLarge, false, T.i_TooLarge_InvalidContext, T.ec_TooLarge, ⟨[false, false, false], rfl, ?_⟩⟩
        refine ⟨_, rfl, nofun, fun _ => ⟨true, T.i_TooLarge_ValueError, T.ec_TooLarge, nofun, fun _ => ?_⟩⟩
        refine lcKinds [false, true, false] (by simp only [List.length_cons, List.length_nil]; decide) (by decide) (w_sumL ?_)
        walk_at "wps"
        refine ⟨nofun, fun _ => ⟨by decide, 1, .bl true, rfl, by decide, fun m z hm hz => ?_, ret_same (h2 z hs)⟩⟩
        rcases (show m = 0 by omega) with rfl <;> (cases hz; rfl)
      · exact ⟨⟨_, _, _, rfl⟩, _, _, rfl, rfl, _, _, rfl, rfl, _, _, rfl, rfl, ret_same (h3 z hs)⟩
    · walk_at "wps"
      simp (config := { decide := true }) only [false_implies, true_implies, and_true, true_and, not_true_eq_false, not_false_eq_true]
      refine ⟨f, e, rfl, hf, he, fun z => ?_, fun q1 q2 hs => ?_, fun q1 q2 hs => ?_⟩
      · refine ⟨true, T.m_OutOfRange_ChoosersError, fun _ p hp => ?_, nofun⟩
        refine ⟨false, T.i_OutOfRange_SizeMismatch, T.ec_OutOfRange, false, T.i_OutOfRange_TooLarge, T.ec_OutOfRange, true, T.i_OutOfRange_OutOfRange, T.ec_OutOfRange, false, T.i_OutOfRange_InvalidTerm, T.ec_OutOfRange, false, T.i_OutOfRange_InvalidChooser, T.ec_OutOfRange, false, T.i_OutOfRange_InvalidContext, T.ec_OutOfRange, ⟨[false, false, false], rfl, ?_⟩⟩
        refine ⟨_, rfl, nofun, fun _ => ⟨true, T.i_OutOfRange_ValueError, T.ec_OutOfRange, nofun, fun _ => ?_⟩⟩
        refine lcKinds [false, false, true] (by simp only [List.length_cons, List.length_nil]; decide) (by decide) (w_sumL ?_)
        walk_at "wps"
        refine ⟨nofun, fun _ => ⟨by decide, 2, .bl true, rfl, by decide, fun m z hm hz => ?_, ret_same (h1 z)⟩⟩
        rcases (show m = 0 ∨ m = 1 by omega) with rfl | rfl <;> (cases hz; rfl)
      · refine ⟨true, T.m_TooLarge_ChoosersError, fun _ p hp => ?_, nofun⟩
        refine ⟨false, T.i_TooLarge_SizeMismatch, T.ec_TooLarge, true, T.i_TooLarge_TooLarge, T.ec_TooLarge, false, T.i_TooLarge_OutOfRange, T.ec_TooLarge, false, T.i_TooLarge_InvalidTerm, T.ec_TooLarge, false, T.i_TooLarge_InvalidChooser, T.ec_TooLarge, false, T.i_TooLarge_InvalidContext, T.ec_TooLarge, ⟨[false, false, false], rfl, ?_⟩⟩
        refine ⟨_, rfl, nofun, fun _ => ⟨true, T.i_TooLarge_ValueError, T.ec_TooLarge, nofun, fun _ => ?_⟩⟩
        refine lcKinds [false, true, false] (by simp only [List.length_cons, List.length_nil]; decide) (by decide) (w_sumL ?_)
        walk_at "wps"
        refine ⟨nofun, fun _ => ⟨by decide, 1, .bl true, rfl, by decide, fun m z hm hz => ?_, ret_same (h2 q1 q2 hs)⟩⟩
        rcases (show m = 0 by omega) with rfl <;> (cases hz; rfl)
      · exact ⟨_, _, rfl, rfl, _, _, rfl, rfl, _, _, rfl, rfl, ret_same (h3 q1 q2 hs)⟩
end
section
variable {P : Program} {w : World} {K : Fg} {mg : Str → Option Value} {base : Heap}
theorem sml_top {k N : Nat} (k1 : 1 ≤ k) (k4 : k ≤ 4) : smlC N k ↔ N ≤ topN k := ⟨fun s => Classical.byContradiction fun z => big_not k1 k4 (by omega) s, fun h => top_small k1 k4 h⟩
theorem prL_app : ∀ (a b : List Nat), prL (a ++ b) = prL a * prL b
  | [], b => (Nat.one_mul _).symm
  | x :: a, b => by rw [List.cons_append, prL, prL_app a b, prL, Nat.mul_assoc]
theorem prL_take {l : List Nat} (h : ∀ s ∈ l, 1 ≤ s) (i : Nat) : prL (l.take i) ≤ prL l := by
  have e : prL l = prL (l.take i) * prL (l.drop i) := by rw [← prL_app, List.take_append_drop]
  rw [e]
  exact Nat.le_mul_of_pos_right _ (prL_pos fun s hs => h s (List.mem_of_mem_drop hs))
def c__law_powers (C : Addr) : Con := fun ds μ Φ _ => ∃ (p : Addr) (ns : List Int) (c : List D) (f : Ch), ds = [.hd (.ref p), chO C f, .int f.n, rowD f, .int f.k] ∧ μ p = some (.lst c) ∧ StC ns c ∧ ChOk f ∧ ∀ c', StC ns c' → Φ (.bl true) (sset μ p (.lst c'))
theorem len__law_powers {C ds μ Φ Ψ} (h : c__law_powers C ds μ Φ Ψ) : ds.length = 5 := by obtain ⟨_, _, _, _, rfl, _⟩ := h; rfl
theorem ok__law_powers (T : Txt P w K mg) : FnOk P w K mg base (L2N.CX P w) 18 T.f__law_powers T.d__law_powers ["_law_state", "_law_part", "_law_n", "_law_row_here", "_law_k"] (spOf K (c__law_powers T.c_Chooser)) := by
  refine def_okC T.F__law_powers sc__law_powers _ (fun ds μ Φ Ψ h => len__law_powers h) (fun cdv A outer s H E B hW hr =>
    have tk : L2N.Takes (cxOf (L2N.CX P w) P w K mg base N__law_powers "_law_powers" (defScope s__law_powers) T.f__law_powers cdv A outer s H E) (fun cls d _ H => E cls d H) := L2N.takes_of rfl rfl rfl rfl
    ⟨_, (pss_cons (ps_set (i := 5) sc__law_powers.nd rfl (Or.inl rfl) (pe_ix ix_list (pe_lst (pa_cons pe_int (pa_cons pe_int (pa_cons pe_int (pa_cons pe_int (pa_cons pe_int pa_nil)))))) (pe_call (ok__law_pick T) (hr.mono (by decide)) rfl T.g__law_pick T.F__law_pick.kp T.b__law_pick .nil passN (pa_cons (pv 0) (pa_cons pe_int pa_nil))) (fun _ _ => rfl)))
      (pss_cons (ps_set (i := 6) sc__law_powers.nd rfl (Or.inl rfl) pe_int)
      (pss_cons (ps_for (passes_of rfl) rfl (pi_range1 rfl T.z_range (pa_cons (pv 5) pa_nil)) (pg_name (i := 7) sc__law_powers.nd rfl (Or.inl rfl)) (pss_one (ps_set (i := 6) sc__law_powers.nd rfl (Or.inl rfl) (pe_op op_mulX (pv 6) (pv 2)))))
      (pss_cons (ps_set (i := 8) sc__law_powers.nd rfl (Or.inl rfl) (pe_tupN (pa_cons pe_str (pa_cons pe_int pa_nil))))
      (pss_cons (ps_if (pt_cmpR op_le (pv 6) (pe_ix ix_list (pe_lst (pa_cons pe_int (pa_cons pe_int (pa_cons pe_int (pa_cons pe_int pa_nil))))) (pe_op op_sub (pv 4) pe_int) (fun _ _ => rfl)) (nomark _)) (pss_one (ps_set (i := 8) sc__law_powers.nd rfl (Or.inl rfl) (pe_tupN (pa_cons pe_str (pa_cons (pv 6) (pa_cons (pv 4) (pa_cons (pe_call (ok__law_turned_row T) (hr.mono (by decide)) rfl T.g__law_turned_row T.F__law_turned_row.kp T.b__law_turned_row .nil passN (pa_cons (pe_op op_rep (pe_lst (pa_cons (pv 3) pa_nil)) (pv 5)) (pa_cons (pe_op op_rep (pe_lst (pa_cons (pv 2) pa_nil)) (pv 5)) (pa_cons (pv 4) pa_nil)))) pa_nil))))))) pss_nil)
      (pss_one (ps_ret (pe_call (ok__law_same T) (hr.mono (by decide)) rfl T.g__law_same T.F__law_same.kp T.b__law_same .nil passN (pa_cons (pe_call (ok__law_do T) (hr.mono (by decide)) rfl T.g__law_do T.F__law_do.kp T.b__law_do .nil passN (pa_cons pe_int (pa_cons (pv 1) (pa_cons (pv 5) pa_nil)))) (pa_cons (pv 8) pa_nil)))))))))),
      (sSeq (sAsg (sOp roIxL (sLst (sCons sInt (sCons sInt (sCons sInt (sCons sInt (sCons sInt sNil)))))) (sCall (sCons sVar (sCons sInt sNil)))) sName)
      (sSeq (sAsg sInt sName)
      (sSeq (sFor (siR1 sVar) (fun _ _ _ => sName) (fun _ _ _ => (sAsg (sOp roInt sVar sVar) sName)))
      (sSeq (sAsg (sTup (sCons sStr (sCons sInt sNil))) sName)
      (sSeq (sIfS (sTest (sOp roBl0 sVar (sOp roIxL (sLst (sCons sInt (sCons sInt (sCons sInt (sCons sInt sNil))))) (sOp roInt0 sVar sInt)))) (sAsg (sTup (sCons sStr (sCons sVar (sCons sVar (sCons (sCall (sCons (sOp roRepL (sLst (sCons sVar sNil)) sVar) (sCons (sOp roRepL (sLst (sCons sVar sNil)) sVar) (sCons sVar sNil)))) sNil))))) sName) sNext)
      (sRet (sCall (sCons (sCall (sCons sInt (sCons sVar (sCons sVar sNil)))) (sCons sVar sNil)))))))))⟩) (fun ds μ Φ Ψ h => ?hv)
  case hv =>
    obtain ⟨p, ns, c, f, rfl, hst, sc, hf, h⟩ := h
    have k1 := hf.k1
    have k4 := hf.k4
    have f8 := hf.n8
    have f1 := hf.n1
    refine seq_cut fun M hM => ?_
    walk_at "wp"
    refine ⟨by decide, p, ns, c, 5, rfl, hst, sc, by decide, by decide, fun y c1 y0 y1 sc => ?_⟩
    obtain ⟨e, he, hee⟩ : ∃ e : Nat, atI [D.int 1, D.int 2, D.int 3, D.int 4, D.int 8] y = some (.int e) ∧ (e = 1 ∨ e = 2 ∨ e = 3 ∨ e = 4 ∨ e = 8) := by
      obtain ⟨q, rfl⟩ : ∃ q : Nat, y = (q : Int) := ⟨y.toNat, by omega⟩
      rcases (show q = 0 ∨ q = 1 ∨ q = 2 ∨ q = 3 ∨ q = 4 by omega) with rfl | rfl | rfl | rfl | rfl
      · exact ⟨1, atI_nat (j := 0) rfl, by simp⟩
      · exact ⟨2, atI_nat (j := 1) rfl, by simp⟩
      · exact ⟨3, atI_nat (j := 2) rfl, by simp⟩
      · exact ⟨4, atI_nat (j := 3) rfl, by simp⟩
      · exact ⟨8, atI_nat (j := 4) rfl, by simp⟩
    have e1 : 1 ≤ e := by omega
    have e8 : e ≤ 8 := by omega
    walk_at "wp"
    refine ⟨_, he, ?_⟩
    rw [hM]; clear hM M
    refine seq_cut fun M hM => ?_
    walk_at "wp"
    rw [hM]; clear hM M
    refine seq_cut fun M hM => ?_
    walk_at "wp"
    have pb : ∀ i, i ≤ 8 → f.n ^ i ≤ 8 ^ 8 := fun i hi => Nat.le_trans (Nat.pow_le_pow_left f8 i) (Nat.pow_le_pow_right (by decide) hi)
    refine ⟨by omega, by omega, fun i δ' μ' => ∃ (x7 x8 : Option D), μ' = sset μ p (.lst c1) ∧ i ≤ e ∧ δ' = [some (.hd (.ref p)), some (chO T.c_Chooser f), some (.int f.n), some (rowD f), some (.int f.k), some (.int e), some (.int ((f.n ^ i : Nat) : Int)), x7, x8], ⟨none, none, rfl, Nat.zero_le _, rfl⟩, ?_, ?_⟩
    · rintro i d δ' μ' hi ⟨x7, x8, rfl, _, rfl⟩
      obtain ⟨hi2, rfl⟩ := rngD_get hi
      have := pb i (by omega)
      walk_at "wps"
      exact ⟨mulx 30 10 (by rw [Int.natAbs_natCast]; exact Nat.lt_of_le_of_lt this (by decide)) (by rw [Int.natAbs_natCast]; exact Nat.lt_of_le_of_lt f8 (by decide)) (by decide), _, _, hi2, by rw [Nat.pow_succ, Int.natCast_mul]⟩
    · rintro δ' μ' ⟨x7, x8, rfl, _, rfl⟩
      have hbig := pb e e8
      rw [hM]; clear hM M
      refine seq_cut fun M hM => ?_
      walk_at "wp"
      refine ⟨by decide, ?_⟩
      obtain ⟨et, et1, et8⟩ := top_at k1 k4
      have hep : prN (List.replicate e f) = f.n ^ e := prN_rep f e
      have hne : List.replicate e f ≠ [] := fun z => by have := congrArg List.length z; rw [List.length_replicate] at this; simp at this; omega
      have hall : ∀ c ∈ List.replicate e f, ChOk c ∧ c.k = f.k := fun c hc => by rw [List.eq_of_mem_replicate hc]; exact ⟨hf, rfl⟩
      have doP : ∀ (Z : DK) (Y : XD → Sto → Prop) (μ' : Sto), (¬ smlC (f.n ^ e) f.k → Z (refD 2) μ') → (smlC (f.n ^ e) f.k → Z (chD (turnC (List.replicate e f))) μ') → c__law_do T.c_Chooser [.int 2, chO T.c_Chooser f, .int e] μ' Z Y := fun Z Y μ' h1 h2 =>
        .inr (.inr ⟨f, e, rfl, hf, by omega, fun z => absurd ⟨e1, e8⟩ z, fun _ _ z => h1 z, fun _ _ z => h2 z⟩)
      obtain ⟨m, hm⟩ : ∃ m, m = f.n ^ e := ⟨_, rfl⟩
      rw [← hm] at hep hbig doP ⊢
      rw [hM]; clear hM M
      refine seq_cut fun M hM => ?_
      walk_at "wp"
      refine ⟨by decide, _, et, ?_⟩
      walk_at "wp"
      refine ⟨fun q => ?_, fun q => ?_⟩
      · have hs : smlC m f.k := (sml_top k1 k4).mpr (by simpa using q)
        obtain ⟨u1, u2, u3⟩ := turn_ok hne hall (by rw [hep]; exact hs)
        refine ⟨by decide, by omega, by omega, by omega, by decide, by omega, by omega, by omega, ?_⟩
        refine ⟨f.k, List.replicate e f, ?_, hne, by rw [List.length_replicate]; exact e8, hall, by rw [hep]; exact hs, ?_⟩
        · rw [List.flatten_replicate_singleton, List.flatten_replicate_singleton, List.map_replicate, List.map_replicate]
          unfold natL
          rw [List.map_replicate]
        refine ⟨by decide, ?_⟩
        obtain ⟨W, hW⟩ : ∃ W, W = turnC (List.replicate e f) := ⟨_, rfl⟩
        rw [← hW] at u1 u2 u3 doP ⊢
        have hWl : W.row.length ≤ 1000 := by have := u1.len; have := u1.sm; omega
        rw [show D.tup [D.str "chooser", D.int (m : Int), D.int (f.k : Int), rowD W] = chD W by unfold chD rowD; rw [u2, u3, hep]]
        rw [hM]; clear hM M
        walk_at "wps"
        exact doP _ _ _ (fun z => absurd hs z) fun _ => same_ch hWl (ret_same (h c1 sc))
      · have hs : ¬ smlC m f.k := fun z => by have := (sml_top k1 k4).mp z; simp at q; omega
        rw [hM]; clear hM M
        walk_at "wps"
        exact doP _ _ _ (fun _ => same_ref (ret_same (h c1 sc))) fun z => absurd z hs
theorem turn_snoc {k : Nat} : ∀ {A : List Ch} {d : Ch}, A ≠ [] → (∀ c ∈ A ++ [d], ChOk c ∧ c.k = k) → smlC (prN (A ++ [d])) k → prodC (turnC A) d = turnC (A ++ [d])
  | [], _, h, _, _ => absurd rfl h
  | [a], d, _, _, _ => rfl
  | a :: b :: A, d, _, h, s => by
    have ha := h a (by simp)
    have hd := h d (by simp)
    have k1 : 1 ≤ k := by rw [← ha.2]; exact ha.1.k1
    have ht : ∀ c ∈ (b :: A) ++ [d], ChOk c ∧ c.k = k := fun c hc => h c (List.mem_cons_of_mem _ hc)
    have st : smlC (prN ((b :: A) ++ [d])) k := sml_mono k1 (prN_tail ha.1) s
    have ih := turn_snoc (A := b :: A) (d := d) (by nofun) ht st
    have hbA : ∀ c ∈ b :: A, ChOk c ∧ c.k = k := fun c hc => ht c (List.mem_append_left _ hc)
    have epr : prN ((b :: A) ++ [d]) = prN (b :: A) * d.n := by rw [← prL_prN, ← prL_prN, List.map_append, List.map_singleton, prL_snoc]
    have sbA : smlC (prN (b :: A)) k := sml_mono k1 (by rw [epr]; exact Nat.le_mul_of_pos_right _ hd.1.n1) st
    obtain ⟨t1, t2, t3⟩ := turn_ok (by nofun) hbA sbA
    have ea : prN (a :: b :: A ++ [d]) = a.n * (prN (b :: A) * d.n) := by rw [← epr]; rfl
    show prodC (prodC a (turnC (b :: A))) d = prodC a (turnC ((b :: A) ++ [d]))
    rw [← ih]
    refine prod_assoc ha.1 t1 hd.1 (by rw [ha.2, t2]) (by rw [ha.2, hd.2]) ?_ ?_ ?_
    · rw [t3, ha.2]; exact sml_mono k1 (by rw [ea]; exact Nat.mul_le_mul_left _ (Nat.le_mul_of_pos_right _ hd.1.n1)) s
    · rw [t3, t2, ← epr]; exact st
    · rw [t3, ha.2, ← ea]; exact s
def c__law_products (C : Addr) : Con := fun ds μ Φ _ => ∃ (p : Addr) (ns : List Int) (c : List D) (k : Nat), ds = [.hd (.ref p), .int k] ∧ μ p = some (.lst c) ∧ StC ns c ∧ 1 ≤ k ∧ k ≤ 4 ∧ ∀ c', StC ns c' → Φ (.bl true) (sset μ p (.lst c'))
theorem len__law_products {C ds μ Φ Ψ} (h : c__law_products C ds μ Φ Ψ) : ds.length = 2 := by obtain ⟨_, _, _, _, rfl, _⟩ := h; rfl
theorem ok__law_products (T : Txt P w K mg) : FnOk P w K mg base (L2N.CX P w) 20 T.f__law_products T.d__law_products ["_law_state", "_law_k"] (spOf K (c__law_products T.c_Chooser)) := by
  refine def_okC T.F__law_products sc__law_products _ (fun ds μ Φ Ψ h => len__law_products h) (fun cdv A outer s H E B hW hr =>
    have tk : L2N.Takes (cxOf (L2N.CX P w) P w K mg base N__law_products "_law_products" (defScope s__law_products) T.f__law_products cdv A outer s H E) (fun cls d _ H => E cls d H) := L2N.takes_of rfl rfl rfl rfl
    ⟨_, (pss_cons (ps_set (i := 2) sc__law_products.nd rfl (Or.inr rfl) (pe_call (ok__law_sizes_in_turn T) (hr.mono (by decide)) rfl T.g__law_sizes_in_turn T.F__law_sizes_in_turn.kp T.b__law_sizes_in_turn .nil passN (pa_cons (pv 0) (pa_cons (pv 1) pa_nil))))
      (pss_cons (ps_set (i := 3) sc__law_products.nd rfl (Or.inr rfl) (pe_lc (own := [("_law_size", 7)]) rfl sc__law_products.nd (pi_list (pv 2)) (blkOk_by (N := N__law_products) (sc := defScope s__law_products) (by decide +kernel)) (fun _ _ _ _ _ => (pg_name (i := 7) sc__law_products.nd rfl (Or.inl rfl))) (fun _ _ _ _ _ => pts_nil) (fun _ _ _ _ _ => (pe_call (ok__law_row T) (hr.mono (by decide)) rfl T.g__law_row T.F__law_row.kp T.b__law_row .nil passN (pa_cons (pv 0) (pa_cons (pv 7) (pa_cons (pv 1) pa_nil)))))))
      (pss_cons (ps_setLc (i := 4) (own := [("_law_p", 13)]) rfl sc__law_products.nd rfl rfl (sw_true rfl rfl rfl (by decide +kernel)) (pi_range1 rfl T.z_range (pa_cons (pe_callB call_len_seq (by rfl) T.z_len PySem.boot_len (pa_cons (pv 2) pa_nil)) pa_nil)) (blkOk_by (N := N__law_products) (sc := defScope s__law_products) (by decide +kernel)) (fun _ _ _ _ _ => (pg_name (i := 13) sc__law_products.nd rfl (Or.inl rfl))) (fun _ _ _ _ _ => pts_nil) (fun _ _ _ _ _ => (pe_makeS (E := WE WN) T.mk_Chooser (ok_Chooser___init__ T) (hr.mono (by decide)) rfl T.g_Chooser T.b_Chooser___init__ (fun σ => passAtN σ) (pa_cons (pe_ix ix_list (pv 2) (pv 13) (fun _ _ => rfl)) (pa_cons (pv 1) (pa_cons (pe_ix ix_list (pv 3) (pv 13) (fun _ _ => rfl)) pa_nil))))))
      (pss_cons (ps_set (i := 5) sc__law_products.nd rfl (Or.inl rfl) (pe_call (ok__law_turned_row T) (hr.mono (by decide)) rfl T.g__law_turned_row T.F__law_turned_row.kp T.b__law_turned_row .nil passN (pa_cons (pv 3) (pa_cons (pv 2) (pa_cons (pv 1) pa_nil)))))
      (pss_cons (ps_set (i := 6) sc__law_products.nd rfl (Or.inl rfl) pe_int)
      (pss_cons (ps_for (passes_of rfl) rfl (pi_list (pv 2)) (pg_name (i := 7) sc__law_products.nd rfl (Or.inl rfl)) (pss_one (ps_set (i := 6) sc__law_products.nd rfl (Or.inl rfl) (pe_op op_mulX (pv 6) (pv 7)))))
      (pss_cons (ps_if (pt_not (pt_val (pe_call (ok__law_same T) (hr.mono (by decide)) rfl T.g__law_same T.F__law_same.kp T.b__law_same .nil passN (pa_cons (pe_call (ok__law_do T) (hr.mono (by decide)) rfl T.g__law_do T.F__law_do.kp T.b__law_do .nil passN (pa_cons pe_int (pa_cons (pv 4) (pa_cons (pv 4) pa_nil)))) (pa_cons (pe_tupN (pa_cons pe_str (pa_cons (pv 6) (pa_cons (pv 1) (pa_cons (pv 5) pa_nil))))) pa_nil))))) (pss_one (ps_ret pe_bl)) pss_nil)
      (pss_cons (ps_set (i := 8) sc__law_products.nd rfl (Or.inl rfl) (pe_ix ix_list (pv 4) (pe_un un_neg pe_int) (fun _ _ => rfl)))
      (pss_cons (ps_for (passes_of rfl) rfl (pi_range2 rfl T.z_range (pa_cons pe_int (pa_cons (pe_callB call_len_seq (by rfl) T.z_len PySem.boot_len (pa_cons (pv 4) pa_nil)) pa_nil))) (pg_name (i := 9) sc__law_products.nd rfl (Or.inl rfl)) (pss_cons (ps_set (i := 12) sc__law_products.nd rfl (Or.inl rfl) (pe_ix ix_list (pv 4) (pe_op op_sub (pe_op op_sub (pe_callB call_len_seq (by rfl) T.z_len PySem.boot_len (pa_cons (pv 4) pa_nil)) pe_int) (pv 9)) (fun _ _ => rfl)))
      (pss_cons (ps_if (PW.pt (pw_and (pt_cmpR op_eq (pv 9) (pe_op op_sub (pe_callB call_len_seq (by rfl) T.z_len PySem.boot_len (pa_cons (pv 4) pa_nil)) pe_int) (nomark _)) (pw_and1 (pt_not (pt_val (pe_call (ok__law_fits T) (hr.mono (by decide)) rfl T.g__law_fits T.F__law_fits.kp T.b__law_fits .nil passN (pa_cons (pe_callS (ok_put_behind T) (hr.mono (by decide)) rfl T.g_put_behind T.F_put_behind.kp T.b_put_behind (fun σ => L2N.passAt tk σ) (pa_cons (pv 12) (pa_cons (pe_op op_repA (pe_tupN (pa_cons (pv 8) pa_nil)) (pe_fld (pv 12) rfl)) pa_nil))) (pa_cons (pv 6) (pa_cons (pv 1) (pa_cons (pv 5) pa_nil)))))))))) (pss_one (ps_ret pe_bl)) pss_nil)
      (pss_one (ps_set (i := 8) sc__law_products.nd rfl (Or.inl rfl) (pe_binX T.sf_Chooser T.me_Chooser___mul__ (ok_Chooser___mul__ T) (hr.mono (by decide)) T.b_Chooser___mul__ (fun σ => L2N.passAt tk σ) (pv 12) (pv 8)))))))
      (pss_cons (ps_set (i := 10) sc__law_products.nd rfl (Or.inl rfl) (pe_ix ix_list (pv 4) pe_int (fun _ _ => rfl)))
      (pss_cons (ps_for (passes_of rfl) rfl (pi_list (pe_slice sl_list (pv 4) (po_some pe_int) po_none)) (pg_name (i := 11) sc__law_products.nd rfl (Or.inl rfl)) (pss_one (ps_set (i := 10) sc__law_products.nd rfl (Or.inl rfl) (pe_binX T.sf_Chooser T.me_Chooser___mul__ (ok_Chooser___mul__ T) (hr.mono (by decide)) T.b_Chooser___mul__ (fun σ => L2N.passAt tk σ) (pv 10) (pv 11)))))
      (pss_cons (ps_if (PW.pt (pw_or (pt_not (pt_val (pe_call (ok__law_fits T) (hr.mono (by decide)) rfl T.g__law_fits T.F__law_fits.kp T.b__law_fits .nil passN (pa_cons (pv 8) (pa_cons (pv 6) (pa_cons (pv 1) (pa_cons (pv 5) pa_nil))))))) (pw_or1 (pt_not (pt_val (pe_call (ok__law_fits T) (hr.mono (by decide)) rfl T.g__law_fits T.F__law_fits.kp T.b__law_fits .nil passN (pa_cons (pv 10) (pa_cons (pv 6) (pa_cons (pv 1) (pa_cons (pv 5) pa_nil)))))))))) (pss_one (ps_ret pe_bl)) pss_nil)
      (pss_one (ps_ret (pe_and (pe_call (ok__law_powers T) (hr.mono (by decide)) rfl T.g__law_powers T.F__law_powers.kp T.b__law_powers .nil passN (pa_cons (pv 0) (pa_cons (pe_ix ix_list (pv 4) pe_int (fun _ _ => rfl)) (pa_cons (pe_ix ix_list (pv 2) pe_int (fun _ _ => rfl)) (pa_cons (pe_ix ix_list (pv 3) pe_int (fun _ _ => rfl)) (pa_cons (pv 1) pa_nil)))))) (pe_one (pe_call (ok__law_same T) (hr.mono (by decide)) rfl T.g__law_same T.F__law_same.kp T.b__law_same .nil passN (pa_cons (pe_call (ok__law_do T) (hr.mono (by decide)) rfl T.g__law_do T.F__law_do.kp T.b__law_do .nil passN (pa_cons pe_int (pa_cons (pv 4) (pa_cons (pv 4) pa_nil)))) (pa_cons (pe_tupN (pa_cons pe_str (pa_cons (pv 6) (pa_cons (pv 1) (pa_cons (pv 5) pa_nil))))) pa_nil))))))))))))))))))),
      (sSeq (sAsg (sCall (sCons sVar (sCons sVar sNil))) sName)
      (sSeq (sAsg (sLc (siL sVar) (gwName List.mem_cons_self) (fun _ _ _ => sName) (fun _ _ _ => sYes) (fun _ _ _ => (sCall (sCons sVar (sCons sVar (sCons sVar sNil)))))) sName)
      (sSeq (sAsg (sLc (siR1 (sCB rcLen (sCons sVar sNil))) (gwName List.mem_cons_self) (fun _ _ _ => sName) (fun _ _ _ => sYes) (fun _ _ _ => (sMakeSN (sCons (sOp roIxL sVar sVar) (sCons sVar (sCons (sOp roIxL sVar sVar) sNil)))))) sName)
      (sSeq (sAsg (sCall (sCons sVar (sCons sVar (sCons sVar sNil)))) sName)
      (sSeq (sAsg sInt sName)
      (sSeq (sFor (siL sVar) (fun _ _ _ => sName) (fun _ _ _ => (sAsg (sOp roInt sVar sVar) sName)))
      (sSeq (sIfS (sNot (sB (sCall (sCons (sCall (sCons sInt (sCons sVar (sCons sVar sNil)))) (sCons (sTup (sCons sStr (sCons sVar (sCons sVar (sCons sVar sNil))))) sNil))))) (sRet sBl) sNext)
      (sSeq (sAsg (sOp roIxL sVar (sUn ruInt sInt)) sName)
      (sSeq (sFor (siR2 sInt (sCB rcLen (sCons sVar sNil))) (fun _ _ _ => sName) (fun _ _ _ => (sSeq (sAsg (sOp roIxL sVar (sOp roInt0 (sOp roInt0 (sCB rcLen (sCons sVar sNil)) sInt) sVar)) sName)
      (sSeq (sIfS (sAnd (sTest (sOp roEq sVar (sOp roInt0 (sCB rcLen (sCons sVar sNil)) sInt))) (sNot (sB (sCall (sCons (sCallSW (W := fun cls d _ H => E cls d H) (by exact hW) (sCons sVar (sCons (sOp roRepT (sTup (sCons sVar sNil)) (sFldO (NS := NSA) (i := 0) T.cls_Chooser T.na_Chooser_options rfl (by decide) sVar)) sNil))) (sCons sVar (sCons sVar (sCons sVar sNil)))))))) (sRet sBl) sNext)
      (sAsg (sBinX (NS := NSA) (W := fun cls d _ H => E cls d H) (by exact hW) sVar sVar) sName)))))
      (sSeq (sAsg (sOp roIxL sVar sInt) sName)
      (sSeq (sFor (siL (sSlL sVar (sPart sInt) sNoPart)) (fun _ _ _ => sName) (fun _ _ _ => (sAsg (sBinX (NS := NSA) (W := fun cls d _ H => E cls d H) (by exact hW) sVar sVar) sName)))
      (sSeq (sIfS (sOr (sNot (sB (sCall (sCons sVar (sCons sVar (sCons sVar (sCons sVar sNil))))))) (sNot (sB (sCall (sCons sVar (sCons sVar (sCons sVar (sCons sVar sNil)))))))) (sRet sBl) sNext)
      (sRet (sAndV (sCall (sCons sVar (sCons (sOp roIxL sVar sInt) (sCons (sOp roIxL sVar sInt) (sCons (sOp roIxL sVar sInt) (sCons sVar sNil)))))) (sCall (sCons (sCall (sCons sInt (sCons sVar (sCons sVar sNil)))) (sCons (sTup (sCons sStr (sCons sVar (sCons sVar (sCons sVar sNil))))) sNil)))))))))))))))))⟩) (fun ds μ Φ Ψ h => ?hv)
  case hv =>
    obtain ⟨p, ns, c, k, rfl, hst, sc, k1, k4, h⟩ := h
    obtain ⟨-, t1, t8⟩ := top_at k1 k4
    refine seq_cut fun M hM => ?_
    walk_at "wp"
    refine ⟨p, ns, c, k, rfl, hst, sc, k1, k4, fun ss c1 hss sc => ?_⟩
    obtain ⟨l1, l4, s1, top⟩ := hss
    have hsp := prL_pos s1
    have hle : ∀ s ∈ ss, s ≤ topN k := fun s hs => Nat.le_trans (prL_le s1 hs) top
    rw [hM]; clear hM M
    refine seq_cut fun M hM => ?_
    walk_at "wp"
    refine lcG_drawN (StC ns) (fun i acc => ∃ gs : List Ch, acc = gs.map rowD ∧ gs.map (·.n) = ss.take i ∧ ∀ g ∈ gs, ChOk g ∧ g.k = k) (by rw [nl_len]; omega) sset_same sc ⟨[], rfl, rfl, fun g hg => by simp at hg⟩ (fun i d μ2 X acc c6 hi hs2 sc2 ⟨gs, e, rl, ra⟩ hla hx => ?_) (fun acc c4 ⟨gs, e, rl, ra⟩ hla sc => ?_)
    · unfold natL at hi
      rw [List.getElem?_map, Option.map_eq_some_iff] at hi
      obtain ⟨s, hsi, rfl⟩ := hi
      have hsm := List.mem_of_getElem? hsi
      have hs1 := s1 s hsm
      have hsS := hle s hsm
      have ssm := top_small (n := s) k1 k4 hsS
      walk_at "wp"
      refine ⟨p, ns, c6, s, k, rfl, hs2, sc2, hs1, ssm.1, k1, k4, ssm.2, fun r' c7 hr' sc7 => ?_⟩
      refine hx _ c7 sc7 ⟨gs ++ [⟨s, k, r'⟩], by rw [e, List.map_append]; rfl, by rw [List.map_append, rl, List.take_add_one, hsi]; rfl, fun g hg => ?_⟩
      rcases List.mem_append.mp hg with q | q
      · exact ra g q
      · rw [List.mem_singleton.mp q]; exact ⟨mk_ok hs1 k1 k4 ssm hr', rfl⟩
    rw [nl_len, List.take_length] at rl
    subst e
    rw [sset_sset]
    have hgl : gs.length = ss.length := by rw [← rl, List.length_map]
    have hgo : ∀ g ∈ gs, ChOk g := fun g hg => (ra g hg).1
    have hne : gs ≠ [] := fun z => by rw [z] at hgl; simp at hgl; omega
    have hpr : prN gs = prL ss := by rw [← rl, prL_prN]
    have hsg : smlC (prN gs) k := by rw [hpr]; exact top_small k1 k4 top
    obtain ⟨w1, w2, w3⟩ := turn_ok hne ra hsg
    obtain ⟨W, hW⟩ : ∃ W, W = turnC gs := ⟨_, rfl⟩
    rw [← hW] at w1 w2 w3
    have hWl : W.row.length ≤ 1000 := by have := w1.len; have := w1.sm; omega
    rw [← rl]
    rw [hM]; clear hM M
    refine seq_cut fun M hM => ?_
    walk_at "wp"
    rw [nl_len, List.length_map]
    refine ⟨by omega, by omega, lcR (m := gs.length) (fun i => chO T.c_Chooser (gs.getD i ch0)) (by omega) (fun i μ2 X hi hsub hx => ?_) ?_⟩
    · walk_at "wp"
      have hcO := ra _ (List.getElem_mem hi)
      rw [List.getD_eq_getElem?_getD, List.getElem?_eq_getElem hi, Option.getD_some] at hx
      refine ⟨.int gs[i].n, ?_, rowD gs[i], atI_nat (by rw [List.getElem?_map, List.getElem?_eq_getElem hi]; rfl), fun x hxn => ?_⟩
      · rw [natL_at (by rw [List.length_map]; exact hi), List.getD_eq_getElem?_getD, List.getElem?_map, List.getElem?_eq_getElem hi]; rfl
      refine ⟨x, gs[i], by rw [hcO.2]; rfl, hcO.1, sset_same, rfl, NSA, _, sset_same, ?_⟩
      rw [sset_sset, sdel_sset hxn]
      exact hx
    rw [rng_ch]
    rw [hM]; clear hM M
    refine seq_cut fun M hM => ?_
    walk_at "wp"
    refine ⟨k, gs, rfl, hne, by omega, ra, hsg, ?_⟩
    rw [← hW]
    rw [hM]; clear hM M
    refine seq_cut fun M hM => ?_
    walk_at "wp"
    rw [hM]; clear hM M
    refine seq_cut fun M hM => ?_
    walk_at "wp"
    have hn1 : ∀ s ∈ gs.map (·.n), 1 ≤ s := by rw [rl]; exact s1
    have hp8 : ∀ i, prL ((gs.map (·.n)).take i) ≤ 8 := fun i => Nat.le_trans (prL_take hn1 i) (by rw [rl]; omega)
    refine ⟨fun i δ' μ' => ∃ x7 : Option D, μ' = sset μ p (.lst c4) ∧ δ' = [some (.hd (.ref p)), some (.int k), some (.lst (natL (gs.map (·.n)))), some (.lst (gs.map rowD)), some (.lst (gs.map (chO T.c_Chooser))), some (rowD W), some (.int ((prL ((gs.map (·.n)).take i) : Nat) : Int)), x7, none, none, none, none, none, none], ⟨none, rfl, rfl⟩, ?_, ?_⟩
    · rintro i d δ' μ' hi ⟨x7, rfl, rfl⟩
      unfold natL at hi
      rw [List.getElem?_map, Option.map_eq_some_iff] at hi
      obtain ⟨s, hsi, rfl⟩ := hi
      have hs8 : s ≤ 8 := by
        have := List.mem_of_getElem? hsi
        rw [rl] at this
        have := hle s this
        omega
      have hpi := hp8 i
      walk_at "wp"
      refine ⟨mulx 10 10 (by omega) (by omega) (by decide), some (.int s), ?_⟩
      rw [List.take_add_one, hsi, Option.toList_some, prL_snoc, Int.natCast_mul]
    · rintro δ' μ' ⟨x7, rfl, rfl⟩
      have eN : prL ((gs.map (·.n)).take (natL (gs.map (·.n))).length) = W.n := by rw [nl_len, List.take_length, w3, prL_prN]
      rw [eN]
      rw [hM]; clear hM M
      have doT : ∀ (Z : DK) (Y : XD → Sto → Prop) (μ' : Sto), Z (chD W) μ' → c__law_do T.c_Chooser [.int 0, .lst (gs.map (chO T.c_Chooser)), .lst (gs.map (chO T.c_Chooser))] μ' Z Y := fun Z Y μ' hZ => by
        obtain ⟨g, gs', rfl⟩ : ∃ g gs', gs = g :: gs' := by
          cases gs with
          | nil => exact absurd rfl hne
          | cons g gs' => exact ⟨_, _, rfl⟩
        have hgk := ra g List.mem_cons_self
        have hl3 : gs'.length ≤ 3 := by rw [List.length_cons] at hgl; omega
        exact .inl ⟨g, gs', _, rfl, hgo, hl3, fun ⟨a, ha, hk⟩ => absurd (by rw [(ra a (List.mem_cons_of_mem _ ha)).2, hgk.2]) hk, fun _ z => absurd (by rw [hgk.2]; exact hsg) z, fun _ _ => by rw [← hW]; exact hZ⟩
      have eD : D.tup [D.str "chooser", D.int (W.n : Int), D.int (k : Int), rowD W] = chD W := by unfold chD rowD; rw [w2]
      refine seq_cut fun M hM => ?_
      walk_at "wp"
      rw [eD]
      refine doT _ _ _ ⟨by decide, same_ch hWl ⟨true, rfl, nofun, fun _ => ?_⟩⟩
      rw [hM]; clear hM M
      refine seq_cut fun M hM => ?_
      walk_at "wp"
      refine ⟨_, at_back (List.length_pos_iff.mpr hne), ?_⟩
      rw [hM]; clear hM M
      refine seq_cut fun M hM => ?_
      walk_at "wp"
      have one : gs.drop (gs.length - 1) = [gs[gs.length - 1]'(by omega)] := by
        rw [List.drop_eq_getElem_cons (by omega), show gs.length - 1 + 1 = gs.length by omega, List.drop_length]
      have hd8 : ∀ j, smlC (prN (gs.drop j)) k := fun j => sml_mono k1 (prN_drop hgo _) hsg
      refine ⟨1, gs.length, rfl, rfl, by omega, fun i δ' μ' => ∃ (x9 x12 : Option D), μ' = sset μ p (.lst c4) ∧ i < gs.length ∧ δ' = [some (.hd (.ref p)), some (.int k), some (.lst (natL (gs.map (·.n)))), some (.lst (gs.map rowD)), some (.lst (gs.map (chO T.c_Chooser))), some (rowD W), some (.int W.n), x7, some (chO T.c_Chooser (turnC (gs.drop (gs.length - 1 - i)))), x9, none, none, x12, none], ⟨none, none, rfl, by omega, by rw [Nat.sub_zero, one]; rfl⟩, ?_, ?_⟩
      · rintro i d δ' μ' hi ⟨x9, x12, rfl, hia, rfl⟩
        obtain ⟨hi2, rfl⟩ := rngD_get hi
        have hi2 : i + 1 < gs.length := by omega
        have hlt : gs.length - 2 - i < gs.length := by omega
        have hdr : gs.drop (gs.length - 2 - i) = gs[gs.length - 2 - i] :: gs.drop (gs.length - 1 - i) := by
          rw [List.drop_eq_getElem_cons hlt, show gs.length - 2 - i + 1 = gs.length - 1 - i by omega]
        have hs2 := hd8 (gs.length - 2 - i)
        obtain ⟨B, hB⟩ : ∃ B, B = gs.drop (gs.length - 1 - i) := ⟨_, rfl⟩
        have hBn : B ≠ [] := by rw [hB]; intro z; have := congrArg List.length z; rw [List.length_drop] at this; simp at this; omega
        have hBk : ∀ g ∈ B, ChOk g ∧ g.k = k := by rw [hB]; exact fun g hg => ra g (List.mem_of_mem_drop hg)
        have hsB : smlC (prN B) k := by rw [hB]; exact hd8 _
        obtain ⟨u1, u2, u3⟩ := turn_ok hBn hBk hsB
        obtain ⟨g, hg⟩ : ∃ g, g = gs[gs.length - 2 - i] := ⟨_, rfl⟩
        have hgk := ra _ (List.getElem_mem hlt)
        have hgi : gs[gs.length - 2 - i]? = some g := by rw [hg]; exact List.getElem?_eq_getElem hlt
        rw [← hB] at hdr
        rw [← hg] at hgk hdr
        have en : g.n * (turnC B).n = prN (gs.drop (gs.length - 2 - i)) := by rw [hdr, u3]; rfl
        have et : turnC (gs.drop (gs.length - 2 - i)) = prodC g (turnC B) := by
          rw [hdr]
          cases B with
          | nil => exact absurd rfl hBn
          | cons b B => rfl
        have sN : smlC (g.n * (turnC B).n) k := by rw [en]; exact hs2
        rw [← hB]
        obtain ⟨t, ht⟩ : ∃ t, t = turnC B := ⟨_, rfl⟩
        rw [← ht] at u1 u2 u3 en et sN ⊢
        have ei : (gs.length : Int) - 1 - (1 + (i : Int)) = ((gs.length - 2 - i : Nat) : Int) := by omega
        have g8 := hgk.1.n8
        have t8' := u1.n8
        have ef : Fol g (List.replicate g.n t) := ⟨List.length_replicate, fun a ha => by rw [List.eq_of_mem_replicate ha, u2, hgk.2]⟩
        have es : sumN (List.replicate g.n t) = g.n * t.n := by unfold sumN; rw [List.map_replicate, rep_sum]
        refine seq_cut fun M2 hM2 => ?_
        walk_at "wp"
        rw [ei]
        refine ⟨chO T.c_Chooser g, atI_nat (by rw [List.getElem?_map, hgi]; rfl), ?_⟩
        rw [hM2]; clear hM2 M2
        refine seq_cut fun M2 hM2 => ?_
        walk_at "wp"
        have rest : M2 [some (.hd (.ref p)), some (.int k), some (.lst (natL (gs.map (·.n)))), some (.lst (gs.map rowD)), some (.lst (gs.map (chO T.c_Chooser))), some (rowD W), some (.int W.n), x7, some (chO T.c_Chooser t), some (.int (1 + (i : Int))), none, none, some (chO T.c_Chooser g), none] (sset μ p (.lst c4)) := by
          rw [hM2]; clear hM2 M2
          walk_at "wps"
          refine ⟨_, _, rfl, rfl, g, t, rfl, hgk.1, u1, fun q => absurd (hgk.2.trans u2.symm) q, fun _ q => absurd (by rw [hgk.2]; exact sN) q, fun _ _ => ⟨⟨_, _, _, rfl⟩, some (.int (1 + (i : Int))), some (chO T.c_Chooser g), rfl, hi2, ?_⟩⟩
          rw [← et, show gs.length - 1 - (i + 1) = gs.length - 2 - i by omega]
        refine ⟨fun q => ⟨by decide, _, _, rfl, rfl, ?_⟩, fun _ => rest⟩
        have q0 : gs.length - 2 - i = 0 := by omega
        walk_at "wp"
        refine ⟨by omega, by omega, by decide, ?_⟩
        rw [List.flatten_replicate_singleton, ← List.map_replicate]
        refine ⟨g, List.replicate g.n t, rfl, hgk.1, fun a ha => by rw [List.eq_of_mem_replicate ha]; exact u1, by rw [List.length_replicate]; omega, fun z => absurd ef z, fun _ z => absurd (by rw [es, hgk.2]; exact sN) z, fun _ _ => ?_⟩
        rw [prod_beh, ← et, q0, List.drop_zero, ← hW]
        exact ⟨W, by rw [w2], hWl, true, rfl, nofun, fun _ => rest⟩
      · rintro δ' μ' ⟨x9, x12, rfl, hia, rfl⟩
        have e0 : gs.length - 1 - ((gs.length : Int) - 1).toNat = 0 := by omega
        rw [e0, List.drop_zero, ← hW]
        rw [hM]; clear hM M
        refine seq_cut fun M hM => ?_
        walk_at "wp"
        refine ⟨_, atI_nat (j := 0) (by rw [List.getElem?_map, List.getElem?_eq_getElem (List.length_pos_iff.mpr hne)]; rfl), ?_⟩
        rw [hM]; clear hM M
        refine seq_cut fun M hM => ?_
        walk_at "wp"
        rw [show DW.cutD (gs.map (chO T.c_Chooser)) (some 1) none = (gs.drop 1).map (chO T.c_Chooser) from by rw [List.map_drop]; exact cut_from 1]
        have tk : ∀ i, gs.take i ++ gs.drop i = gs := fun i => List.take_append_drop i gs
        refine ⟨fun i δ' μ' => ∃ (x11 : Option D), μ' = sset μ p (.lst c4) ∧ i < gs.length ∧ δ' = [some (.hd (.ref p)), some (.int k), some (.lst (natL (gs.map (·.n)))), some (.lst (gs.map rowD)), some (.lst (gs.map (chO T.c_Chooser))), some (rowD W), some (.int W.n), x7, some (chO T.c_Chooser W), x9, some (chO T.c_Chooser (turnC (gs.take (i + 1)))), x11, x12, none], ⟨none, rfl, by omega, ?_⟩, ?_, ?_⟩
        · rw [List.take_add_one, List.getElem?_eq_getElem (List.length_pos_iff.mpr hne)]; rfl
        · rintro i d δ' μ' hi ⟨x11, rfl, hia, rfl⟩
          rw [List.getElem?_map, Option.map_eq_some_iff] at hi
          obtain ⟨g, hgi, rfl⟩ := hi
          rw [List.getElem?_drop, Nat.add_comm] at hgi
          have hi2 := (List.getElem?_eq_some_iff.mp hgi).1
          have hgk := ra g (List.mem_of_getElem? hgi)
          have e2 : gs.take (i + 1 + 1) = gs.take (i + 1) ++ [g] := by rw [List.take_add_one, hgi]; rfl
          have hAk : ∀ c ∈ gs.take (i + 1) ++ [g], ChOk c ∧ c.k = k := fun c hc => by rw [← e2] at hc; exact ra c (List.mem_of_mem_take hc)
          have hAs : smlC (prN (gs.take (i + 1) ++ [g])) k := by
            refine sml_mono k1 ?_ hsg
            rw [← e2, ← prL_prN, ← prL_prN, List.map_take]
            exact prL_take hn1 _
          obtain ⟨A, hA⟩ : ∃ A, A = gs.take (i + 1) := ⟨_, rfl⟩
          have hAl : A.length = i + 1 := by rw [hA, List.length_take]; omega
          have hAn : A ≠ [] := fun z => by rw [z] at hAl; cases hAl
          rw [← hA] at hAk hAs e2 ⊢
          have epr : prN (A ++ [g]) = prN A * g.n := by rw [← prL_prN, ← prL_prN, List.map_append, List.map_singleton, prL_snoc]
          have hAo : ∀ c ∈ A, ChOk c ∧ c.k = k := fun c hc => hAk c (List.mem_append_left _ hc)
          obtain ⟨u1, u2, u3⟩ := turn_ok hAn hAo (sml_mono k1 (by rw [epr]; exact Nat.le_mul_of_pos_right _ hgk.1.n1) hAs)
          have esn := turn_snoc hAn hAk hAs
          have sN : smlC ((turnC A).n * g.n) k := by rw [u3, ← epr]; exact hAs
          obtain ⟨t, ht⟩ : ∃ t, t = turnC A := ⟨_, rfl⟩
          rw [← ht] at u1 u2 u3 esn sN ⊢
          walk_at "wp"
          refine ⟨_, _, rfl, rfl, t, g, rfl, u1, hgk.1, fun q => absurd (u2.trans hgk.2.symm) q, fun _ q => absurd (by rw [u2]; exact sN) q, fun _ _ => ⟨⟨_, _, _, rfl⟩, some (chO T.c_Chooser g), rfl, hi2, ?_⟩⟩
          rw [e2, ← esn]
        · rintro δ' μ' ⟨x11, rfl, hia, rfl⟩
          have eW : gs.take (((gs.drop 1).map (chO T.c_Chooser)).length + 1) = gs := by
            rw [List.length_map, List.length_drop]
            exact List.take_of_length_le (by omega)
          rw [eW, ← hW]
          rw [hM]; clear hM M
          refine seq_cut fun M hM => ?_
          walk_at "wp"
          have fitsW : ∀ (Z : DK) (Y : XD → Sto → Prop) (μ' : Sto), Z (.bl true) μ' → c__law_fits T.c_Chooser [chO T.c_Chooser W, .int W.n, .int k, rowD W] μ' Z Y := fun Z Y μ' hZ => ⟨W, by rw [w2], hWl, hZ⟩
          refine fitsW _ _ _ ⟨true, rfl, nofun, fun _ => fitsW _ _ _ ⟨true, rfl, nofun, fun _ => ?_⟩⟩
          rw [hM]; clear hM M
          walk_at "wps"
          have hl0 := List.length_pos_iff.mpr hne
          obtain ⟨g, hg⟩ : ∃ g, gs[0]? = some g := ⟨_, List.getElem?_eq_getElem hl0⟩
          have hgk := ra g (List.mem_of_getElem? hg)
          refine ⟨_, atI_nat (j := 0) (by rw [List.getElem?_map, hg]; rfl), .int g.n, atI_nat (j := 0) (by unfold natL; rw [List.map_map, List.getElem?_map, hg]; rfl), rowD g, atI_nat (j := 0) (by rw [List.getElem?_map, hg]; rfl), ?_⟩
          refine ⟨p, ns, c4, g, by rw [hgk.2], sset_same, sc, hgk.1, fun c5 sc => ?_⟩
          rw [sset_sset]
          refine ⟨true, rfl, fun _ => ?_, nofun⟩
          rw [eD]
          exact doT _ _ _ ⟨by decide, same_ch hWl (ret_same (h c5 sc))⟩
end
section
variable {P : Program} {w : World} {K : Fg} {mg : Str → Option Value} {base : Heap}
def c__law_refused (C : Addr) : Con := fun ds μ Φ _ => ∃ (f : Ch), ds = [.int f.k, chO C f] ∧ ChOk f ∧ Φ (.bl true) μ
theorem len__law_refused {C ds μ Φ Ψ} (h : c__law_refused C ds μ Φ Ψ) : ds.length = 2 := by obtain ⟨_, rfl, _⟩ := h; rfl
theorem ok__law_refused (T : Txt P w K mg) : FnOk P w K mg base (L2N.CX P w) 18 T.f__law_refused T.d__law_refused ["_law_k", "_law_part"] (spOf K (c__law_refused T.c_Chooser)) := by
  refine def_okC T.F__law_refused sc__law_refused _ (fun ds μ Φ Ψ h => len__law_refused h) (fun cdv A outer s H E B hW hr =>
    have tk : L2N.Takes (cxOf (L2N.CX P w) P w K mg base N__law_refused "_law_refused" (defScope s__law_refused) T.f__law_refused cdv A outer s H E) (fun cls d _ H => E cls d H) := L2N.takes_of rfl rfl rfl rfl
    ⟨_, (pss_cons (ps_set (i := 2) sc__law_refused.nd rfl (Or.inl rfl) (pe_makeS T.mk_Chooser (ok_Chooser___init__ T) (hr.mono (by decide)) rfl T.g_Chooser T.b_Chooser___init__ (fun σ => L2N.passAt tk σ) (pa_cons pe_int (pa_cons (pv 0) (pa_cons (pe_op op_repA (pe_tupN (pa_cons pe_int pa_nil)) (pe_call (ok__law_contexts T) (hr.mono (by decide)) rfl T.g__law_contexts T.F__law_contexts.kp T.b__law_contexts .nil passN (pa_cons pe_int (pa_cons (pv 0) pa_nil)))) pa_nil)))))
      (pss_cons (ps_set (i := 3) sc__law_refused.nd rfl (Or.inl rfl) (pe_op op_add (pe_op op_mod (pe_callTy call_int1 (by rfl) T.z_int (by decide +kernel) (pa_cons (pv 0) pa_nil)) pe_int) pe_int))
      (pss_cons (ps_set (i := 4) sc__law_refused.nd rfl (Or.inl rfl) (pe_makeS T.mk_Chooser (ok_Chooser___init__ T) (hr.mono (by decide)) rfl T.g_Chooser T.b_Chooser___init__ (fun σ => L2N.passAt tk σ) (pa_cons pe_int (pa_cons (pv 3) (pa_cons (pe_op op_repA (pe_tupN (pa_cons pe_int pa_nil)) (pv 3)) pa_nil)))))
      (pss_cons (ps_for (passes_of rfl) rfl (pi_list (pe_lst (pa_cons (pe_tupN (pa_cons (pv 2) (pa_cons (pv 4) pa_nil))) (pa_cons (pe_tupN (pa_cons (pv 4) (pa_cons (pv 2) pa_nil))) (pa_cons (pe_tupN (pa_cons (pv 1) (pa_cons (pv 4) pa_nil))) (pa_cons (pe_tupN (pa_cons (pv 4) (pa_cons (pv 1) pa_nil))) pa_nil)))))) (pg_name (i := 5) sc__law_refused.nd rfl (Or.inl rfl)) (pss_cons (ps_if (pt_not (pt_val (pe_call (ok__law_same T) (hr.mono (by decide)) rfl T.g__law_same T.F__law_same.kp T.b__law_same .nil passN (pa_cons (pe_call (ok__law_do T) (hr.mono (by decide)) rfl T.g__law_do T.F__law_do.kp T.b__law_do .nil passN (pa_cons pe_int (pa_cons (pe_ix ix_tup (pv 5) pe_int (fun _ _ => rfl)) (pa_cons (pe_ix ix_tup (pv 5) pe_int (fun _ _ => rfl)) pa_nil)))) (pa_cons (pe_tupN (pa_cons pe_str (pa_cons pe_int pa_nil))) pa_nil))))) (pss_one (ps_ret pe_bl)) pss_nil)
      (pss_one (ps_if (pt_not (pt_val (pe_call (ok__law_same T) (hr.mono (by decide)) rfl T.g__law_same T.F__law_same.kp T.b__law_same .nil passN (pa_cons (pe_call (ok__law_do T) (hr.mono (by decide)) rfl T.g__law_do T.F__law_do.kp T.b__law_do .nil passN (pa_cons pe_int (pa_cons (pe_lst (pa_cons (pe_ix ix_tup (pv 5) pe_int (fun _ _ => rfl)) (pa_cons (pe_ix ix_tup (pv 5) pe_int (fun _ _ => rfl)) pa_nil))) (pa_cons (pe_tupN pa_nil) pa_nil)))) (pa_cons (pe_tupN (pa_cons pe_str (pa_cons pe_int pa_nil))) pa_nil))))) (pss_one (ps_ret pe_bl)) pss_nil))))
      (pss_cons (ps_for (passes_of rfl) rfl (pi_list (pe_lst (pa_cons (pe_lst (pa_cons (pv 2) (pa_cons (pv 2) (pa_cons (pv 4) pa_nil)))) (pa_cons (pe_lst (pa_cons (pv 4) (pa_cons (pv 2) (pa_cons (pv 2) pa_nil)))) (pa_cons (pe_lst (pa_cons (pv 1) (pa_cons (pv 1) (pa_cons (pv 4) (pa_cons (pv 1) pa_nil))))) (pa_cons (pe_lst (pa_cons (pv 2) (pa_cons (pv 4) (pa_cons (pv 2) (pa_cons (pv 2) pa_nil))))) pa_nil)))))) (pg_name (i := 6) sc__law_refused.nd rfl (Or.inl rfl)) (pss_one (ps_if (pt_not (pt_val (pe_call (ok__law_same T) (hr.mono (by decide)) rfl T.g__law_same T.F__law_same.kp T.b__law_same .nil passN (pa_cons (pe_call (ok__law_do T) (hr.mono (by decide)) rfl T.g__law_do T.F__law_do.kp T.b__law_do .nil passN (pa_cons pe_int (pa_cons (pv 6) (pa_cons (pe_tupN pa_nil) pa_nil)))) (pa_cons (pe_tupN (pa_cons pe_str (pa_cons pe_int pa_nil))) pa_nil))))) (pss_one (ps_ret pe_bl)) pss_nil)))
      (pss_cons (ps_for (passes_of rfl) rfl (pi_list (pe_lst (pa_cons (pe_lst (pa_cons (pv 2) (pa_cons (pv 2) pa_nil))) (pa_cons (pe_lst (pa_cons (pv 2) (pa_cons (pv 1) (pa_cons (pv 2) pa_nil)))) (pa_cons (pe_lst (pa_cons (pv 1) (pa_cons (pv 2) (pa_cons (pv 2) pa_nil)))) (pa_cons (pe_lst (pa_cons (pv 2) (pa_cons (pv 2) (pa_cons (pv 1) (pa_cons (pv 1) pa_nil))))) pa_nil)))))) (pg_name (i := 6) sc__law_refused.nd rfl (Or.inl rfl)) (pss_one (ps_if (pt_not (pt_val (pe_call (ok__law_same T) (hr.mono (by decide)) rfl T.g__law_same T.F__law_same.kp T.b__law_same .nil passN (pa_cons (pe_call (ok__law_do T) (hr.mono (by decide)) rfl T.g__law_do T.F__law_do.kp T.b__law_do .nil passN (pa_cons pe_int (pa_cons (pv 6) (pa_cons (pe_tupN pa_nil) pa_nil)))) (pa_cons (pe_tupN (pa_cons pe_str (pa_cons pe_int pa_nil))) pa_nil))))) (pss_one (ps_ret pe_bl)) pss_nil)))
      (pss_cons (ps_if (PW.pt (pw_or (pt_not (pt_val (pe_call (ok__law_same T) (hr.mono (by decide)) rfl T.g__law_same T.F__law_same.kp T.b__law_same .nil passN (pa_cons (pe_call (ok__law_do T) (hr.mono (by decide)) rfl T.g__law_do T.F__law_do.kp T.b__law_do .nil passN (pa_cons pe_int (pa_cons (pv 2) (pa_cons (pv 2) pa_nil)))) (pa_cons (pe_tupN (pa_cons pe_str (pa_cons pe_int pa_nil))) pa_nil))))) (pw_or1 (pt_not (pt_val (pe_call (ok__law_same T) (hr.mono (by decide)) rfl T.g__law_same T.F__law_same.kp T.b__law_same .nil passN (pa_cons (pe_call (ok__law_do T) (hr.mono (by decide)) rfl T.g__law_do T.F__law_do.kp T.b__law_do .nil passN (pa_cons pe_int (pa_cons (pv 2) (pa_cons pe_int pa_nil)))) (pa_cons (pe_tupN (pa_cons pe_str (pa_cons pe_int pa_nil))) pa_nil)))))))) (pss_one (ps_ret pe_bl)) pss_nil)
      (pss_cons (ps_for (passes_of rfl) rfl (pi_list (pe_lst (pa_cons pe_int (pa_cons pe_int (pa_cons pe_int pa_nil))))) (pg_name (i := 7) sc__law_refused.nd rfl (Or.inl rfl)) (pss_one (ps_if (PW.pt (pw_or (pt_not (pt_val (pe_call (ok__law_same T) (hr.mono (by decide)) rfl T.g__law_same T.F__law_same.kp T.b__law_same .nil passN (pa_cons (pe_call (ok__law_do T) (hr.mono (by decide)) rfl T.g__law_do T.F__law_do.kp T.b__law_do .nil passN (pa_cons pe_int (pa_cons (pv 2) (pa_cons (pv 7) pa_nil)))) (pa_cons (pe_tupN (pa_cons pe_str (pa_cons pe_int pa_nil))) pa_nil))))) (pw_or1 (pt_not (pt_val (pe_call (ok__law_same T) (hr.mono (by decide)) rfl T.g__law_same T.F__law_same.kp T.b__law_same .nil passN (pa_cons (pe_call (ok__law_do T) (hr.mono (by decide)) rfl T.g__law_do T.F__law_do.kp T.b__law_do .nil passN (pa_cons pe_int (pa_cons (pv 4) (pa_cons (pv 7) pa_nil)))) (pa_cons (pe_tupN (pa_cons pe_str (pa_cons pe_int pa_nil))) pa_nil)))))))) (pss_one (ps_ret pe_bl)) pss_nil)))
      (pss_one (ps_ret pe_bl)))))))))),
      (sSeq (sAsg (sMakeSW (W := fun cls d _ H => E cls d H) (by exact hW) (sCons sInt (sCons sVar (sCons (sOp roRepT (sTup (sCons sInt sNil)) (sCall (sCons sInt (sCons sVar sNil)))) sNil)))) sName)
      (sSeq (sAsg (sOp roInt0 (sOp roInt (sCB rcInt (sCons sVar sNil)) sInt) sInt) sName)
      (sSeq (sAsg (sMakeSW (W := fun cls d _ H => E cls d H) (by exact hW) (sCons sInt (sCons sVar (sCons (sOp roRepT (sTup (sCons sInt sNil)) sVar) sNil)))) sName)
      (sSeq (sFor (siL (sLst (sCons (sTup (sCons sVar (sCons sVar sNil))) (sCons (sTup (sCons sVar (sCons sVar sNil))) (sCons (sTup (sCons sVar (sCons sVar sNil))) (sCons (sTup (sCons sVar (sCons sVar sNil))) sNil)))))) (fun _ _ _ => sName) (fun _ _ _ => (sSeq (sIfS (sNot (sB (sCall (sCons (sCall (sCons sInt (sCons (sOp roIxT sVar sInt) (sCons (sOp roIxT sVar sInt) sNil)))) (sCons (sTup (sCons sStr (sCons sInt sNil))) sNil))))) (sRet sBl) sNext)
      (sIfS (sNot (sB (sCall (sCons (sCall (sCons sInt (sCons (sLst (sCons (sOp roIxT sVar sInt) (sCons (sOp roIxT sVar sInt) sNil))) (sCons (sTup sNil) sNil)))) (sCons (sTup (sCons sStr (sCons sInt sNil))) sNil))))) (sRet sBl) sNext))))
      (sSeq (sFor (siL (sLst (sCons (sLst (sCons sVar (sCons sVar (sCons sVar sNil)))) (sCons (sLst (sCons sVar (sCons sVar (sCons sVar sNil)))) (sCons (sLst (sCons sVar (sCons sVar (sCons sVar (sCons sVar sNil))))) (sCons (sLst (sCons sVar (sCons sVar (sCons sVar (sCons sVar sNil))))) sNil)))))) (fun _ _ _ => sName) (fun _ _ _ => (sIfS (sNot (sB (sCall (sCons (sCall (sCons sInt (sCons sVar (sCons (sTup sNil) sNil)))) (sCons (sTup (sCons sStr (sCons sInt sNil))) sNil))))) (sRet sBl) sNext)))
      (sSeq (sFor (siL (sLst (sCons (sLst (sCons sVar (sCons sVar sNil))) (sCons (sLst (sCons sVar (sCons sVar (sCons sVar sNil)))) (sCons (sLst (sCons sVar (sCons sVar (sCons sVar sNil)))) (sCons (sLst (sCons sVar (sCons sVar (sCons sVar (sCons sVar sNil))))) sNil)))))) (fun _ _ _ => sName) (fun _ _ _ => (sIfS (sNot (sB (sCall (sCons (sCall (sCons sInt (sCons sVar (sCons (sTup sNil) sNil)))) (sCons (sTup (sCons sStr (sCons sInt sNil))) sNil))))) (sRet sBl) sNext)))
      (sSeq (sIfS (sOr (sNot (sB (sCall (sCons (sCall (sCons sInt (sCons sVar (sCons sVar sNil)))) (sCons (sTup (sCons sStr (sCons sInt sNil))) sNil))))) (sNot (sB (sCall (sCons (sCall (sCons sInt (sCons sVar (sCons sInt sNil)))) (sCons (sTup (sCons sStr (sCons sInt sNil))) sNil)))))) (sRet sBl) sNext)
      (sSeq (sFor (siL (sLst (sCons sInt (sCons sInt (sCons sInt sNil))))) (fun _ _ _ => sName) (fun _ _ _ => (sIfS (sOr (sNot (sB (sCall (sCons (sCall (sCons sInt (sCons sVar (sCons sVar sNil)))) (sCons (sTup (sCons sStr (sCons sInt sNil))) sNil))))) (sNot (sB (sCall (sCons (sCall (sCons sInt (sCons sVar (sCons sVar sNil)))) (sCons (sTup (sCons sStr (sCons sInt sNil))) sNil)))))) (sRet sBl) sNext)))
      (sRet sBl)))))))))⟩) (fun ds μ Φ Ψ h => ?hv)
  case hv =>
    obtain ⟨f, rfl, hf, h⟩ := h
    have k1 := hf.k1
    have k4 := hf.k4
    obtain ⟨k, hk⟩ : ∃ k, k = f.k := ⟨_, rfl⟩
    rw [← hk] at k1 k4 ⊢
    have t3 : 3 ≤ topN k := by rcases (show k = 1 ∨ k = 2 ∨ k = 3 ∨ k = 4 by omega) with rfl | rfl | rfl | rfl <;> decide
    have s3 := top_small (n := 3) k1 k4 t3
    refine seq_cut fun M hM => ?_
    walk_at "wp"
    refine ⟨by decide, 3, k, rfl, by decide, k4, k1, ?_⟩
    walk_at "wp"
    have k3 := s3.2
    refine ⟨by omega, by omega, by decide, ?_⟩
    intro y' hy
    have hz := zero_ok (n := 3) (by decide) k1 k4 s3
    rw [show (List.replicate (k ^ 3) [D.int 0]).flatten = (List.replicate (k ^ 3) (0 : Int)).map D.int by rw [List.flatten_replicate_singleton, List.map_replicate]]
    refine ⟨y', zeroC 3 k, rfl, hz, sset_same, rfl, NSA, _, sset_same, ?_⟩
    rw [sset_sset, sdel_sset hy]
    clear hy y'
    obtain ⟨z, hzd⟩ : ∃ z, z = zeroC 3 k := ⟨_, rfl⟩
    rw [show D.obj T.c_Chooser NSA [D.int (zeroC 3 k).n, D.int (zeroC 3 k).k, D.tup ((zeroC 3 k).row.map D.int)] = chO T.c_Chooser z by rw [hzd]; rfl]
    have zn : z.n = 3 := by rw [hzd]; rfl
    have zk : z.k = k := by rw [hzd]; rfl
    rw [← hzd] at hz
    rw [hM]; clear hM M
    refine seq_cut fun M hM => ?_
    walk_at "wp"
    have m4 : (k : Int) % 4 + 1 = ((k % 4 + 1 : Nat) : Int) := by omega
    refine ⟨by decide, ?_⟩
    rw [m4]
    obtain ⟨u, hu⟩ : ∃ u, u = k % 4 + 1 := ⟨_, rfl⟩
    rw [← hu]
    rw [hM]; clear hM M
    refine seq_cut fun M hM => ?_
    walk_at "wp"
    refine ⟨by decide, by omega, by omega, by decide, ?_⟩
    intro y hy
    have huo : ChOk (unitC u) := unit_ok (by omega) (by omega)
    rw [show (List.replicate u [D.int 0]).flatten = (List.replicate u (0 : Int)).map D.int by rw [List.flatten_replicate_singleton, List.map_replicate]]
    refine ⟨y, unitC u, rfl, huo, sset_same, rfl, NSA, _, sset_same, ?_⟩
    rw [sset_sset, sdel_sset hy]
    clear hy y
    obtain ⟨o, ho⟩ : ∃ o, o = unitC u := ⟨_, rfl⟩
    rw [show D.obj T.c_Chooser NSA [D.int (unitC u).n, D.int (unitC u).k, D.tup ((unitC u).row.map D.int)] = chO T.c_Chooser o by rw [ho]; rfl]
    have ok : o.k ≠ k := by rw [ho]; show u ≠ k; omega
    have on : o.n = 1 := by rw [ho]; rfl
    rw [← ho] at huo
    rw [hM]; clear hM M
    refine seq_cut fun M hM => ?_
    walk_at "wp"
    refine ⟨by decide, by decide, by decide, by decide, by decide, ?_⟩
    obtain ⟨Ls, hLs⟩ : ∃ Ls : List (Ch × Ch), Ls = [(z, o), (o, z), (f, o), (o, f)] := ⟨_, rfl⟩
    have hL : ∀ q ∈ Ls, ChOk q.1 ∧ ChOk q.2 ∧ q.1.k ≠ q.2.k := by
      rw [hLs]
      intro q hq
      simp only [List.mem_cons, List.not_mem_nil, or_false] at hq
      rcases hq with rfl | rfl | rfl | rfl
      · exact ⟨hz, huo, by rw [zk]; exact Ne.symm ok⟩
      · exact ⟨huo, hz, by rw [zk]; exact ok⟩
      · exact ⟨hf, huo, by rw [← hk]; exact Ne.symm ok⟩
      · exact ⟨huo, hf, by rw [← hk]; exact ok⟩
    rw [show [D.tup [chO T.c_Chooser z, chO T.c_Chooser o], D.tup [chO T.c_Chooser o, chO T.c_Chooser z], D.tup [chO T.c_Chooser f, chO T.c_Chooser o], D.tup [chO T.c_Chooser o, chO T.c_Chooser f]] = Ls.map fun q => D.tup [chO T.c_Chooser q.1, chO T.c_Chooser q.2] by rw [hLs]; rfl]
    refine ⟨fun i δ' μ' => μ' = μ ∧ ∃ x5 : Option D, δ' = [some (.int k), some (chO T.c_Chooser f), some (chO T.c_Chooser z), some (.int u), some (chO T.c_Chooser o), x5, none, none], ⟨rfl, none, rfl⟩, ?_, ?_⟩
    · rintro i d δ' μ' hi ⟨rfl, x5, rfl⟩
      rw [List.getElem?_map, Option.map_eq_some_iff] at hi
      obtain ⟨⟨a, b⟩, hq, rfl⟩ := hi
      obtain ⟨q1, q2, q3⟩ := hL _ (List.mem_of_getElem? hq)
      have q1 : ChOk a := q1
      have q2 : ChOk b := q2
      have q3 : a.k ≠ b.k := q3
      walk_at "wps"
      refine .inr (.inl ⟨a, b, rfl, q1, q2, fun _ => ⟨by decide, same_ref ⟨true, rfl, nofun, fun _ => ?_⟩⟩, fun w => absurd w q3, fun w => absurd w q3⟩)
      refine ⟨by decide, by decide, .inl ⟨a, [b], .tup [], rfl, fun g hg => ?_, by simp, fun _ => ⟨by decide, same_ref ⟨true, rfl, nofun, fun _ => ⟨rfl, _, rfl⟩⟩⟩, fun w => absurd (w b (by simp)).symm q3, fun w => absurd (w b (by simp)).symm q3⟩⟩
      simp only [List.mem_cons, List.not_mem_nil, or_false] at hg
      rcases hg with rfl | rfl
      · exact q1
      · exact q2
    · rintro δ' μ' ⟨rfl, x5, rfl⟩
      rw [hM]; clear hM M
      refine seq_cut fun M hM => ?_
      walk_at "wp"
      refine ⟨by decide, by decide, by decide, by decide, by decide, ?_⟩
      have allL : ∀ (X : List Ch), (∀ g ∈ X, g = z ∨ g = o ∨ g = f) → ∀ g ∈ X, ChOk g := fun X hX g hg => by
        rcases hX g hg with rfl | rfl | rfl
        · exact hz
        · exact huo
        · exact hf
      obtain ⟨Ms, hMs⟩ : ∃ Ms : List (Ch × List Ch), Ms = [(z, [z, o]), (o, [z, z]), (f, [f, o, f]), (z, [o, z, z])] := ⟨_, rfl⟩
      have hMm : ∀ q ∈ Ms, (∀ g ∈ q.1 :: q.2, ChOk g) ∧ q.2.length ≤ 3 ∧ ∃ g ∈ q.2, g.k ≠ q.1.k := by
        rw [hMs]
        intro q hq
        simp only [List.mem_cons, List.not_mem_nil, or_false] at hq
        rcases hq with rfl | rfl | rfl | rfl
        · exact ⟨allL _ (by simp), by simp, o, by simp, by rw [zk]; exact ok⟩
        · exact ⟨allL _ (by simp), by simp, z, by simp, by rw [zk]; exact Ne.symm ok⟩
        · exact ⟨allL _ (by simp), by simp, o, by simp, by rw [← hk]; exact ok⟩
        · exact ⟨allL _ (by simp), by simp, o, by simp, by rw [zk]; exact ok⟩
      rw [show [D.lst [chO T.c_Chooser z, chO T.c_Chooser z, chO T.c_Chooser o], D.lst [chO T.c_Chooser o, chO T.c_Chooser z, chO T.c_Chooser z], D.lst [chO T.c_Chooser f, chO T.c_Chooser f, chO T.c_Chooser o, chO T.c_Chooser f], D.lst [chO T.c_Chooser z, chO T.c_Chooser o, chO T.c_Chooser z, chO T.c_Chooser z]] = Ms.map fun q => D.lst ((q.1 :: q.2).map (chO T.c_Chooser)) by rw [hMs]; rfl]
      refine ⟨fun i δ' μ2 => μ2 = μ' ∧ ∃ x6 : Option D, δ' = [some (.int k), some (chO T.c_Chooser f), some (chO T.c_Chooser z), some (.int u), some (chO T.c_Chooser o), x5, x6, none], ⟨rfl, none, rfl⟩, ?_, ?_⟩
      · rintro i d δ' μ2 hi ⟨rfl, x6, rfl⟩
        rw [List.getElem?_map, Option.map_eq_some_iff] at hi
        obtain ⟨⟨a, as⟩, hq, rfl⟩ := hi
        obtain ⟨q1, q2, q3⟩ := hMm _ (List.mem_of_getElem? hq)
        walk_at "wp"
        refine ⟨by decide, .inl ⟨a, as, .tup [], rfl, q1, q2, fun _ => ⟨by decide, same_ref ⟨true, rfl, nofun, fun _ => ⟨rfl, _, rfl⟩⟩⟩, fun w => ?_, fun w => ?_⟩⟩
        · obtain ⟨g, hg, hgk⟩ := q3
          exact absurd (w g hg) hgk
        · obtain ⟨g, hg, hgk⟩ := q3
          exact absurd (w g hg) hgk
      · rintro δ' μ2 ⟨rfl, x6, rfl⟩
        rw [hM]; clear hM M
        refine seq_cut fun M hM => ?_
        walk_at "wp"
        refine ⟨by decide, by decide, by decide, by decide, by decide, ?_⟩
        obtain ⟨Ns, hNs⟩ : ∃ Ns : List (Ch × List Ch), Ns = [(z, [z]), (z, [f, z]), (f, [z, z]), (z, [z, f, f])] := ⟨_, rfl⟩
        have f1 := hf.n1
        have big : ∀ m, 9 ≤ m → ¬ smlC m k := fun m hm w => by have := w.1; omega
        have hfm : 9 ≤ z.n * (f.n * (z.n * 1)) := by rw [zn]; omega
        have hfm2 : 9 ≤ f.n * (z.n * (z.n * 1)) := by rw [zn]; omega
        have hfm3 : 9 ≤ z.n * (z.n * (f.n * (f.n * 1))) := by
          have := Nat.mul_le_mul f1 f1
          rw [zn, Nat.mul_one]; omega
        have hNm : ∀ q ∈ Ns, (∀ g ∈ q.1 :: q.2, ChOk g) ∧ q.2.length ≤ 3 ∧ (∀ g ∈ q.2, g.k = q.1.k) ∧ ¬ smlC (prN (q.1 :: q.2)) q.1.k := by
          rw [hNs]
          intro q hq
          have zf : ∀ (a : Ch) (X : List Ch), (a = z ∨ a = f) → (∀ g ∈ X, g = z ∨ g = f) → ∀ g ∈ X, g.k = a.k := fun a X ha hX g hg => by
            have e1 : a.k = k := ha.elim (fun e => by rw [e]; exact zk) fun e => by rw [e]; exact hk.symm
            rw [e1]
            rcases hX g hg with rfl | rfl
            · exact zk
            · exact hk.symm
          simp only [List.mem_cons, List.not_mem_nil, or_false] at hq
          rcases hq with rfl | rfl | rfl | rfl
          · exact ⟨allL _ (by simp), by simp, zf _ _ (by simp) (by simp), by show ¬ smlC (z.n * (z.n * 1)) z.k; rw [zk]; exact big _ (by rw [zn]; decide)⟩
          · exact ⟨allL _ (by simp), by simp, zf _ _ (by simp) (by simp), by show ¬ smlC (z.n * (f.n * (z.n * 1))) z.k; rw [zk]; exact big _ hfm⟩
          · exact ⟨allL _ (by simp), by simp, zf _ _ (by simp) (by simp), by show ¬ smlC (f.n * (z.n * (z.n * 1))) f.k; rw [← hk]; exact big _ hfm2⟩
          · exact ⟨allL _ (by simp), by simp, zf _ _ (by simp) (by simp), by show ¬ smlC (z.n * (z.n * (f.n * (f.n * 1)))) z.k; rw [zk]; exact big _ hfm3⟩
        rw [show [D.lst [chO T.c_Chooser z, chO T.c_Chooser z], D.lst [chO T.c_Chooser z, chO T.c_Chooser f, chO T.c_Chooser z], D.lst [chO T.c_Chooser f, chO T.c_Chooser z, chO T.c_Chooser z], D.lst [chO T.c_Chooser z, chO T.c_Chooser z, chO T.c_Chooser f, chO T.c_Chooser f]] = Ns.map fun q => D.lst ((q.1 :: q.2).map (chO T.c_Chooser)) by rw [hNs]; rfl]
        refine ⟨fun i δ' μ3 => μ3 = μ2 ∧ ∃ x6 : Option D, δ' = [some (.int k), some (chO T.c_Chooser f), some (chO T.c_Chooser z), some (.int u), some (chO T.c_Chooser o), x5, x6, none], ⟨rfl, _, rfl⟩, ?_, ?_⟩
        · rintro i d δ' μ3 hi ⟨rfl, x6, rfl⟩
          rw [List.getElem?_map, Option.map_eq_some_iff] at hi
          obtain ⟨⟨a, as⟩, hq, rfl⟩ := hi
          obtain ⟨q1, q2, q3, q4⟩ := hNm _ (List.mem_of_getElem? hq)
          walk_at "wp"
          exact ⟨by decide, .inl ⟨a, as, .tup [], rfl, q1, q2, fun ⟨g, hg, w⟩ => absurd (q3 g hg) w, fun _ _ => ⟨by decide, same_ref ⟨true, rfl, nofun, fun _ => ⟨rfl, _, rfl⟩⟩⟩, fun _ w => absurd w q4⟩⟩
        · rintro δ' μ3 ⟨rfl, x6', rfl⟩
          rw [hM]; clear hM M
          refine seq_cut fun M hM => ?_
          walk_at "wp"
          have bz : ¬ smlC (z.n * z.n) z.k := by rw [zk, zn]; exact big _ (by decide)
          have bz2 : ¬ smlC (z.n ^ 2) z.k := by rw [zk, zn]; exact big _ (by decide)
          refine .inr (.inl ⟨z, z, rfl, hz, hz, fun w => absurd rfl w, fun _ _ => ⟨by decide, same_ref ⟨true, rfl, nofun, fun _ => ?_⟩⟩, fun _ w => absurd w bz⟩)
          refine .inr (.inr ⟨z, 2, rfl, hz, by simp, fun w => absurd ⟨by decide, by decide⟩ w, fun _ _ _ => ⟨by decide, same_ref ⟨true, rfl, nofun, fun _ => ?_⟩⟩, fun _ _ w => absurd w bz2⟩)
          rw [hM]; clear hM M
          refine seq_cut fun M hM => ?_
          walk_at "wp"
          refine ⟨by decide, ?_⟩
          rw [show [D.int 0, D.int 9, D.int 10] = [0, 9, 10].map fun (e : Nat) => D.int (e : Int) from rfl]
          refine ⟨fun i δ' μ4 => μ4 = μ3 ∧ ∃ x7 : Option D, δ' = [some (.int k), some (chO T.c_Chooser f), some (chO T.c_Chooser z), some (.int u), some (chO T.c_Chooser o), x5, x6', x7], ⟨rfl, _, rfl⟩, ?_, ?_⟩
          · rintro i d δ' μ4 hi ⟨rfl, x7, rfl⟩
            rw [List.getElem?_map, Option.map_eq_some_iff] at hi
            obtain ⟨e, he, rfl⟩ := hi
            have he := List.mem_of_getElem? he
            simp only [List.mem_cons, List.not_mem_nil, or_false] at he
            have hx : ¬ (1 ≤ e ∧ e ≤ 8) := by omega
            walk_at "wp"
            refine .inr (.inr ⟨z, e, rfl, hz, by omega, fun _ => ⟨by decide, same_ref ⟨true, rfl, nofun, fun _ => ?_⟩⟩, fun q1 q2 => absurd ⟨q1, q2⟩ hx, fun q1 q2 => absurd ⟨q1, q2⟩ hx⟩)
            exact .inr (.inr ⟨o, e, rfl, huo, by omega, fun _ => ⟨by decide, same_ref ⟨true, rfl, nofun, fun _ => ⟨rfl, _, rfl⟩⟩⟩, fun q1 q2 => absurd ⟨q1, q2⟩ hx, fun q1 q2 => absurd ⟨q1, q2⟩ hx⟩)
          · rintro δ' μ4 ⟨rfl, x7, rfl⟩
            rw [hM]; clear hM M
            walk_at "wps"
            exact ret_same h
def c_law : Con := fun ds μ Φ _ => ∃ ns : List Int, ds = [.scr ns] ∧ ns.length ≤ 63 ∧ Φ (.bl true) μ
theorem len_law {ds μ Φ Ψ} (h : c_law ds μ Φ Ψ) : ds.length = 1 := by obtain ⟨_, rfl, _⟩ := h; rfl
theorem ok_law (T : Txt P w K mg) : FnOk P w K mg base (L2N.CX P w) 30 T.f_law T.d_law ["_law_script"] (spOf K c_law) := by
  refine def_okC T.F_law sc_law _ (fun ds μ Φ Ψ h => len_law h) (fun cdv A outer s H E B hW hr =>
    have tk : L2N.Takes (cxOf (L2N.CX P w) P w K mg base N_law "law" (defScope s_law) T.f_law cdv A outer s H E) (fun cls d _ H => E cls d H) := L2N.takes_of rfl rfl rfl rfl
    ⟨_, (pss_cons (ps_set (i := 1) sc_law.nd rfl (Or.inl rfl) (pe_call (ok__law_start T) (hr.mono (by decide)) rfl T.g__law_start T.F__law_start.kp T.b__law_start .nil passN (pa_cons (pv 0) pa_nil)))
      (pss_cons (ps_set (i := 2) sc_law.nd rfl (Or.inl rfl) (pe_ix ix_list (pe_lst (pa_cons pe_int (pa_cons pe_int (pa_cons pe_int (pa_cons pe_int (pa_cons pe_int pa_nil)))))) (pe_call (ok__law_pick T) (hr.mono (by decide)) rfl T.g__law_pick T.F__law_pick.kp T.b__law_pick .nil passN (pa_cons (pv 1) (pa_cons pe_int pa_nil))) (fun _ _ => rfl)))
      (pss_cons (ps_if (PW.pt (pw_or (pt_not (pt_val (pe_call (ok__law_brackets T) (hr.mono (by decide)) rfl T.g__law_brackets T.F__law_brackets.kp T.b__law_brackets .nil passN (pa_cons (pv 1) (pa_cons (pv 2) pa_nil))))) (pw_or1 (pt_not (pt_val (pe_call (ok__law_products T) (hr.mono (by decide)) rfl T.g__law_products T.F__law_products.kp T.b__law_products .nil passN (pa_cons (pv 1) (pa_cons (pe_ix ix_list (pe_lst (pa_cons pe_int (pa_cons pe_int (pa_cons pe_int (pa_cons pe_int (pa_cons pe_int (pa_cons pe_int (pa_cons pe_int pa_nil)))))))) (pe_call (ok__law_pick T) (hr.mono (by decide)) rfl T.g__law_pick T.F__law_pick.kp T.b__law_pick .nil passN (pa_cons (pv 1) (pa_cons pe_int pa_nil))) (fun _ _ => rfl)) pa_nil)))))))) (pss_one (ps_ret pe_bl)) pss_nil)
      (pss_cons (ps_set (i := 3) sc_law.nd rfl (Or.inl rfl) (pe_op op_add pe_int (pe_call (ok__law_pick T) (hr.mono (by decide)) rfl T.g__law_pick T.F__law_pick.kp T.b__law_pick .nil passN (pa_cons (pv 1) (pa_cons pe_int pa_nil)))))
      (pss_one (ps_ret (pe_call (ok__law_refused T) (hr.mono (by decide)) rfl T.g__law_refused T.F__law_refused.kp T.b__law_refused .nil passN (pa_cons (pv 2) (pa_cons (pe_makeS T.mk_Chooser (ok_Chooser___init__ T) (hr.mono (by decide)) rfl T.g_Chooser T.b_Chooser___init__ (fun σ => L2N.passAt tk σ) (pa_cons (pv 3) (pa_cons (pv 2) (pa_cons (pe_call (ok__law_row T) (hr.mono (by decide)) rfl T.g__law_row T.F__law_row.kp T.b__law_row .nil passN (pa_cons (pv 1) (pa_cons (pv 3) (pa_cons (pv 2) pa_nil)))) pa_nil)))) pa_nil))))))))),
      (sSeq (sAsg (sCall (sCons sVar sNil)) sName)
      (sSeq (sAsg (sOp roIxL (sLst (sCons sInt (sCons sInt (sCons sInt (sCons sInt (sCons sInt sNil)))))) (sCall (sCons sVar (sCons sInt sNil)))) sName)
      (sSeq (sIfS (sOr (sNot (sB (sCall (sCons sVar (sCons sVar sNil))))) (sNot (sB (sCall (sCons sVar (sCons (sOp roIxL (sLst (sCons sInt (sCons sInt (sCons sInt (sCons sInt (sCons sInt (sCons sInt (sCons sInt sNil)))))))) (sCall (sCons sVar (sCons sInt sNil)))) sNil)))))) (sRet sBl) sNext)
      (sSeq (sAsg (sOp roInt0 sInt (sCall (sCons sVar (sCons sInt sNil)))) sName)
      (sRet (sCall (sCons sVar (sCons (sMakeSW (W := fun cls d _ H => E cls d H) (by exact hW) (sCons sVar (sCons sVar (sCons (sCall (sCons sVar (sCons sVar (sCons sVar sNil)))) sNil)))) sNil))))))))⟩) (fun ds μ Φ Ψ h => ?hv)
  case hv =>
    obtain ⟨ns, rfl, hlen, h⟩ := h
    refine seq_cut fun M hM => ?_
    walk_at "wp"
    refine ⟨ns, rfl, hlen, fun p c hp sc => ?_⟩
    have fin : ∀ c' : List D, ∃ μ2, DW.Sub μ2 (sset μ p (.lst c')) ∧ Φ (.bl true) μ2 := fun c' => ⟨μ, Sub.set Sub.refl hp, h⟩
    rw [hM]; clear hM M
    refine seq_cut fun M hM => ?_
    walk_at "wp"
    refine ⟨by decide, p, ns, c, 5, rfl, sset_same, sc, by decide, by decide, fun r c1 r0 r1 sc => ?_⟩
    rw [sset_sset]
    obtain ⟨k, hk, k1, k4⟩ : ∃ k : Nat, atI [D.int 2, D.int 3, D.int 2, D.int 4, D.int 1] r = some (.int k) ∧ 1 ≤ k ∧ k ≤ 4 := by
      obtain ⟨q, rfl⟩ : ∃ q : Nat, r = (q : Int) := ⟨r.toNat, by omega⟩
      rcases (show q = 0 ∨ q = 1 ∨ q = 2 ∨ q = 3 ∨ q = 4 by omega) with rfl | rfl | rfl | rfl | rfl
      · exact ⟨2, atI_nat (j := 0) rfl, by decide, by decide⟩
      · exact ⟨3, atI_nat (j := 1) rfl, by decide, by decide⟩
      · exact ⟨2, atI_nat (j := 2) rfl, by decide, by decide⟩
      · exact ⟨4, atI_nat (j := 3) rfl, by decide, by decide⟩
      · exact ⟨1, atI_nat (j := 4) rfl, by decide, by decide⟩
    walk_at "wp"
    refine ⟨_, hk, ?_⟩
    rw [hM]; clear hM M
    refine seq_cut fun M hM => ?_
    walk_at "wp"
    refine ⟨p, ns, c1, k, rfl, sset_same, sc, k1, k4, fun c2 sc => ?_⟩
    rw [sset_sset]
    refine ⟨true, rfl, nofun, fun _ => ?_⟩
    refine ⟨by decide, p, ns, c2, 7, rfl, sset_same, sc, by decide, by decide, fun r2 c3 r20 r21 sc => ?_⟩
    rw [sset_sset]
    obtain ⟨j, hj, j1, j4⟩ : ∃ k : Nat, atI [D.int 2, D.int 3, D.int 2, D.int 1, D.int 3, D.int 2, D.int 4] r2 = some (.int k) ∧ 1 ≤ k ∧ k ≤ 4 := by
      obtain ⟨q, rfl⟩ : ∃ q : Nat, r2 = (q : Int) := ⟨r2.toNat, by omega⟩
      rcases (show q = 0 ∨ q = 1 ∨ q = 2 ∨ q = 3 ∨ q = 4 ∨ q = 5 ∨ q = 6 by omega) with rfl | rfl | rfl | rfl | rfl | rfl | rfl
      · exact ⟨2, atI_nat (j := 0) rfl, by decide, by decide⟩
      · exact ⟨3, atI_nat (j := 1) rfl, by decide, by decide⟩
      · exact ⟨2, atI_nat (j := 2) rfl, by decide, by decide⟩
      · exact ⟨1, atI_nat (j := 3) rfl, by decide, by decide⟩
      · exact ⟨3, atI_nat (j := 4) rfl, by decide, by decide⟩
      · exact ⟨2, atI_nat (j := 5) rfl, by decide, by decide⟩
      · exact ⟨4, atI_nat (j := 6) rfl, by decide, by decide⟩
    walk_at "wp"
    refine ⟨_, hj, p, ns, c3, j, rfl, sset_same, sc, j1, j4, fun c4 sc => ?_⟩
    rw [sset_sset]
    refine ⟨true, rfl, nofun, fun _ => ?_⟩
    rw [hM]; clear hM M
    refine seq_cut fun M hM => ?_
    walk_at "wp"
    refine ⟨p, ns, c4, 2, rfl, sset_same, sc, by decide, by decide, fun y c5 y0 y1 sc => ?_⟩
    rw [sset_sset]
    obtain ⟨n, hn, n1, n2⟩ : ∃ n : Nat, (1 : Int) + y = (n : Int) ∧ 1 ≤ n ∧ n ≤ 2 := ⟨(1 + y).toNat, by omega, by omega, by omega⟩
    walk_at "wp"
    rw [hn]
    have t2 : 2 ≤ topN k := by rcases (show k = 1 ∨ k = 2 ∨ k = 3 ∨ k = 4 by omega) with rfl | rfl | rfl | rfl <;> decide
    have sn := top_small (n := n) k1 k4 (by omega)
    rw [hM]; clear hM M
    walk_at "wps"
    refine ⟨p, ns, c5, n, k, rfl, sset_same, sc, n1, sn.1, k1, k4, sn.2, fun r c6 hr sc => ?_⟩
    rw [sset_sset]
    intro y' hy
    have hf : ChOk ⟨n, k, r⟩ := mk_ok n1 k1 k4 sn hr
    refine ⟨y', ⟨n, k, r⟩, rfl, hf, sset_same, rfl, NSA, _, sset_same, ?_⟩
    rw [sset_sset, sdel_sset hy]
    exact ⟨⟨n, k, r⟩, rfl, hf, fin c6⟩
end
end LW
set_option Elab.async false
set_option linter.all false
set_option maxRecDepth 100000
set_option maxHeartbeats 4000000
namespace LW
open PySem PySem.Spec L2 DW PyProof.Rows NdefX
theorem kit_refS {K : PySem.W.Frag} {R C : Addr} {b : Bool} (h0 : PySem.W.subIn K (.ref R) (.ref R) = some true) (h1 : PySem.W.isClsIn K C = true) (h2 : PySem.W.typeIn K (.ref C) = some (.type "type")) (h3 : PySem.W.subIn K (.ref R) (.ref C) = some b) : PySem.W.kitOne K (.ref R) (.ref C) = some b := by
  unfold PySem.W.kitOne
  by_cases e : R = C
  · subst e
    rw [h0] at h3
    rw [if_pos (by simp)]
    exact h3
  · rw [if_neg (by simp [e])]
    have h1' : (PySem.W.clsIn K C).isSome = true := h1
    show (if ((PySem.W.clsIn K C).isSome && PySem.W.typeIn K (.ref C) == some (.type "type")) = true then PySem.W.subIn K (.ref R) (.ref C) else none) = some b
    rw [if_pos (by rw [h1', h2] <;> rfl)]
    exact h3
theorem kit_tyS {K : PySem.W.Frag} {R : Addr} {T : String} {b : Bool} (h1 : PySem.W.kitMeta T = true) (h3 : PySem.W.subIn K (.ref R) (.type T) = some b) : PySem.W.kitOne K (.ref R) (.type T) = some b := by
  unfold PySem.W.kitOne
  rw [if_neg (by simp)]
  show (if PySem.W.kitMeta T = true then PySem.W.subIn K (.ref R) (.type T) else none) = some b
  rw [if_pos h1]
  exact h3
abbrev si_InvalidChooser : Stmt := (C8.clsBody (topS 9)).getD 0 (.Pass ⟨0, 0, 0, 0⟩)
theorem sci_InvalidChooser : NScope ["self", "index", "__class__"] ["self", "index"] ["__class__"] (defScope si_InvalidChooser) := nscope_by (by decide +kernel)
theorem okinit_InvalidChooser {CX : CXT} {P : Program} {w : World} {K : Fg} {mg : Str → Option Value} {base : Heap} {f C D cc cda : Addr} {file : Str} {kV doc pm ct oc : Value} {an od : Option Addr} {osl : Array (Option Value)}
    (lk : K.lookup f = some ⟨oc, od, .func (PySem.W.ksFn "__init__" "InvalidChooser.__init__" (defArgs si_InvalidChooser) (defBody si_InvalidChooser) (defScope si_InvalidChooser) .none kV doc pm an (.ref cda) ct cc), osl⟩)
    (hcd : PySem.W.codeIn K (.ref cda) "InvalidChooser.__init__" = true) (T : SupC K C D cc f cda file) (hfile : ((P.main.file : Str) == file) = true) (htop : (P.main.scope.names.lookup ("super" : Str)).isSome = false) (hms : mg "super" = none) :
    FnOk P w K mg base CX 1 f (PySem.W.ksFn "__init__" "InvalidChooser.__init__" (defArgs si_InvalidChooser) (defBody si_InvalidChooser) (defScope si_InvalidChooser) .none kV doc pm an (.ref cda) ct cc) ["self", "index"] (spInit K C "index" okInt) :=
  sup_fn (k := 0) lk hcd sci_InvalidChooser T rfl rfl hfile htop hms rfl (by decide) fun X hP hw hK hN hsc hL hr => by
    obtain ⟨L, hL⟩ := hL
    have v0 : ∀ p, PE X (.Name "self" p) (tVar 0) := fun p => pv 0 (hN := by rw [hN]; rfl) (hv := .inl (by rw [hsc]; rfl))
    have v1 : ∀ p, PE X (.Name "index" p) (tVar 1) := fun p => pv 1 (hN := by rw [hN]; rfl) (hv := .inl (by rw [hsc]; rfl))
    
    exact ⟨msg_int (by decide) (v1 _), by rw [hL]; rfl, by rw [hL]; rfl, by rw [hL]; rfl, by rw [hL]; rfl, ⟨_, by rw [hL]; rfl⟩, by rw [hL]; rfl, v0 _, v1 _⟩
open PyProof.Rows in
theorem all_mk {P : Program} {w : World} {K : PySem.W.Frag} {h : Heap} {mg : Str → Option Value} {fa f0 f1 f2 f3 f4 f5 f6 f7 f8 f9 f10 f11 f12 f13 f14 f15 f16 f17 f18 f19 f20 f21 f22 f23 f24 f25 f26 f27 f28 f29 f30 f31 f32 f33 f34 f35 f36 f37 f38 f39 f40 f41 f42 f43 f44 f45 f46 f47 f48 c_OutOfRange c_SizeMismatch c_InvalidChooser c_TooLarge c_InvalidTerm c_InvalidContext c_ChoosersError c_Chooser : Addr} (X : K.In h) (G : h.Ns mainGlobals mg) (hfa : mg "law" = some (.ref fa))
    {od0 an0 od1 an1 od2 an2 od3 an3 od4 an4 od5 an5 od6 an6 od7 an7 od8 an8 od9 an9 od10 an10 od11 an11 od12 an12 od13 an13 od14 an14 od15 an15 od16 an16 od17 an17 od18 an18 od19 an19 od20 an20 od21 an21 od22 an22 od23 an23 od24 an24 od25 an25 od26 an26 od27 an27 od28 an28 od29 an29 od30 an30 od31 an31 od32 an32 od33 an33 od34 an34 od35 an35 od36 an36 od37 an37 od38 an38 od39 an39 od40 an40 od41 an41 od42 an42 od43 an43 od44 an44 od45 an45 od46 an46 od47 an47 od48 an48 : Option Addr} {sl0 sl1 sl2 sl3 sl4 sl5 sl6 sl7 sl8 sl9 sl10 sl11 sl12 sl13 sl14 sl15 sl16 sl17 sl18 sl19 sl20 sl21 sl22 sl23 sl24 sl25 sl26 sl27 sl28 sl29 sl30 sl31 sl32 sl33 sl34 sl35 sl36 sl37 sl38 sl39 sl40 sl41 sl42 sl43 sl44 sl45 sl46 sl47 sl48 : Array (Option Value)} {oc0 kV0 dc0 pm0 cd0 ct0 oc1 kV1 dc1 pm1 cd1 ct1 oc2 kV2 dc2 pm2 cd2 ct2 oc3 kV3 dc3 pm3 cd3 ct3 oc4 kV4 dc4 pm4 cd4 ct4 oc5 kV5 dc5 pm5 cd5 ct5 oc6 kV6 dc6 pm6 cd6 ct6 oc7 kV7 dc7 pm7 cd7 ct7 oc8 kV8 dc8 pm8 cd8 ct8 oc9 kV9 dc9 pm9 cd9 ct9 oc10 kV10 dc10 pm10 cd10 ct10 oc11 kV11 dc11 pm11 cd11 ct11 oc12 kV12 dc12 pm12 cd12 ct12 oc13 kV13 dc13 pm13 cd13 ct13 oc14 kV14 dc14 pm14 cd14 ct14 oc15 kV15 dc15 pm15 cd15 ct15 oc16 kV16 dc16 pm16 cd16 ct16 oc17 kV17 dc17 pm17 cd17 ct17 oc18 kV18 dc18 pm18 cd18 ct18 oc19 kV19 dc19 pm19 cd19 ct19 oc20 kV20 dc20 pm20 cd20 ct20 oc21 kV21 dc21 pm21 cd21 ct21 oc22 kV22 dc22 pm22 cd22 ct22 oc23 kV23 dc23 pm23 cd23 ct23 oc24 kV24 dc24 pm24 cd24 ct24 oc25 kV25 dc25 pm25 cd25 ct25 oc26 kV26 dc26 pm26 cd26 ct26 oc27 kV27 dc27 pm27 cd27 ct27 oc28 kV28 dc28 pm28 cd28 ct28 oc29 kV29 dc29 pm29 cd29 ct29 oc30 kV30 dc30 pm30 cd30 ct30 oc31 kV31 dc31 pm31 cd31 ct31 oc32 kV32 dc32 pm32 cd32 ct32 oc33 kV33 dc33 pm33 cd33 ct33 oc34 kV34 dc34 pm34 cd34 ct34 oc35 kV35 dc35 pm35 cd35 ct35 oc36 kV36 dc36 pm36 cd36 ct36 oc37 kV37 dc37 pm37 cd37 ct37 oc38 kV38 dc38 pm38 cd38 ct38 oc39 kV39 dc39 pm39 cd39 ct39 oc40 kV40 dc40 pm40 cd40 ct40 oc41 kV41 dc41 pm41 cd41 ct41 oc42 kV42 dc42 pm42 cd42 ct42 oc43 kV43 dc43 pm43 cd43 ct43 oc44 kV44 dc44 pm44 cd44 ct44 oc45 kV45 dc45 pm45 cd45 ct45 oc46 kV46 dc46 pm46 cd46 ct46 oc47 kV47 dc47 pm47 cd47 ct47 oc48 kV48 dc48 pm48 cd48 ct48 : Value} {tk_LETTERS : Tok} {tk_DIGITS : Tok} {tk_LONGEST_WORD : Tok} {tk_LONGEST_NUMBER : Tok} {tk_NUMBERS_END : Tok} {tk_DEEPEST_TUPLE : Tok} {tk_MOST_OUTCOMES : Tok} {tk_MOST_SMALL_OPTIONS : Tok} {tk_MOST_SMALL_CONTEXTS : Tok} {tk_MOST_EXPONENT : Tok} {fi_InvalidChooser cda_InvalidChooser cc_InvalidChooser ns_InvalidChooser : Addr} {oci_InvalidChooser kVi_InvalidChooser dci_InvalidChooser pmi_InvalidChooser cti_InvalidChooser clc_InvalidChooser ccl_InvalidChooser : Value} {odi_InvalidChooser ani_InvalidChooser cld_InvalidChooser cdd_InvalidChooser dd_InvalidChooser : Option Addr} {sli_InvalidChooser csl_InvalidChooser ccs_InvalidChooser : Array (Option Value)} {vs_InvalidChooser : Array Value} {fl_InvalidChooser nm_InvalidChooser qn_InvalidChooser : Str} {tf_InvalidChooser : Tok} {bs_InvalidChooser bm_InvalidChooser sb2_InvalidChooser : List Value} {sn_InvalidChooser : List Str} {ab_InvalidChooser : Bool} {col_InvalidChooser : Option Bool} {k0_InvalidChooser k1_InvalidChooser k2_InvalidChooser k3_InvalidChooser k5_InvalidChooser : Option Value} {foI_ foJ_ : Option Value}
    (g_Chooser : PySem.W.nsIn K mainGlobals "Chooser" = some (some (.ref c_Chooser)))
    (a0 : PySem.W.nsIn K mainGlobals "is_number" = some (some (.ref f0)))
    (l0 : K.lookup f0 = some ⟨oc0, od0, .func (PySem.W.fnOf "is_number" "is_number" (defArgs s_is_number) (defBody s_is_number) (defScope s_is_number) .none kV0 dc0 pm0 an0 cd0 ct0), sl0⟩)
    (c0 : PySem.W.codeIn K cd0 "is_number" = true)
    (k0 : PySem.W.keepIn K (.ref f0) = true)
    (a1 : PySem.W.nsIn K mainGlobals "is_below" = some (some (.ref f1)))
    (l1 : K.lookup f1 = some ⟨oc1, od1, .func (PySem.W.fnOf "is_below" "is_below" (defArgs s_is_below) (defBody s_is_below) (defScope s_is_below) .none kV1 dc1 pm1 an1 cd1 ct1), sl1⟩)
    (c1 : PySem.W.codeIn K cd1 "is_below" = true)
    (k1 : PySem.W.keepIn K (.ref f1) = true)
    (a2 : PySem.W.nsIn K mainGlobals "count_choices" = some (some (.ref f2)))
    (l2 : K.lookup f2 = some ⟨oc2, od2, .func (PySem.W.fnOf "count_choices" "count_choices" (defArgs s_count_choices) (defBody s_count_choices) (defScope s_count_choices) .none kV2 dc2 pm2 an2 cd2 ct2), sl2⟩)
    (c2 : PySem.W.codeIn K cd2 "count_choices" = true)
    (k2 : PySem.W.keepIn K (.ref f2) = true)
    (a3 : PySem.W.nsIn K mainGlobals "choice_index" = some (some (.ref f3)))
    (l3 : K.lookup f3 = some ⟨oc3, od3, .func (PySem.W.fnOf "choice_index" "choice_index" (defArgs s_choice_index) (defBody s_choice_index) (defScope s_choice_index) .none kV3 dc3 pm3 an3 cd3 ct3), sl3⟩)
    (c3 : PySem.W.codeIn K cd3 "choice_index" = true)
    (k3 : PySem.W.keepIn K (.ref f3) = true)
    (a4 : PySem.W.nsIn K mainGlobals "has_outcomes" = some (some (.ref f4)))
    (l4 : K.lookup f4 = some ⟨oc4, od4, .func (PySem.W.fnOf "has_outcomes" "has_outcomes" (defArgs s_has_outcomes) (defBody s_has_outcomes) (defScope s_has_outcomes) .none kV4 dc4 pm4 an4 cd4 ct4), sl4⟩)
    (c4 : PySem.W.codeIn K cd4 "has_outcomes" = true)
    (k4 : PySem.W.keepIn K (.ref f4) = true)
    (a5 : PySem.W.nsIn K mainGlobals "is_small" = some (some (.ref f5)))
    (l5 : K.lookup f5 = some ⟨oc5, od5, .func (PySem.W.fnOf "is_small" "is_small" (defArgs s_is_small) (defBody s_is_small) (defScope s_is_small) .none kV5 dc5 pm5 an5 cd5 ct5), sl5⟩)
    (c5 : PySem.W.codeIn K cd5 "is_small" = true)
    (k5 : PySem.W.keepIn K (.ref f5) = true)
    (a6 : PySem.W.nsIn K mainGlobals "require_same_outcomes" = some (some (.ref f6)))
    (l6 : K.lookup f6 = some ⟨oc6, od6, .func (PySem.W.fnOf "require_same_outcomes" "require_same_outcomes" (defArgs s_require_same_outcomes) (defBody s_require_same_outcomes) (defScope s_require_same_outcomes) .none kV6 dc6 pm6 an6 cd6 ct6), sl6⟩)
    (c6 : PySem.W.codeIn K cd6 "require_same_outcomes" = true)
    (k6 : PySem.W.keepIn K (.ref f6) = true)
    (a7 : PySem.W.nsIn K mainGlobals "count_contexts" = some (some (.ref f7)))
    (l7 : K.lookup f7 = some ⟨oc7, od7, .func (PySem.W.fnOf "count_contexts" "count_contexts" (defArgs s_count_contexts) (defBody s_count_contexts) (defScope s_count_contexts) .none kV7 dc7 pm7 an7 cd7 ct7), sl7⟩)
    (c7 : PySem.W.codeIn K cd7 "count_contexts" = true)
    (k7 : PySem.W.keepIn K (.ref f7) = true)
    (a8 : PySem.W.nsIn K mainGlobals "rows_through" = some (some (.ref f8)))
    (l8 : K.lookup f8 = some ⟨oc8, od8, .func (PySem.W.fnOf "rows_through" "rows_through" (defArgs s_rows_through) (defBody s_rows_through) (defScope s_rows_through) .none kV8 dc8 pm8 an8 cd8 ct8), sl8⟩)
    (c8 : PySem.W.codeIn K cd8 "rows_through" = true)
    (k8 : PySem.W.keepIn K (.ref f8) = true)
    (a9 : PySem.W.nsIn K mainGlobals "all_contexts" = some (some (.ref f9)))
    (l9 : K.lookup f9 = some ⟨oc9, od9, .func (PySem.W.fnOf "all_contexts" "all_contexts" (defArgs s_all_contexts) (defBody s_all_contexts) (defScope s_all_contexts) .none kV9 dc9 pm9 an9 cd9 ct9), sl9⟩)
    (c9 : PySem.W.codeIn K cd9 "all_contexts" = true)
    (k9 : PySem.W.keepIn K (.ref f9) = true)
    (a10 : PySem.W.nsIn K mainGlobals "context_index" = some (some (.ref f10)))
    (l10 : K.lookup f10 = some ⟨oc10, od10, .func (PySem.W.fnOf "context_index" "context_index" (defArgs s_context_index) (defBody s_context_index) (defScope s_context_index) .none kV10 dc10 pm10 an10 cd10 ct10), sl10⟩)
    (c10 : PySem.W.codeIn K cd10 "context_index" = true)
    (k10 : PySem.W.keepIn K (.ref f10) = true)
    (a11 : PySem.W.nsIn K mainGlobals "segments_of" = some (some (.ref f11)))
    (l11 : K.lookup f11 = some ⟨oc11, od11, .func (PySem.W.fnOf "segments_of" "segments_of" (defArgs s_segments_of) (defBody s_segments_of) (defScope s_segments_of) .none kV11 dc11 pm11 an11 cd11 ct11), sl11⟩)
    (c11 : PySem.W.codeIn K cd11 "segments_of" = true)
    (k11 : PySem.W.keepIn K (.ref f11) = true)
    (a12 : PySem.W.nsIn K mainGlobals "wrong_index" = some (some (.ref f12)))
    (l12 : K.lookup f12 = some ⟨oc12, od12, .func (PySem.W.fnOf "wrong_index" "wrong_index" (defArgs s_wrong_index) (defBody s_wrong_index) (defScope s_wrong_index) .none kV12 dc12 pm12 an12 cd12 ct12), sl12⟩)
    (c12 : PySem.W.codeIn K cd12 "wrong_index" = true)
    (k12 : PySem.W.keepIn K (.ref f12) = true)
    (a13 : PySem.W.nsIn K mainGlobals "row_behind" = some (some (.ref f13)))
    (l13 : K.lookup f13 = some ⟨oc13, od13, .func (PySem.W.fnOf "row_behind" "row_behind" (defArgs s_row_behind) (defBody s_row_behind) (defScope s_row_behind) .none kV13 dc13 pm13 an13 cd13 ct13), sl13⟩)
    (c13 : PySem.W.codeIn K cd13 "row_behind" = true)
    (k13 : PySem.W.keepIn K (.ref f13) = true)
    (a14 : PySem.W.nsIn K mainGlobals "option_behind" = some (some (.ref f14)))
    (l14 : K.lookup f14 = some ⟨oc14, od14, .func (PySem.W.fnOf "option_behind" "option_behind" (defArgs s_option_behind) (defBody s_option_behind) (defScope s_option_behind) .none kV14 dc14 pm14 an14 cd14 ct14), sl14⟩)
    (c14 : PySem.W.codeIn K cd14 "option_behind" = true)
    (k14 : PySem.W.keepIn K (.ref f14) = true)
    (a15 : PySem.W.nsIn K mainGlobals "segment_answers" = some (some (.ref f15)))
    (l15 : K.lookup f15 = some ⟨oc15, od15, .func (PySem.W.fnOf "segment_answers" "segment_answers" (defArgs s_segment_answers) (defBody s_segment_answers) (defScope s_segment_answers) .none kV15 dc15 pm15 an15 cd15 ct15), sl15⟩)
    (c15 : PySem.W.codeIn K cd15 "segment_answers" = true)
    (k15 : PySem.W.keepIn K (.ref f15) = true)
    (a16 : PySem.W.nsIn K mainGlobals "answered_context" = some (some (.ref f16)))
    (l16 : K.lookup f16 = some ⟨oc16, od16, .func (PySem.W.fnOf "answered_context" "answered_context" (defArgs s_answered_context) (defBody s_answered_context) (defScope s_answered_context) .none kV16 dc16 pm16 an16 cd16 ct16), sl16⟩)
    (c16 : PySem.W.codeIn K cd16 "answered_context" = true)
    (k16 : PySem.W.keepIn K (.ref f16) = true)
    (a17 : PySem.W.nsIn K mainGlobals "picked_option" = some (some (.ref f17)))
    (l17 : K.lookup f17 = some ⟨oc17, od17, .func (PySem.W.fnOf "picked_option" "picked_option" (defArgs s_picked_option) (defBody s_picked_option) (defScope s_picked_option) .none kV17 dc17 pm17 an17 cd17 ct17), sl17⟩)
    (c17 : PySem.W.codeIn K cd17 "picked_option" = true)
    (k17 : PySem.W.keepIn K (.ref f17) = true)
    (a18 : PySem.W.findIn K (.ref c_Chooser) "__init__" = some (some (.ref f18)))
    (i18 : PySem.W.isFn K (.ref f18) = true)
    (l18 : K.lookup f18 = some ⟨oc18, od18, .func (PySem.W.fnOf "__init__" "Chooser.__init__" (defArgs s_Chooser___init__) (defBody s_Chooser___init__) (defScope s_Chooser___init__) .none kV18 dc18 pm18 an18 cd18 ct18), sl18⟩)
    (c18 : PySem.W.codeIn K cd18 "Chooser.__init__" = true)
    (k18 : PySem.W.keepIn K (.ref f18) = true)
    (a19 : PySem.W.findIn K (.ref c_Chooser) "__mul__" = some (some (.ref f19)))
    (i19 : PySem.W.isFn K (.ref f19) = true)
    (l19 : K.lookup f19 = some ⟨oc19, od19, .func (PySem.W.fnOf "__mul__" "Chooser.__mul__" (defArgs s_Chooser___mul__) (defBody s_Chooser___mul__) (defScope s_Chooser___mul__) .none kV19 dc19 pm19 an19 cd19 ct19), sl19⟩)
    (c19 : PySem.W.codeIn K cd19 "Chooser.__mul__" = true)
    (k19 : PySem.W.keepIn K (.ref f19) = true)
    (a20 : PySem.W.findIn K (.ref c_Chooser) "__pow__" = some (some (.ref f20)))
    (i20 : PySem.W.isFn K (.ref f20) = true)
    (l20 : K.lookup f20 = some ⟨oc20, od20, .func (PySem.W.fnOf "__pow__" "Chooser.__pow__" (defArgs s_Chooser___pow__) (defBody s_Chooser___pow__) (defScope s_Chooser___pow__) .none kV20 dc20 pm20 an20 cd20 ct20), sl20⟩)
    (c20 : PySem.W.codeIn K cd20 "Chooser.__pow__" = true)
    (k20 : PySem.W.keepIn K (.ref f20) = true)
    (a21 : PySem.W.nsIn K mainGlobals "require_followed" = some (some (.ref f21)))
    (l21 : K.lookup f21 = some ⟨oc21, od21, .func (PySem.W.fnOf "require_followed" "require_followed" (defArgs s_require_followed) (defBody s_require_followed) (defScope s_require_followed) .none kV21 dc21 pm21 an21 cd21 ct21), sl21⟩)
    (c21 : PySem.W.codeIn K cd21 "require_followed" = true)
    (k21 : PySem.W.keepIn K (.ref f21) = true)
    (a22 : PySem.W.nsIn K mainGlobals "require_small_behind" = some (some (.ref f22)))
    (l22 : K.lookup f22 = some ⟨oc22, od22, .func (PySem.W.fnOf "require_small_behind" "require_small_behind" (defArgs s_require_small_behind) (defBody s_require_small_behind) (defScope s_require_small_behind) .none kV22 dc22 pm22 an22 cd22 ct22), sl22⟩)
    (c22 : PySem.W.codeIn K cd22 "require_small_behind" = true)
    (k22 : PySem.W.keepIn K (.ref f22) = true)
    (a23 : PySem.W.nsIn K mainGlobals "option_counts" = some (some (.ref f23)))
    (l23 : K.lookup f23 = some ⟨oc23, od23, .func (PySem.W.fnOf "option_counts" "option_counts" (defArgs s_option_counts) (defBody s_option_counts) (defScope s_option_counts) .none kV23 dc23 pm23 an23 cd23 ct23), sl23⟩)
    (c23 : PySem.W.codeIn K cd23 "option_counts" = true)
    (k23 : PySem.W.keepIn K (.ref f23) = true)
    (a24 : PySem.W.nsIn K mainGlobals "put_behind" = some (some (.ref f24)))
    (l24 : K.lookup f24 = some ⟨oc24, od24, .func (PySem.W.fnOf "put_behind" "put_behind" (defArgs s_put_behind) (defBody s_put_behind) (defScope s_put_behind) .none kV24 dc24 pm24 an24 cd24 ct24), sl24⟩)
    (c24 : PySem.W.codeIn K cd24 "put_behind" = true)
    (k24 : PySem.W.keepIn K (.ref f24) = true)
    (a25 : PySem.W.nsIn K mainGlobals "put_in_turn" = some (some (.ref f25)))
    (l25 : K.lookup f25 = some ⟨oc25, od25, .func (PySem.W.fnOf "put_in_turn" "put_in_turn" (defArgs s_put_in_turn) (defBody s_put_in_turn) (defScope s_put_in_turn) .none kV25 dc25 pm25 an25 cd25 ct25), sl25⟩)
    (c25 : PySem.W.codeIn K cd25 "put_in_turn" = true)
    (k25 : PySem.W.keepIn K (.ref f25) = true)
    (a26 : PySem.W.nsIn K mainGlobals "_law_start" = some (some (.ref f26)))
    (l26 : K.lookup f26 = some ⟨oc26, od26, .func (PySem.W.fnOf "_law_start" "_law_start" (defArgs s__law_start) (defBody s__law_start) (defScope s__law_start) .none kV26 dc26 pm26 an26 cd26 ct26), sl26⟩)
    (c26 : PySem.W.codeIn K cd26 "_law_start" = true)
    (k26 : PySem.W.keepIn K (.ref f26) = true)
    (a27 : PySem.W.nsIn K mainGlobals "_law_pick" = some (some (.ref f27)))
    (l27 : K.lookup f27 = some ⟨oc27, od27, .func (PySem.W.fnOf "_law_pick" "_law_pick" (defArgs s__law_pick) (defBody s__law_pick) (defScope s__law_pick) .none kV27 dc27 pm27 an27 cd27 ct27), sl27⟩)
    (c27 : PySem.W.codeIn K cd27 "_law_pick" = true)
    (k27 : PySem.W.keepIn K (.ref f27) = true)
    (a28 : PySem.W.nsIn K mainGlobals "_law_same" = some (some (.ref f28)))
    (l28 : K.lookup f28 = some ⟨oc28, od28, .func (PySem.W.fnOf "_law_same" "_law_same" (defArgs s__law_same) (defBody s__law_same) (defScope s__law_same) .none kV28 dc28 pm28 an28 cd28 ct28), sl28⟩)
    (c28 : PySem.W.codeIn K cd28 "_law_same" = true)
    (k28 : PySem.W.keepIn K (.ref f28) = true)
    (a29 : PySem.W.nsIn K mainGlobals "_law_contexts" = some (some (.ref f29)))
    (l29 : K.lookup f29 = some ⟨oc29, od29, .func (PySem.W.fnOf "_law_contexts" "_law_contexts" (defArgs s__law_contexts) (defBody s__law_contexts) (defScope s__law_contexts) .none kV29 dc29 pm29 an29 cd29 ct29), sl29⟩)
    (c29 : PySem.W.codeIn K cd29 "_law_contexts" = true)
    (k29 : PySem.W.keepIn K (.ref f29) = true)
    (a30 : PySem.W.nsIn K mainGlobals "_law_context" = some (some (.ref f30)))
    (l30 : K.lookup f30 = some ⟨oc30, od30, .func (PySem.W.fnOf "_law_context" "_law_context" (defArgs s__law_context) (defBody s__law_context) (defScope s__law_context) .none kV30 dc30 pm30 an30 cd30 ct30), sl30⟩)
    (c30 : PySem.W.codeIn K cd30 "_law_context" = true)
    (k30 : PySem.W.keepIn K (.ref f30) = true)
    (a31 : PySem.W.nsIn K mainGlobals "_law_number" = some (some (.ref f31)))
    (l31 : K.lookup f31 = some ⟨oc31, od31, .func (PySem.W.fnOf "_law_number" "_law_number" (defArgs s__law_number) (defBody s__law_number) (defScope s__law_number) .none kV31 dc31 pm31 an31 cd31 ct31), sl31⟩)
    (c31 : PySem.W.codeIn K cd31 "_law_number" = true)
    (k31 : PySem.W.keepIn K (.ref f31) = true)
    (a32 : PySem.W.nsIn K mainGlobals "_law_row" = some (some (.ref f32)))
    (l32 : K.lookup f32 = some ⟨oc32, od32, .func (PySem.W.fnOf "_law_row" "_law_row" (defArgs s__law_row) (defBody s__law_row) (defScope s__law_row) .none kV32 dc32 pm32 an32 cd32 ct32), sl32⟩)
    (c32 : PySem.W.codeIn K cd32 "_law_row" = true)
    (k32 : PySem.W.keepIn K (.ref f32) = true)
    (a33 : PySem.W.nsIn K mainGlobals "_law_segments" = some (some (.ref f33)))
    (l33 : K.lookup f33 = some ⟨oc33, od33, .func (PySem.W.fnOf "_law_segments" "_law_segments" (defArgs s__law_segments) (defBody s__law_segments) (defScope s__law_segments) .none kV33 dc33 pm33 an33 cd33 ct33), sl33⟩)
    (c33 : PySem.W.codeIn K cd33 "_law_segments" = true)
    (k33 : PySem.W.keepIn K (.ref f33) = true)
    (a34 : PySem.W.nsIn K mainGlobals "_law_put" = some (some (.ref f34)))
    (l34 : K.lookup f34 = some ⟨oc34, od34, .func (PySem.W.fnOf "_law_put" "_law_put" (defArgs s__law_put) (defBody s__law_put) (defScope s__law_put) .none kV34 dc34 pm34 an34 cd34 ct34), sl34⟩)
    (c34 : PySem.W.codeIn K cd34 "_law_put" = true)
    (k34 : PySem.W.keepIn K (.ref f34) = true)
    (a35 : PySem.W.nsIn K mainGlobals "_law_limit" = some (some (.ref f35)))
    (l35 : K.lookup f35 = some ⟨oc35, od35, .func (PySem.W.fnOf "_law_limit" "_law_limit" (defArgs s__law_limit) (defBody s__law_limit) (defScope s__law_limit) .none kV35 dc35 pm35 an35 cd35 ct35), sl35⟩)
    (c35 : PySem.W.codeIn K cd35 "_law_limit" = true)
    (k35 : PySem.W.keepIn K (.ref f35) = true)
    (a36 : PySem.W.nsIn K mainGlobals "_law_nested" = some (some (.ref f36)))
    (l36 : K.lookup f36 = some ⟨oc36, od36, .func (PySem.W.fnOf "_law_nested" "_law_nested" (defArgs s__law_nested) (defBody s__law_nested) (defScope s__law_nested) .none kV36 dc36 pm36 an36 cd36 ct36), sl36⟩)
    (c36 : PySem.W.codeIn K cd36 "_law_nested" = true)
    (k36 : PySem.W.keepIn K (.ref f36) = true)
    (a37 : PySem.W.nsIn K mainGlobals "_law_put_row" = some (some (.ref f37)))
    (l37 : K.lookup f37 = some ⟨oc37, od37, .func (PySem.W.fnOf "_law_put_row" "_law_put_row" (defArgs s__law_put_row) (defBody s__law_put_row) (defScope s__law_put_row) .none kV37 dc37 pm37 an37 cd37 ct37), sl37⟩)
    (c37 : PySem.W.codeIn K cd37 "_law_put_row" = true)
    (k37 : PySem.W.keepIn K (.ref f37) = true)
    (a38 : PySem.W.nsIn K mainGlobals "_law_fits" = some (some (.ref f38)))
    (l38 : K.lookup f38 = some ⟨oc38, od38, .func (PySem.W.fnOf "_law_fits" "_law_fits" (defArgs s__law_fits) (defBody s__law_fits) (defScope s__law_fits) .none kV38 dc38 pm38 an38 cd38 ct38), sl38⟩)
    (c38 : PySem.W.codeIn K cd38 "_law_fits" = true)
    (k38 : PySem.W.keepIn K (.ref f38) = true)
    (a39 : PySem.W.nsIn K mainGlobals "_law_brackets" = some (some (.ref f39)))
    (l39 : K.lookup f39 = some ⟨oc39, od39, .func (PySem.W.fnOf "_law_brackets" "_law_brackets" (defArgs s__law_brackets) (defBody s__law_brackets) (defScope s__law_brackets) .none kV39 dc39 pm39 an39 cd39 ct39), sl39⟩)
    (c39 : PySem.W.codeIn K cd39 "_law_brackets" = true)
    (k39 : PySem.W.keepIn K (.ref f39) = true)
    (a40 : PySem.W.nsIn K mainGlobals "_law_sizes_in_turn" = some (some (.ref f40)))
    (l40 : K.lookup f40 = some ⟨oc40, od40, .func (PySem.W.fnOf "_law_sizes_in_turn" "_law_sizes_in_turn" (defArgs s__law_sizes_in_turn) (defBody s__law_sizes_in_turn) (defScope s__law_sizes_in_turn) .none kV40 dc40 pm40 an40 cd40 ct40), sl40⟩)
    (c40 : PySem.W.codeIn K cd40 "_law_sizes_in_turn" = true)
    (k40 : PySem.W.keepIn K (.ref f40) = true)
    (a41 : PySem.W.nsIn K mainGlobals "_law_turned_row" = some (some (.ref f41)))
    (l41 : K.lookup f41 = some ⟨oc41, od41, .func (PySem.W.fnOf "_law_turned_row" "_law_turned_row" (defArgs s__law_turned_row) (defBody s__law_turned_row) (defScope s__law_turned_row) .none kV41 dc41 pm41 an41 cd41 ct41), sl41⟩)
    (c41 : PySem.W.codeIn K cd41 "_law_turned_row" = true)
    (k41 : PySem.W.keepIn K (.ref f41) = true)
    (a42 : PySem.W.nsIn K mainGlobals "_law_in_turn" = some (some (.ref f42)))
    (l42 : K.lookup f42 = some ⟨oc42, od42, .func (PySem.W.fnOf "_law_in_turn" "_law_in_turn" (defArgs s__law_in_turn) (defBody s__law_in_turn) (defScope s__law_in_turn) .none kV42 dc42 pm42 an42 cd42 ct42), sl42⟩)
    (c42 : PySem.W.codeIn K cd42 "_law_in_turn" = true)
    (k42 : PySem.W.keepIn K (.ref f42) = true)
    (a43 : PySem.W.nsIn K mainGlobals "_law_power" = some (some (.ref f43)))
    (l43 : K.lookup f43 = some ⟨oc43, od43, .func (PySem.W.fnOf "_law_power" "_law_power" (defArgs s__law_power) (defBody s__law_power) (defScope s__law_power) .none kV43 dc43 pm43 an43 cd43 ct43), sl43⟩)
    (c43 : PySem.W.codeIn K cd43 "_law_power" = true)
    (k43 : PySem.W.keepIn K (.ref f43) = true)
    (a44 : PySem.W.nsIn K mainGlobals "_law_do" = some (some (.ref f44)))
    (l44 : K.lookup f44 = some ⟨oc44, od44, .func (PySem.W.fnOf "_law_do" "_law_do" (defArgs s__law_do) (defBody s__law_do) (defScope s__law_do) .none kV44 dc44 pm44 an44 cd44 ct44), sl44⟩)
    (c44 : PySem.W.codeIn K cd44 "_law_do" = true)
    (k44 : PySem.W.keepIn K (.ref f44) = true)
    (a45 : PySem.W.nsIn K mainGlobals "_law_products" = some (some (.ref f45)))
    (l45 : K.lookup f45 = some ⟨oc45, od45, .func (PySem.W.fnOf "_law_products" "_law_products" (defArgs s__law_products) (defBody s__law_products) (defScope s__law_products) .none kV45 dc45 pm45 an45 cd45 ct45), sl45⟩)
    (c45 : PySem.W.codeIn K cd45 "_law_products" = true)
    (k45 : PySem.W.keepIn K (.ref f45) = true)
    (a46 : PySem.W.nsIn K mainGlobals "_law_powers" = some (some (.ref f46)))
    (l46 : K.lookup f46 = some ⟨oc46, od46, .func (PySem.W.fnOf "_law_powers" "_law_powers" (defArgs s__law_powers) (defBody s__law_powers) (defScope s__law_powers) .none kV46 dc46 pm46 an46 cd46 ct46), sl46⟩)
    (c46 : PySem.W.codeIn K cd46 "_law_powers" = true)
    (k46 : PySem.W.keepIn K (.ref f46) = true)
    (a47 : PySem.W.nsIn K mainGlobals "_law_refused" = some (some (.ref f47)))
    (l47 : K.lookup f47 = some ⟨oc47, od47, .func (PySem.W.fnOf "_law_refused" "_law_refused" (defArgs s__law_refused) (defBody s__law_refused) (defScope s__law_refused) .none kV47 dc47 pm47 an47 cd47 ct47), sl47⟩)
    (c47 : PySem.W.codeIn K cd47 "_law_refused" = true)
    (k47 : PySem.W.keepIn K (.ref f47) = true)
    (a48 : PySem.W.nsIn K mainGlobals "law" = some (some (.ref f48)))
    (l48 : K.lookup f48 = some ⟨oc48, od48, .func (PySem.W.fnOf "law" "law" (defArgs s_law) (defBody s_law) (defScope s_law) .none kV48 dc48 pm48 an48 cd48 ct48), sl48⟩)
    (c48 : PySem.W.codeIn K cd48 "law" = true)
    (k48 : PySem.W.keepIn K (.ref f48) = true)
    (z_isinstance : PySem.W.nsIn K mainGlobals "isinstance" = some none)
    (z_int : PySem.W.nsIn K mainGlobals "int" = some none)
    (z_bool : PySem.W.nsIn K mainGlobals "bool" = some none)
    (z_all : PySem.W.nsIn K mainGlobals "all" = some none)
    (z_str : PySem.W.nsIn K mainGlobals "str" = some none)
    (z_len : PySem.W.nsIn K mainGlobals "len" = some none)
    (z_enumerate : PySem.W.nsIn K mainGlobals "enumerate" = some none)
    (z_tuple : PySem.W.nsIn K mainGlobals "tuple" = some none)
    (z_zip : PySem.W.nsIn K mainGlobals "zip" = some none)
    (z_range : PySem.W.nsIn K mainGlobals "range" = some none)
    (z_min : PySem.W.nsIn K mainGlobals "min" = some none)
    (z_sum : PySem.W.nsIn K mainGlobals "sum" = some none)
    (z_list : PySem.W.nsIn K mainGlobals "list" = some none)
    (z_max : PySem.W.nsIn K mainGlobals "max" = some none)
    (z_any : PySem.W.nsIn K mainGlobals "any" = some none)
    (z_ValueError : PySem.W.nsIn K mainGlobals "ValueError" = some none)
    (gc_LETTERS : PySem.W.nsIn K mainGlobals "LETTERS" = some (some (.str "abcdefghijklmnopqrstuvwxyz" tk_LETTERS)))
    (gc_DIGITS : PySem.W.nsIn K mainGlobals "DIGITS" = some (some (.str "0123456789" tk_DIGITS)))
    (gc_LONGEST_WORD : PySem.W.nsIn K mainGlobals "LONGEST_WORD" = some (some (.int 12 tk_LONGEST_WORD)))
    (gc_LONGEST_NUMBER : PySem.W.nsIn K mainGlobals "LONGEST_NUMBER" = some (some (.int 9 tk_LONGEST_NUMBER)))
    (gc_NUMBERS_END : PySem.W.nsIn K mainGlobals "NUMBERS_END" = some (some (.int 1000000000 tk_NUMBERS_END)))
    (gc_DEEPEST_TUPLE : PySem.W.nsIn K mainGlobals "DEEPEST_TUPLE" = some (some (.int 30 tk_DEEPEST_TUPLE)))
    (gc_MOST_OUTCOMES : PySem.W.nsIn K mainGlobals "MOST_OUTCOMES" = some (some (.int 4 tk_MOST_OUTCOMES)))
    (gc_MOST_SMALL_OPTIONS : PySem.W.nsIn K mainGlobals "MOST_SMALL_OPTIONS" = some (some (.int 8 tk_MOST_SMALL_OPTIONS)))
    (gc_MOST_SMALL_CONTEXTS : PySem.W.nsIn K mainGlobals "MOST_SMALL_CONTEXTS" = some (some (.int 256 tk_MOST_SMALL_CONTEXTS)))
    (gc_MOST_EXPONENT : PySem.W.nsIn K mainGlobals "MOST_EXPONENT" = some (some (.int 8 tk_MOST_EXPONENT)))
    (g_OutOfRange : PySem.W.nsIn K mainGlobals "OutOfRange" = some (some (.ref c_OutOfRange)))
    (g_SizeMismatch : PySem.W.nsIn K mainGlobals "SizeMismatch" = some (some (.ref c_SizeMismatch)))
    (g_InvalidChooser : PySem.W.nsIn K mainGlobals "InvalidChooser" = some (some (.ref c_InvalidChooser)))
    (g_TooLarge : PySem.W.nsIn K mainGlobals "TooLarge" = some (some (.ref c_TooLarge)))
    (g_InvalidTerm : PySem.W.nsIn K mainGlobals "InvalidTerm" = some (some (.ref c_InvalidTerm)))
    (g_InvalidContext : PySem.W.nsIn K mainGlobals "InvalidContext" = some (some (.ref c_InvalidContext)))
    (g_ChoosersError : PySem.W.nsIn K mainGlobals "ChoosersError" = some (some (.ref c_ChoosersError)))
    (x_OutOfRange : PySem.W.excIn K c_OutOfRange [.type "ValueError", .type "Exception", .type "BaseException", .type "object"] "ValueError.__new__" = true)
    (x_SizeMismatch : PySem.W.excIn K c_SizeMismatch [.type "ValueError", .type "Exception", .type "BaseException", .type "object"] "ValueError.__new__" = true)
    (x_TooLarge : PySem.W.excIn K c_TooLarge [.type "ValueError", .type "Exception", .type "BaseException", .type "object"] "ValueError.__new__" = true)
    (z_super : PySem.W.nsIn K mainGlobals "super" = some none)
    (opq_ : PySem.W.nsIn K cStatics "thirdparty.any" = some none)
    (kc_OutOfRange : PySem.W.keepIn K (.ref c_OutOfRange) = true)
    (e_OutOfRange : PySem.W.subIn K (.ref c_OutOfRange) (.type "BaseException") = some true)
    (t_OutOfRange : PySem.W.typeIn K (.ref c_OutOfRange) = some (.type "type"))
    (hg_OutOfRange : PySem.W.findIn K (.ref c_OutOfRange) "__getattribute__" = some (some (.builtin "BaseException.__getattribute__")))
    (hk_OutOfRange : PySem.W.findIn K (.ref c_OutOfRange) "__getattr__" = some none)
    (hd_OutOfRange : PySem.W.hasDictIn K c_OutOfRange = true)
    (ha_OutOfRange : PySem.W.findIn K (.ref c_OutOfRange) "__class__" = some (some (.builtin "object.__class__")))
    (hm_OutOfRange : PySem.W.mroIn K c_OutOfRange (.type "object") = some true)
    (s_OutOfRange_OutOfRange : PySem.W.subIn K (.ref c_OutOfRange) (.ref c_OutOfRange) = some true)
    (s_OutOfRange_SizeMismatch : PySem.W.subIn K (.ref c_OutOfRange) (.ref c_SizeMismatch) = some false)
    (s_OutOfRange_TooLarge : PySem.W.subIn K (.ref c_OutOfRange) (.ref c_TooLarge) = some false)
    (s_OutOfRange_InvalidTerm : PySem.W.subIn K (.ref c_OutOfRange) (.ref c_InvalidTerm) = some false)
    (s_OutOfRange_InvalidChooser : PySem.W.subIn K (.ref c_OutOfRange) (.ref c_InvalidChooser) = some false)
    (s_OutOfRange_InvalidContext : PySem.W.subIn K (.ref c_OutOfRange) (.ref c_InvalidContext) = some false)
    (s_OutOfRange_ValueError : PySem.W.subIn K (.ref c_OutOfRange) (.type "ValueError") = some true)
    (s_OutOfRange_ChoosersError : PySem.W.subIn K (.ref c_OutOfRange) (.ref c_ChoosersError) = some true)
    (kc_SizeMismatch : PySem.W.keepIn K (.ref c_SizeMismatch) = true)
    (e_SizeMismatch : PySem.W.subIn K (.ref c_SizeMismatch) (.type "BaseException") = some true)
    (t_SizeMismatch : PySem.W.typeIn K (.ref c_SizeMismatch) = some (.type "type"))
    (hg_SizeMismatch : PySem.W.findIn K (.ref c_SizeMismatch) "__getattribute__" = some (some (.builtin "BaseException.__getattribute__")))
    (hk_SizeMismatch : PySem.W.findIn K (.ref c_SizeMismatch) "__getattr__" = some none)
    (hd_SizeMismatch : PySem.W.hasDictIn K c_SizeMismatch = true)
    (ha_SizeMismatch : PySem.W.findIn K (.ref c_SizeMismatch) "__class__" = some (some (.builtin "object.__class__")))
    (hm_SizeMismatch : PySem.W.mroIn K c_SizeMismatch (.type "object") = some true)
    (s_SizeMismatch_SizeMismatch : PySem.W.subIn K (.ref c_SizeMismatch) (.ref c_SizeMismatch) = some true)
    (s_SizeMismatch_TooLarge : PySem.W.subIn K (.ref c_SizeMismatch) (.ref c_TooLarge) = some false)
    (s_SizeMismatch_OutOfRange : PySem.W.subIn K (.ref c_SizeMismatch) (.ref c_OutOfRange) = some false)
    (s_SizeMismatch_InvalidTerm : PySem.W.subIn K (.ref c_SizeMismatch) (.ref c_InvalidTerm) = some false)
    (s_SizeMismatch_InvalidChooser : PySem.W.subIn K (.ref c_SizeMismatch) (.ref c_InvalidChooser) = some false)
    (s_SizeMismatch_InvalidContext : PySem.W.subIn K (.ref c_SizeMismatch) (.ref c_InvalidContext) = some false)
    (s_SizeMismatch_ValueError : PySem.W.subIn K (.ref c_SizeMismatch) (.type "ValueError") = some true)
    (s_SizeMismatch_ChoosersError : PySem.W.subIn K (.ref c_SizeMismatch) (.ref c_ChoosersError) = some true)
    (kc_InvalidChooser : PySem.W.keepIn K (.ref c_InvalidChooser) = true)
    (e_InvalidChooser : PySem.W.subIn K (.ref c_InvalidChooser) (.type "BaseException") = some true)
    (t_InvalidChooser : PySem.W.typeIn K (.ref c_InvalidChooser) = some (.type "type"))
    (hg_InvalidChooser : PySem.W.findIn K (.ref c_InvalidChooser) "__getattribute__" = some (some (.builtin "BaseException.__getattribute__")))
    (hk_InvalidChooser : PySem.W.findIn K (.ref c_InvalidChooser) "__getattr__" = some none)
    (hd_InvalidChooser : PySem.W.hasDictIn K c_InvalidChooser = true)
    (ha_InvalidChooser : PySem.W.findIn K (.ref c_InvalidChooser) "__class__" = some (some (.builtin "object.__class__")))
    (hm_InvalidChooser : PySem.W.mroIn K c_InvalidChooser (.type "object") = some true)
    (s_InvalidChooser_InvalidChooser : PySem.W.subIn K (.ref c_InvalidChooser) (.ref c_InvalidChooser) = some true)
    (s_InvalidChooser_SizeMismatch : PySem.W.subIn K (.ref c_InvalidChooser) (.ref c_SizeMismatch) = some false)
    (s_InvalidChooser_TooLarge : PySem.W.subIn K (.ref c_InvalidChooser) (.ref c_TooLarge) = some false)
    (s_InvalidChooser_OutOfRange : PySem.W.subIn K (.ref c_InvalidChooser) (.ref c_OutOfRange) = some false)
    (s_InvalidChooser_InvalidTerm : PySem.W.subIn K (.ref c_InvalidChooser) (.ref c_InvalidTerm) = some false)
    (s_InvalidChooser_InvalidContext : PySem.W.subIn K (.ref c_InvalidChooser) (.ref c_InvalidContext) = some false)
    (s_InvalidChooser_ValueError : PySem.W.subIn K (.ref c_InvalidChooser) (.type "ValueError") = some true)
    (s_InvalidChooser_ChoosersError : PySem.W.subIn K (.ref c_InvalidChooser) (.ref c_ChoosersError) = some true)
    (kc_TooLarge : PySem.W.keepIn K (.ref c_TooLarge) = true)
    (e_TooLarge : PySem.W.subIn K (.ref c_TooLarge) (.type "BaseException") = some true)
    (t_TooLarge : PySem.W.typeIn K (.ref c_TooLarge) = some (.type "type"))
    (hg_TooLarge : PySem.W.findIn K (.ref c_TooLarge) "__getattribute__" = some (some (.builtin "BaseException.__getattribute__")))
    (hk_TooLarge : PySem.W.findIn K (.ref c_TooLarge) "__getattr__" = some none)
    (hd_TooLarge : PySem.W.hasDictIn K c_TooLarge = true)
    (ha_TooLarge : PySem.W.findIn K (.ref c_TooLarge) "__class__" = some (some (.builtin "object.__class__")))
    (hm_TooLarge : PySem.W.mroIn K c_TooLarge (.type "object") = some true)
    (s_TooLarge_TooLarge : PySem.W.subIn K (.ref c_TooLarge) (.ref c_TooLarge) = some true)
    (s_TooLarge_SizeMismatch : PySem.W.subIn K (.ref c_TooLarge) (.ref c_SizeMismatch) = some false)
    (s_TooLarge_OutOfRange : PySem.W.subIn K (.ref c_TooLarge) (.ref c_OutOfRange) = some false)
    (s_TooLarge_InvalidTerm : PySem.W.subIn K (.ref c_TooLarge) (.ref c_InvalidTerm) = some false)
    (s_TooLarge_InvalidChooser : PySem.W.subIn K (.ref c_TooLarge) (.ref c_InvalidChooser) = some false)
    (s_TooLarge_InvalidContext : PySem.W.subIn K (.ref c_TooLarge) (.ref c_InvalidContext) = some false)
    (s_TooLarge_ValueError : PySem.W.subIn K (.ref c_TooLarge) (.type "ValueError") = some true)
    (s_TooLarge_ChoosersError : PySem.W.subIn K (.ref c_TooLarge) (.ref c_ChoosersError) = some true)
    (ic_InvalidChooser : PySem.W.findIn K (.ref c_InvalidChooser) "__init__" = some (some (.ref fi_InvalidChooser)))
    (li_InvalidChooser : K.lookup fi_InvalidChooser = some ⟨oci_InvalidChooser, odi_InvalidChooser, .func (PySem.W.ksFn "__init__" "InvalidChooser.__init__" (defArgs si_InvalidChooser) (defBody si_InvalidChooser) (defScope si_InvalidChooser) .none kVi_InvalidChooser dci_InvalidChooser pmi_InvalidChooser ani_InvalidChooser (.ref cda_InvalidChooser) cti_InvalidChooser cc_InvalidChooser), sli_InvalidChooser⟩)
    (cdi_InvalidChooser : PySem.W.codeIn K (.ref cda_InvalidChooser) "InvalidChooser.__init__" = true)
    (ti_InvalidChooser : PySem.W.typeIn K (.ref fi_InvalidChooser) = some (.type "function"))
    (no_InvalidChooser : PySem.W.findIn K (.ref c_InvalidChooser) "index" = some none)
    (cell_InvalidChooser : K.lookup cc_InvalidChooser = some ⟨clc_InvalidChooser, cld_InvalidChooser, .cell (some (.ref c_InvalidChooser)), csl_InvalidChooser⟩)
    (own_InvalidChooser : PySem.W.isClsIn K c_InvalidChooser = true)
    (sb_InvalidChooser : PySem.W.mroIn K c_InvalidChooser (.ref c_InvalidChooser) = some true)
    (ve_InvalidChooser : PySem.W.subIn K (.ref c_InvalidChooser) (.type "ValueError") = some true)
    (sup_InvalidChooser : PySem.W.ks_superIn K c_InvalidChooser c_InvalidChooser "__init__" = some (some (.builtin "ValueError.__init__")))
    (code_InvalidChooser : K.lookup cda_InvalidChooser = some ⟨ccl_InvalidChooser, cdd_InvalidChooser, .fields vs_InvalidChooser, ccs_InvalidChooser⟩)
    (cfl_InvalidChooser : vs_InvalidChooser[2]? = some (.str fl_InvalidChooser tf_InvalidChooser))
    (hfl_InvalidChooser : ((P.main.file : Str) == fl_InvalidChooser) = true)
    (ob_InvalidChooser : K.lookup c_InvalidChooser = some (excClassObj nm_InvalidChooser qn_InvalidChooser c_InvalidChooser ns_InvalidChooser bs_InvalidChooser bm_InvalidChooser true sn_InvalidChooser sb2_InvalidChooser ab_InvalidChooser col_InvalidChooser dd_InvalidChooser k0_InvalidChooser k1_InvalidChooser k2_InvalidChooser k3_InvalidChooser k5_InvalidChooser "ValueError.__new__"))
    (rv_InvalidChooser : PySem.HandSPX.refsVE bm_InvalidChooser = true)
    (sa_InvalidChooser : PySem.W.findIn K (.ref c_InvalidChooser) "__setattr__" = some (some (.builtin "object.__setattr__")))
    (htop_ : (P.main.scope.names.lookup ("super" : Str)).isSome = false)
    (q_OutOfRange : PySem.W.isClsIn K c_OutOfRange = true)
    (q_SizeMismatch : PySem.W.isClsIn K c_SizeMismatch = true)
    (q_InvalidChooser : PySem.W.isClsIn K c_InvalidChooser = true)
    (q_TooLarge : PySem.W.isClsIn K c_TooLarge = true)
    (q_InvalidTerm : PySem.W.isClsIn K c_InvalidTerm = true)
    (t_InvalidTerm : PySem.W.typeIn K (.ref c_InvalidTerm) = some (.type "type"))
    (q_InvalidContext : PySem.W.isClsIn K c_InvalidContext = true)
    (t_InvalidContext : PySem.W.typeIn K (.ref c_InvalidContext) = some (.type "type"))
    (q_ChoosersError : PySem.W.isClsIn K c_ChoosersError = true)
    (t_ChoosersError : PySem.W.typeIn K (.ref c_ChoosersError) = some (.type "type"))
    (e_ChoosersError : PySem.W.subIn K (.ref c_ChoosersError) (.type "BaseException") = some true)
    (hd_ChoosersError : PySem.W.hasDictIn K c_ChoosersError = true)
    (hn_ : PySem.W.specialIn K (.builtin "object.__class__") "__get__" = some (some (.builtin "getset_descriptor.__get__")))
    (ht_ : PySem.W.takesIn K (.builtin "object.__class__") = some true)
    (pg_Chooser : PySem.W.plainGet K c_Chooser Str.empty = true)
    (hdc_Chooser : PySem.W.hasDictIn K c_Chooser = true)
    (po_Chooser : PySem.W.plainOver K c_Chooser = true)
    (sac_Chooser : PySem.W.findIn K (.ref c_Chooser) "__setattr__" = some (some (.builtin "object.__setattr__")))
    (mk_Chooser : PySem.W.makesIn K c_Chooser = true)
    (kcc_Chooser : PySem.W.keepIn K (.ref c_Chooser) = true)
    (sf_Chooser : PySem.W.selfFirst K c_Chooser = true)
    (rp_Chooser : PySem.W.findIn K (.ref c_Chooser) "__rpow__" = some none)
    (ip_Chooser : PySem.W.findIn K (.type "int") "__pow__" = some foI_)
    (jp_Chooser : PySem.W.findIn K (.type "int") "__rpow__" = some foJ_)
    (su_Chooser : PySem.W.subIn K (.type "int") (.ref c_Chooser) = some false)
    (na_Chooser_options : PySem.W.findIn K (.ref c_Chooser) "options" = some none)
    (na_Chooser_outcomes : PySem.W.findIn K (.ref c_Chooser) "outcomes" = some none)
    (na_Chooser_row : PySem.W.findIn K (.ref c_Chooser) "row" = some none)
    : ∃ fd : FuncData, (∀ (s : Shared) (v : Value), BindsTo s fd ⟨[v], []⟩ [("_law_script", v)]) ∧ ∀ base : Heap, K.In base → base.Ns mainGlobals mg → FnOk P w K mg base (L2N.CX P w) 30 fa fd ["_law_script"] (spOf K c_law) := by
  have e := hfa.symm.trans (PySem.W.mg_of X G a48)
  cases e
  have F0 := fun_mk (st := s_is_number) l0 c0 k0
  have b0 := F0.binds (ps := ["value"]) fun _ _ _ _ _ _ us hl => match us, hl with | [_], _ => rfl
  have F1 := fun_mk (st := s_is_below) l1 c1 k1
  have b1 := F1.binds (ps := ["value", "limit"]) fun _ _ _ _ _ _ us hl => match us, hl with | [_, _], _ => rfl
  have F2 := fun_mk (st := s_count_choices) l2 c2 k2
  have b2 := F2.binds (ps := ["widths"]) fun _ _ _ _ _ _ us hl => match us, hl with | [_], _ => rfl
  have F3 := fun_mk (st := s_choice_index) l3 c3 k3
  have b3 := F3.binds (ps := ["widths", "choice"]) fun _ _ _ _ _ _ us hl => match us, hl with | [_, _], _ => rfl
  have F4 := fun_mk (st := s_has_outcomes) l4 c4 k4
  have b4 := F4.binds (ps := ["outcomes"]) fun _ _ _ _ _ _ us hl => match us, hl with | [_], _ => rfl
  have F5 := fun_mk (st := s_is_small) l5 c5 k5
  have b5 := F5.binds (ps := ["options", "outcomes"]) fun _ _ _ _ _ _ us hl => match us, hl with | [_, _], _ => rfl
  have F6 := fun_mk (st := s_require_same_outcomes) l6 c6 k6
  have b6 := F6.binds (ps := ["first", "others"]) fun _ _ _ _ _ _ us hl => match us, hl with | [_, _], _ => rfl
  have F7 := fun_mk (st := s_count_contexts) l7 c7 k7
  have b7 := F7.binds (ps := ["options", "outcomes"]) fun _ _ _ _ _ _ us hl => match us, hl with | [_, _], _ => rfl
  have F8 := fun_mk (st := s_rows_through) l8 c8 k8
  have b8 := F8.binds (ps := ["columns"]) fun _ _ _ _ _ _ us hl => match us, hl with | [_], _ => rfl
  have F9 := fun_mk (st := s_all_contexts) l9 c9 k9
  have b9 := F9.binds (ps := ["options", "outcomes"]) fun _ _ _ _ _ _ us hl => match us, hl with | [_, _], _ => rfl
  have F10 := fun_mk (st := s_context_index) l10 c10 k10
  have b10 := F10.binds (ps := ["context", "outcomes"]) fun _ _ _ _ _ _ us hl => match us, hl with | [_, _], _ => rfl
  have F11 := fun_mk (st := s_segments_of) l11 c11 k11
  have b11 := F11.binds (ps := ["sizes", "entries"]) fun _ _ _ _ _ _ us hl => match us, hl with | [_, _], _ => rfl
  have F12 := fun_mk (st := s_wrong_index) l12 c12 k12
  have b12 := F12.binds (ps := ["options", "outcomes", "row"]) fun _ _ _ _ _ _ us hl => match us, hl with | [_, _, _], _ => rfl
  have F13 := fun_mk (st := s_row_behind) l13 c13 k13
  have b13 := F13.binds (ps := ["first", "nexts"]) fun _ _ _ _ _ _ us hl => match us, hl with | [_, _], _ => rfl
  have F14 := fun_mk (st := s_option_behind) l14 c14 k14
  have b14 := F14.binds (ps := ["first", "nexts", "segments"]) fun _ _ _ _ _ _ us hl => match us, hl with | [_, _, _], _ => rfl
  have F15 := fun_mk (st := s_segment_answers) l15 c15 k15
  have b15 := F15.binds (ps := ["choosers", "segments"]) fun _ _ _ _ _ _ us hl => match us, hl with | [_, _], _ => rfl
  have F16 := fun_mk (st := s_answered_context) l16 c16 k16
  have b16 := F16.binds (ps := ["segments", "answers"]) fun _ _ _ _ _ _ us hl => match us, hl with | [_, _], _ => rfl
  have F17 := fun_mk (st := s_picked_option) l17 c17 k17
  have b17 := F17.binds (ps := ["chooser", "context"]) fun _ _ _ _ _ _ us hl => match us, hl with | [_, _], _ => rfl
  have F18 := fun_mk (st := s_Chooser___init__) l18 c18 k18
  have b18 := F18.binds (ps := ["self", "options", "outcomes", "row"]) fun _ _ _ _ _ _ us hl => match us, hl with | [_, _, _, _], _ => rfl
  have F19 := fun_mk (st := s_Chooser___mul__) l19 c19 k19
  have b19 := F19.binds (ps := ["self", "other"]) fun _ _ _ _ _ _ us hl => match us, hl with | [_, _], _ => rfl
  have F20 := fun_mk (st := s_Chooser___pow__) l20 c20 k20
  have b20 := F20.binds (ps := ["self", "other"]) fun _ _ _ _ _ _ us hl => match us, hl with | [_, _], _ => rfl
  have F21 := fun_mk (st := s_require_followed) l21 c21 k21
  have b21 := F21.binds (ps := ["first", "nexts"]) fun _ _ _ _ _ _ us hl => match us, hl with | [_, _], _ => rfl
  have F22 := fun_mk (st := s_require_small_behind) l22 c22 k22
  have b22 := F22.binds (ps := ["first", "nexts"]) fun _ _ _ _ _ _ us hl => match us, hl with | [_, _], _ => rfl
  have F23 := fun_mk (st := s_option_counts) l23 c23 k23
  have b23 := F23.binds (ps := ["nexts"]) fun _ _ _ _ _ _ us hl => match us, hl with | [_], _ => rfl
  have F24 := fun_mk (st := s_put_behind) l24 c24 k24
  have b24 := F24.binds (ps := ["first", "nexts"]) fun _ _ _ _ _ _ us hl => match us, hl with | [_, _], _ => rfl
  have F25 := fun_mk (st := s_put_in_turn) l25 c25 k25
  have b25 := bindsR (ps := ["first"]) (pv := "rest") F25 fun _ _ _ _ _ _ us rest hl => match us, rest, hl with | [_], [], _ => rfl | [_], _ :: _, _ => rfl
  have F26 := fun_mk (st := s__law_start) l26 c26 k26
  have b26 := F26.binds (ps := ["_law_script"]) fun _ _ _ _ _ _ us hl => match us, hl with | [_], _ => rfl
  have F27 := fun_mk (st := s__law_pick) l27 c27 k27
  have b27 := F27.binds (ps := ["_law_state", "_law_limit_here"]) fun _ _ _ _ _ _ us hl => match us, hl with | [_, _], _ => rfl
  have F28 := fun_mk (st := s__law_same) l28 c28 k28
  have b28 := F28.binds (ps := ["_law_actual", "_law_due"]) fun _ _ _ _ _ _ us hl => match us, hl with | [_, _], _ => rfl
  have F29 := fun_mk (st := s__law_contexts) l29 c29 k29
  have b29 := F29.binds (ps := ["_law_n", "_law_k"]) fun _ _ _ _ _ _ us hl => match us, hl with | [_, _], _ => rfl
  have F30 := fun_mk (st := s__law_context) l30 c30 k30
  have b30 := F30.binds (ps := ["_law_number_here", "_law_n", "_law_k"]) fun _ _ _ _ _ _ us hl => match us, hl with | [_, _, _], _ => rfl
  have F31 := fun_mk (st := s__law_number) l31 c31 k31
  have b31 := F31.binds (ps := ["_law_k", "_law_context_here"]) fun _ _ _ _ _ _ us hl => match us, hl with | [_, _], _ => rfl
  have F32 := fun_mk (st := s__law_row) l32 c32 k32
  have b32 := F32.binds (ps := ["_law_state", "_law_n", "_law_k"]) fun _ _ _ _ _ _ us hl => match us, hl with | [_, _, _], _ => rfl
  have F33 := fun_mk (st := s__law_segments) l33 c33 k33
  have b33 := F33.binds (ps := ["_law_sizes", "_law_context_here"]) fun _ _ _ _ _ _ us hl => match us, hl with | [_, _], _ => rfl
  have F34 := fun_mk (st := s__law_put) l34 c34 k34
  have b34 := F34.binds (ps := ["_law_row_here", "_law_rows", "_law_sizes", "_law_k", "_law_context_here"]) fun _ _ _ _ _ _ us hl => match us, hl with | [_, _, _, _, _], _ => rfl
  have F35 := fun_mk (st := s__law_limit) l35 c35 k35
  have b35 := F35.binds (ps := ["_law_state", "_law_k"]) fun _ _ _ _ _ _ us hl => match us, hl with | [_, _], _ => rfl
  have F36 := fun_mk (st := s__law_nested) l36 c36 k36
  have b36 := F36.binds (ps := ["_law_state", "_law_k"]) fun _ _ _ _ _ _ us hl => match us, hl with | [_, _], _ => rfl
  have F37 := fun_mk (st := s__law_put_row) l37 c37 k37
  have b37 := F37.binds (ps := ["_law_row_here", "_law_rows", "_law_sizes", "_law_k"]) fun _ _ _ _ _ _ us hl => match us, hl with | [_, _, _, _], _ => rfl
  have F38 := fun_mk (st := s__law_fits) l38 c38 k38
  have b38 := F38.binds (ps := ["_law_chooser", "_law_n", "_law_k", "_law_row_here"]) fun _ _ _ _ _ _ us hl => match us, hl with | [_, _, _, _], _ => rfl
  have F39 := fun_mk (st := s__law_brackets) l39 c39 k39
  have b39 := F39.binds (ps := ["_law_state", "_law_k"]) fun _ _ _ _ _ _ us hl => match us, hl with | [_, _], _ => rfl
  have F40 := fun_mk (st := s__law_sizes_in_turn) l40 c40 k40
  have b40 := F40.binds (ps := ["_law_state", "_law_k"]) fun _ _ _ _ _ _ us hl => match us, hl with | [_, _], _ => rfl
  have F41 := fun_mk (st := s__law_turned_row) l41 c41 k41
  have b41 := F41.binds (ps := ["_law_rows", "_law_sizes", "_law_k"]) fun _ _ _ _ _ _ us hl => match us, hl with | [_, _, _], _ => rfl
  have F42 := fun_mk (st := s__law_in_turn) l42 c42 k42
  have b42 := F42.binds (ps := ["_law_parts"]) fun _ _ _ _ _ _ us hl => match us, hl with | [_], _ => rfl
  have F43 := fun_mk (st := s__law_power) l43 c43 k43
  have b43 := F43.binds (ps := ["_law_part", "_law_exponent"]) fun _ _ _ _ _ _ us hl => match us, hl with | [_, _], _ => rfl
  have F44 := fun_mk (st := s__law_do) l44 c44 k44
  have b44 := F44.binds (ps := ["_law_door", "_law_first", "_law_second"]) fun _ _ _ _ _ _ us hl => match us, hl with | [_, _, _], _ => rfl
  have F45 := fun_mk (st := s__law_products) l45 c45 k45
  have b45 := F45.binds (ps := ["_law_state", "_law_k"]) fun _ _ _ _ _ _ us hl => match us, hl with | [_, _], _ => rfl
  have F46 := fun_mk (st := s__law_powers) l46 c46 k46
  have b46 := F46.binds (ps := ["_law_state", "_law_part", "_law_n", "_law_row_here", "_law_k"]) fun _ _ _ _ _ _ us hl => match us, hl with | [_, _, _, _, _], _ => rfl
  have F47 := fun_mk (st := s__law_refused) l47 c47 k47
  have b47 := F47.binds (ps := ["_law_k", "_law_part"]) fun _ _ _ _ _ _ us hl => match us, hl with | [_, _], _ => rfl
  have F48 := fun_mk (st := s_law) l48 c48 k48
  have b48 := F48.binds (ps := ["_law_script"]) fun _ _ _ _ _ _ us hl => match us, hl with | [_], _ => rfl
  have ox_InvalidChooser : OexC K c_InvalidChooser := ⟨⟨_, _, _, _, _, _, _, _, _, _, _, _, _, _, _, ob_InvalidChooser, rv_InvalidChooser⟩, sa_InvalidChooser, e_InvalidChooser, t_InvalidChooser, kc_InvalidChooser⟩
  have su_InvalidChooser : SupC K c_InvalidChooser c_InvalidChooser cc_InvalidChooser fi_InvalidChooser cda_InvalidChooser fl_InvalidChooser := ⟨ox_InvalidChooser, ⟨_, _, _, cell_InvalidChooser⟩, own_InvalidChooser, sb_InvalidChooser, ve_InvalidChooser, opq_, sup_InvalidChooser, ⟨_, _, _, _, _, code_InvalidChooser, cfl_InvalidChooser⟩⟩
  exact ⟨_, fun s v => .of_eq rfl, fun base _ _ => ok_law (⟨f0, _, F0, PySem.W.mg_of X G a0, b0,
    f1, _, F1, PySem.W.mg_of X G a1, b1,
    f2, _, F2, PySem.W.mg_of X G a2, b2,
    f3, _, F3, PySem.W.mg_of X G a3, b3,
    f4, _, F4, PySem.W.mg_of X G a4, b4,
    f5, _, F5, PySem.W.mg_of X G a5, b5,
    f6, _, F6, PySem.W.mg_of X G a6, b6,
    f7, _, F7, PySem.W.mg_of X G a7, b7,
    f8, _, F8, PySem.W.mg_of X G a8, b8,
    f9, _, F9, PySem.W.mg_of X G a9, b9,
    f10, _, F10, PySem.W.mg_of X G a10, b10,
    f11, _, F11, PySem.W.mg_of X G a11, b11,
    f12, _, F12, PySem.W.mg_of X G a12, b12,
    f13, _, F13, PySem.W.mg_of X G a13, b13,
    f14, _, F14, PySem.W.mg_of X G a14, b14,
    f15, _, F15, PySem.W.mg_of X G a15, b15,
    f16, _, F16, PySem.W.mg_of X G a16, b16,
    f17, _, F17, PySem.W.mg_of X G a17, b17,
    f18, _, F18, b18,
    f19, _, F19, b19,
    f20, _, F20, b20,
    f21, _, F21, PySem.W.mg_of X G a21, b21,
    f22, _, F22, PySem.W.mg_of X G a22, b22,
    f23, _, F23, PySem.W.mg_of X G a23, b23,
    f24, _, F24, PySem.W.mg_of X G a24, b24,
    f25, _, F25, PySem.W.mg_of X G a25, b25,
    f26, _, F26, PySem.W.mg_of X G a26, b26,
    f27, _, F27, PySem.W.mg_of X G a27, b27,
    f28, _, F28, PySem.W.mg_of X G a28, b28,
    f29, _, F29, PySem.W.mg_of X G a29, b29,
    f30, _, F30, PySem.W.mg_of X G a30, b30,
    f31, _, F31, PySem.W.mg_of X G a31, b31,
    f32, _, F32, PySem.W.mg_of X G a32, b32,
    f33, _, F33, PySem.W.mg_of X G a33, b33,
    f34, _, F34, PySem.W.mg_of X G a34, b34,
    f35, _, F35, PySem.W.mg_of X G a35, b35,
    f36, _, F36, PySem.W.mg_of X G a36, b36,
    f37, _, F37, PySem.W.mg_of X G a37, b37,
    f38, _, F38, PySem.W.mg_of X G a38, b38,
    f39, _, F39, PySem.W.mg_of X G a39, b39,
    f40, _, F40, PySem.W.mg_of X G a40, b40,
    f41, _, F41, PySem.W.mg_of X G a41, b41,
    f42, _, F42, PySem.W.mg_of X G a42, b42,
    f43, _, F43, PySem.W.mg_of X G a43, b43,
    f44, _, F44, PySem.W.mg_of X G a44, b44,
    f45, _, F45, PySem.W.mg_of X G a45, b45,
    f46, _, F46, PySem.W.mg_of X G a46, b46,
    f47, _, F47, PySem.W.mg_of X G a47, b47,
    fa, _, F48, PySem.W.mg_of X G a48, b48,
    PySem.W.mg_none_of X G z_isinstance,
    PySem.W.mg_none_of X G z_int,
    PySem.W.mg_none_of X G z_bool,
    PySem.W.mg_none_of X G z_all,
    PySem.W.mg_none_of X G z_str,
    PySem.W.mg_none_of X G z_len,
    PySem.W.mg_none_of X G z_enumerate,
    PySem.W.mg_none_of X G z_tuple,
    PySem.W.mg_none_of X G z_zip,
    PySem.W.mg_none_of X G z_range,
    PySem.W.mg_none_of X G z_min,
    PySem.W.mg_none_of X G z_sum,
    PySem.W.mg_none_of X G z_list,
    PySem.W.mg_none_of X G z_max,
    PySem.W.mg_none_of X G z_any,
    PySem.W.mg_none_of X G z_ValueError,
    ⟨_, PySem.W.mg_of X G gc_LETTERS⟩,
    ⟨_, PySem.W.mg_of X G gc_DIGITS⟩,
    ⟨_, PySem.W.mg_of X G gc_LONGEST_WORD⟩,
    ⟨_, PySem.W.mg_of X G gc_LONGEST_NUMBER⟩,
    ⟨_, PySem.W.mg_of X G gc_NUMBERS_END⟩,
    ⟨_, PySem.W.mg_of X G gc_DEEPEST_TUPLE⟩,
    ⟨_, PySem.W.mg_of X G gc_MOST_OUTCOMES⟩,
    ⟨_, PySem.W.mg_of X G gc_MOST_SMALL_OPTIONS⟩,
    ⟨_, PySem.W.mg_of X G gc_MOST_SMALL_CONTEXTS⟩,
    ⟨_, PySem.W.mg_of X G gc_MOST_EXPONENT⟩,
    c_OutOfRange, PySem.W.mg_of X G g_OutOfRange,
    c_SizeMismatch, PySem.W.mg_of X G g_SizeMismatch,
    c_InvalidChooser, PySem.W.mg_of X G g_InvalidChooser,
    c_TooLarge, PySem.W.mg_of X G g_TooLarge,
    c_InvalidTerm, PySem.W.mg_of X G g_InvalidTerm,
    c_InvalidContext, PySem.W.mg_of X G g_InvalidContext,
    c_ChoosersError, PySem.W.mg_of X G g_ChoosersError,
    fi_InvalidChooser, _, ox_InvalidChooser, ic_InvalidChooser, ti_InvalidChooser, no_InvalidChooser, ⟨hg_InvalidChooser, hk_InvalidChooser, e_InvalidChooser, hd_InvalidChooser⟩, ⟨hg_InvalidChooser, hk_InvalidChooser, e_InvalidChooser, hd_InvalidChooser, ha_InvalidChooser, hn_, ht_, hm_InvalidChooser⟩, okinit_InvalidChooser li_InvalidChooser cdi_InvalidChooser su_InvalidChooser hfl_InvalidChooser htop_ (PySem.W.mg_none_of X G z_super), Binds.all fun us hl => match us, hl with | [_, _], _ => rfl,
    kit_refS s_InvalidChooser_InvalidChooser q_SizeMismatch t_SizeMismatch s_InvalidChooser_SizeMismatch,
    kit_refS s_InvalidChooser_InvalidChooser q_TooLarge t_TooLarge s_InvalidChooser_TooLarge,
    kit_refS s_InvalidChooser_InvalidChooser q_OutOfRange t_OutOfRange s_InvalidChooser_OutOfRange,
    kit_refS s_InvalidChooser_InvalidChooser q_InvalidTerm t_InvalidTerm s_InvalidChooser_InvalidTerm,
    kit_refS s_InvalidChooser_InvalidChooser q_InvalidChooser t_InvalidChooser s_InvalidChooser_InvalidChooser,
    kit_refS s_InvalidChooser_InvalidChooser q_InvalidContext t_InvalidContext s_InvalidChooser_InvalidContext,
    kit_tyS rfl s_InvalidChooser_ValueError,
    PySem.W.exm_ref e_ChoosersError hd_ChoosersError t_ChoosersError s_InvalidChooser_ChoosersError,
    x_OutOfRange, kc_OutOfRange, e_OutOfRange, t_OutOfRange, ⟨hg_OutOfRange, hk_OutOfRange, e_OutOfRange, hd_OutOfRange, ha_OutOfRange, hn_, ht_, hm_OutOfRange⟩,
    kit_refS s_OutOfRange_OutOfRange q_SizeMismatch t_SizeMismatch s_OutOfRange_SizeMismatch,
    kit_refS s_OutOfRange_OutOfRange q_TooLarge t_TooLarge s_OutOfRange_TooLarge,
    kit_refS s_OutOfRange_OutOfRange q_OutOfRange t_OutOfRange s_OutOfRange_OutOfRange,
    kit_refS s_OutOfRange_OutOfRange q_InvalidTerm t_InvalidTerm s_OutOfRange_InvalidTerm,
    kit_refS s_OutOfRange_OutOfRange q_InvalidChooser t_InvalidChooser s_OutOfRange_InvalidChooser,
    kit_refS s_OutOfRange_OutOfRange q_InvalidContext t_InvalidContext s_OutOfRange_InvalidContext,
    kit_tyS rfl s_OutOfRange_ValueError,
    PySem.W.exm_ref e_ChoosersError hd_ChoosersError t_ChoosersError s_OutOfRange_ChoosersError,
    x_SizeMismatch, kc_SizeMismatch, e_SizeMismatch, t_SizeMismatch, ⟨hg_SizeMismatch, hk_SizeMismatch, e_SizeMismatch, hd_SizeMismatch, ha_SizeMismatch, hn_, ht_, hm_SizeMismatch⟩,
    kit_refS s_SizeMismatch_SizeMismatch q_SizeMismatch t_SizeMismatch s_SizeMismatch_SizeMismatch,
    kit_refS s_SizeMismatch_SizeMismatch q_TooLarge t_TooLarge s_SizeMismatch_TooLarge,
    kit_refS s_SizeMismatch_SizeMismatch q_OutOfRange t_OutOfRange s_SizeMismatch_OutOfRange,
    kit_refS s_SizeMismatch_SizeMismatch q_InvalidTerm t_InvalidTerm s_SizeMismatch_InvalidTerm,
    kit_refS s_SizeMismatch_SizeMismatch q_InvalidChooser t_InvalidChooser s_SizeMismatch_InvalidChooser,
    kit_refS s_SizeMismatch_SizeMismatch q_InvalidContext t_InvalidContext s_SizeMismatch_InvalidContext,
    kit_tyS rfl s_SizeMismatch_ValueError,
    PySem.W.exm_ref e_ChoosersError hd_ChoosersError t_ChoosersError s_SizeMismatch_ChoosersError,
    x_TooLarge, kc_TooLarge, e_TooLarge, t_TooLarge, ⟨hg_TooLarge, hk_TooLarge, e_TooLarge, hd_TooLarge, ha_TooLarge, hn_, ht_, hm_TooLarge⟩,
    kit_refS s_TooLarge_TooLarge q_SizeMismatch t_SizeMismatch s_TooLarge_SizeMismatch,
    kit_refS s_TooLarge_TooLarge q_TooLarge t_TooLarge s_TooLarge_TooLarge,
    kit_refS s_TooLarge_TooLarge q_OutOfRange t_OutOfRange s_TooLarge_OutOfRange,
    kit_refS s_TooLarge_TooLarge q_InvalidTerm t_InvalidTerm s_TooLarge_InvalidTerm,
    kit_refS s_TooLarge_TooLarge q_InvalidChooser t_InvalidChooser s_TooLarge_InvalidChooser,
    kit_refS s_TooLarge_TooLarge q_InvalidContext t_InvalidContext s_TooLarge_InvalidContext,
    kit_tyS rfl s_TooLarge_ValueError,
    PySem.W.exm_ref e_ChoosersError hd_ChoosersError t_ChoosersError s_TooLarge_ChoosersError,
    c_Chooser, PySem.W.mg_of X G g_Chooser, ⟨mk_Chooser, a18, i18, kcc_Chooser⟩, ⟨pg_Chooser, hdc_Chooser, po_Chooser, sac_Chooser⟩,
    sf_Chooser,
    rp_Chooser,
    ⟨_, ip_Chooser⟩,
    ⟨_, jp_Chooser⟩,
    su_Chooser,
    na_Chooser_options,
    na_Chooser_outcomes,
    na_Chooser_row,
    ⟨a19, i19, k19⟩,
    ⟨a20, i20, k20⟩⟩ : Txt P w K mg)⟩
theorem sp_law_of {K : Fg} {H : Hp} {a : Addr} {ns : List Int} (hl : ns.length ≤ 63) (hS : SqL K H a (ns.map V.int)) : spOf K c_law [.ref a] H (fun v _ => v = .bl true) fun _ _ _ => False :=
  ⟨fun _ => none, [.scr ns], fun d _ => d = .bl true, fun _ _ => False, (fun _ _ z => nomatch z), .scr (hS.elim (fun q => .inl ⟨q, .of rfl⟩) fun q => .inr q) .nil, ⟨ns, rfl, hl, rfl⟩, fun v H' d μ' _ _ r e => by subst e; exact Rep.bl_inv r, fun _ _ _ _ _ _ _ _ z => z⟩
open PyProof.Rows in
theorem walk {l : PySem.W.OpenLaw} {q : Program} {loose : List Str} {XP : (Str → Option Value) → Heap → Prop} {YP : World → Heap → Prop} {d : DefRec} {K : Params → PySem.W.Frag} (hn : l.most = some 63) (hdf : d.params.defaults = [])
    (hY : ∀ (w : World) (h : Heap), YP w h → (K w.params).In h)
    (F : ∀ (w : World) (mg : Str → Option Value) (fa : Addr) (h : Heap), (K w.params).In h → h.Ns mainGlobals mg → mg d.name = some (.ref fa) →
      ∃ fd : FuncData, (∀ (s : Shared) (u : Value), BindsTo s fd ⟨[u], []⟩ [("_law_script", u)]) ∧ ∀ base : Heap, (K w.params).In base → base.Ns mainGlobals mg → FnOk l.prog w (K w.params) mg base (L2N.CX l.prog w) 30 fa fd ["_law_script"] (spOf (K w.params) c_law)) :
    PySem.W.WalkO q loose XP YP l.row.toRowW d [] (fun f vs => PySem.call f vs) :=
  L2.walk_of (n := 63) (k := 30) (x := "_law_script") (CX := fun w => L2N.CX l.prog w) (sp := fun w => spOf (K w.params) c_law) hn (by decide) hdf ⟨rfl, by decide, by decide⟩ hY F (fun _ _ a ns hl _ hS => sp_law_of hl hS) fun _ _ _ _ _ h => by
    obtain ⟨_, _, _, _, _, _, _, _, _, _, _, _, z⟩ := h
    exact z
end LW
set_option Elab.async false
set_option linter.all false
open PySem PySem.W PyProof.Rows in
set_option maxRecDepth 100000 in
set_option maxHeartbeats 0 in
theorem PySem.Challenge.cw_choosersrow_k15_whole_brackets_of_choose_holds : PySem.Challenge.rw_choosersrow_k15_whole_brackets_of_choose.Holds := by
  w_on; o_law; k_head; (case hw => w_witness2)
  k_fill
  refine LW.walk (l := PySem.Challenge.rw_choosersrow_k15_whole_brackets_of_choose) rfl rfl (fun w h Y => PySem.W.kIn_of Y) ?F
  case F =>
    intro w mg fa h KX G hmg
    refine' LW.all_mk KX G hmg ?g_Chooser ?a0 ?l0 ?c0 ?k0 ?a1 ?l1 ?c1 ?k1 ?a2 ?l2 ?c2 ?k2 ?a3 ?l3 ?c3 ?k3 ?a4 ?l4 ?c4 ?k4 ?a5 ?l5 ?c5 ?k5 ?a6 ?l6 ?c6 ?k6 ?a7 ?l7 ?c7 ?k7 ?a8 ?l8 ?c8 ?k8 ?a9 ?l9 ?c9 ?k9 ?a10 ?l10 ?c10 ?k10 ?a11 ?l11 ?c11 ?k11 ?a12 ?l12 ?c12 ?k12 ?a13 ?l13 ?c13 ?k13 ?a14 ?l14 ?c14 ?k14 ?a15 ?l15 ?c15 ?k15 ?a16 ?l16 ?c16 ?k16 ?a17 ?l17 ?c17 ?k17 ?a18 ?i18 ?l18 ?c18 ?k18 ?a19 ?i19 ?l19 ?c19 ?k19 ?a20 ?i20 ?l20 ?c20 ?k20 ?a21 ?l21 ?c21 ?k21 ?a22 ?l22 ?c22 ?k22 ?a23 ?l23 ?c23 ?k23 ?a24 ?l24 ?c24 ?k24 ?a25 ?l25 ?c25 ?k25 ?a26 ?l26 ?c26 ?k26 ?a27 ?l27 ?c27 ?k27 ?a28 ?l28 ?c28 ?k28 ?a29 ?l29 ?c29 ?k29 ?a30 ?l30 ?c30 ?k30 ?a31 ?l31 ?c31 ?k31 ?a32 ?l32 ?c32 ?k32 ?a33 ?l33 ?c33 ?k33 ?a34 ?l34 ?c34 ?k34 ?a35 ?l35 ?c35 ?k35 ?a36 ?l36 ?c36 ?k36 ?a37 ?l37 ?c37 ?k37 ?a38 ?l38 ?c38 ?k38 ?a39 ?l39 ?c39 ?k39 ?a40 ?l40 ?c40 ?k40 ?a41 ?l41 ?c41 ?k41 ?a42 ?l42 ?c42 ?k42 ?a43 ?l43 ?c43 ?k43 ?a44 ?l44 ?c44 ?k44 ?a45 ?l45 ?c45 ?k45 ?a46 ?l46 ?c46 ?k46 ?a47 ?l47 ?c47 ?k47 ?a48 ?l48 ?c48 ?k48 ?z_isinstance ?z_int ?z_bool ?z_all ?z_str ?z_len ?z_enumerate ?z_tuple ?z_zip ?z_range ?z_min ?z_sum ?z_list ?z_max ?z_any ?z_ValueError ?gc_LETTERS ?gc_DIGITS ?gc_LONGEST_WORD ?gc_LONGEST_NUMBER ?gc_NUMBERS_END ?gc_DEEPEST_TUPLE ?gc_MOST_OUTCOMES ?gc_MOST_SMALL_OPTIONS ?gc_MOST_SMALL_CONTEXTS ?gc_MOST_EXPONENT ?g_OutOfRange ?g_SizeMismatch ?g_InvalidChooser ?g_TooLarge ?g_InvalidTerm ?g_InvalidContext ?g_ChoosersError ?x_OutOfRange ?x_SizeMismatch ?x_TooLarge ?z_super ?opq_ ?kc_OutOfRange ?e_OutOfRange ?t_OutOfRange ?hg_OutOfRange ?hk_OutOfRange ?hd_OutOfRange ?ha_OutOfRange ?hm_OutOfRange ?s_OutOfRange_OutOfRange ?s_OutOfRange_SizeMismatch ?s_OutOfRange_TooLarge ?s_OutOfRange_InvalidTerm ?s_OutOfRange_InvalidChooser ?s_OutOfRange_InvalidContext ?s_OutOfRange_ValueError ?s_OutOfRange_ChoosersError ?kc_SizeMismatch ?e_SizeMismatch ?t_SizeMismatch ?hg_SizeMismatch ?hk_SizeMismatch ?hd_SizeMismatch ?ha_SizeMismatch ?hm_SizeMismatch ?s_SizeMismatch_SizeMismatch ?s_SizeMismatch_TooLarge ?s_SizeMismatch_OutOfRange ?s_SizeMismatch_InvalidTerm ?s_SizeMismatch_InvalidChooser ?s_SizeMismatch_InvalidContext ?s_SizeMismatch_ValueError ?s_SizeMismatch_ChoosersError ?kc_InvalidChooser ?e_InvalidChooser ?t_InvalidChooser ?hg_InvalidChooser ?hk_InvalidChooser ?hd_InvalidChooser ?ha_InvalidChooser ?hm_InvalidChooser ?s_InvalidChooser_InvalidChooser ?s_InvalidChooser_SizeMismatch ?s_InvalidChooser_TooLarge ?s_InvalidChooser_OutOfRange ?s_InvalidChooser_InvalidTerm ?s_InvalidChooser_InvalidContext ?s_InvalidChooser_ValueError ?s_InvalidChooser_ChoosersError ?kc_TooLarge ?e_TooLarge ?t_TooLarge ?hg_TooLarge ?hk_TooLarge ?hd_TooLarge ?ha_TooLarge ?hm_TooLarge ?s_TooLarge_TooLarge ?s_TooLarge_SizeMismatch ?s_TooLarge_OutOfRange ?s_TooLarge_InvalidTerm ?s_TooLarge_InvalidChooser ?s_TooLarge_InvalidContext ?s_TooLarge_ValueError ?s_TooLarge_ChoosersError ?ic_InvalidChooser ?li_InvalidChooser ?cdi_InvalidChooser ?ti_InvalidChooser ?no_InvalidChooser ?cell_InvalidChooser ?own_InvalidChooser ?sb_InvalidChooser ?ve_InvalidChooser ?sup_InvalidChooser ?code_InvalidChooser ?cfl_InvalidChooser ?hfl_InvalidChooser ?ob_InvalidChooser ?rv_InvalidChooser ?sa_InvalidChooser ?htop_ ?q_OutOfRange ?q_SizeMismatch ?q_InvalidChooser ?q_TooLarge ?q_InvalidTerm ?t_InvalidTerm ?q_InvalidContext ?t_InvalidContext ?q_ChoosersError ?t_ChoosersError ?e_ChoosersError ?hd_ChoosersError ?hn_ ?ht_ ?pg_Chooser ?hdc_Chooser ?po_Chooser ?sac_Chooser ?mk_Chooser ?kcc_Chooser ?sf_Chooser ?rp_Chooser ?ip_Chooser ?jp_Chooser ?su_Chooser ?na_Chooser_options ?na_Chooser_outcomes ?na_Chooser_row
    (case g_Chooser => k_is)
    (case a0 => k_is)
    (case l0 => k_is)
    (case c0 => k_is)
    (case k0 => k_is)
    (case a1 => k_is)
    (case l1 => k_is)
    (case c1 => k_is)
    (case k1 => k_is)
    (case a2 => k_is)
    (case l2 => k_is)
    (case c2 => k_is)
    (case k2 => k_is)
    (case a3 => k_is)
    (case l3 => k_is)
    (case c3 => k_is)
    (case k3 => k_is)
    (case a4 => k_is)
    (case l4 => k_is)
    (case c4 => k_is)
    (case k4 => k_is)
    (case a5 => k_is)
    (case l5 => k_is)
    (case c5 => k_is)
    (case k5 => k_is)
    (case a6 => k_is)
    (case l6 => k_is)
    (case c6 => k_is)
    (case k6 => k_is)
    (case a7 => k_is)
    (case l7 => k_is)
    (case c7 => k_is)
    (case k7 => k_is)
    (case a8 => k_is)
    (case l8 => k_is)
    (case c8 => k_is)
    (case k8 => k_is)
    (case a9 => k_is)
    (case l9 => k_is)
    (case c9 => k_is)
    (case k9 => k_is)
    (case a10 => k_is)
    (case l10 => k_is)
    (case c10 => k_is)
    (case k10 => k_is)
    (case a11 => k_is)
    (case l11 => k_is)
    (case c11 => k_is)
    (case k11 => k_is)
    (case a12 => k_is)
    (case l12 => k_is)
    (case c12 => k_is)
    (case k12 => k_is)
    (case a13 => k_is)
    (case l13 => k_is)
    (case c13 => k_is)
    (case k13 => k_is)
    (case a14 => k_is)
    (case l14 => k_is)
    (case c14 => k_is)
    (case k14 => k_is)
    (case a15 => k_is)
    (case l15 => k_is)
    (case c15 => k_is)
    (case k15 => k_is)
    (case a16 => k_is)
    (case l16 => k_is)
    (case c16 => k_is)
    (case k16 => k_is)
    (case a17 => k_is)
    (case l17 => k_is)
    (case c17 => k_is)
    (case k17 => k_is)
    (case a18 => k_is)
    (case i18 => k_is)
    (case l18 => k_is)
    (case c18 => k_is)
    (case k18 => k_is)
    (case a19 => k_is)
    (case i19 => k_is)
    (case l19 => k_is)
    (case c19 => k_is)
    (case k19 => k_is)
    (case a20 => k_is)
    (case i20 => k_is)
    (case l20 => k_is)
    (case c20 => k_is)
    (case k20 => k_is)
    (case a21 => k_is)
    (case l21 => k_is)
    (case c21 => k_is)
    (case k21 => k_is)
    (case a22 => k_is)
    (case l22 => k_is)
    (case c22 => k_is)
    (case k22 => k_is)
    (case a23 => k_is)
    (case l23 => k_is)
    (case c23 => k_is)
    (case k23 => k_is)
    (case a24 => k_is)
    (case l24 => k_is)
    (case c24 => k_is)
    (case k24 => k_is)
    (case a25 => k_is)
    (case l25 => k_is)
    (case c25 => k_is)
    (case k25 => k_is)
    (case a26 => k_is)
    (case l26 => k_is)
    (case c26 => k_is)
    (case k26 => k_is)
    (case a27 => k_is)
    (case l27 => k_is)
    (case c27 => k_is)
    (case k27 => k_is)
    (case a28 => k_is)
    (case l28 => k_is)
    (case c28 => k_is)
    (case k28 => k_is)
    (case a29 => k_is)
    (case l29 => k_is)
    (case c29 => k_is)
    (case k29 => k_is)
    (case a30 => k_is)
    (case l30 => k_is)
    (case c30 => k_is)
    (case k30 => k_is)
    (case a31 => k_is)
    (case l31 => k_is)
    (case c31 => k_is)
    (case k31 => k_is)
    (case a32 => k_is)
    (case l32 => k_is)
    (case c32 => k_is)
    (case k32 => k_is)
    (case a33 => k_is)
    (case l33 => k_is)
    (case c33 => k_is)
    (case k33 => k_is)
    (case a34 => k_is)
    (case l34 => k_is)
    (case c34 => k_is)
    (case k34 => k_is)
    (case a35 => k_is)
    (case l35 => k_is)
    (case c35 => k_is)
    (case k35 => k_is)
    (case a36 => k_is)
    (case l36 => k_is)
    (case c36 => k_is)
    (case k36 => k_is)
    (case a37 => k_is)
    (case l37 => k_is)
    (case c37 => k_is)
    (case k37 => k_is)
    (case a38 => k_is)
    (case l38 => k_is)
    (case c38 => k_is)
    (case k38 => k_is)
    (case a39 => k_is)
    (case l39 => k_is)
    (case c39 => k_is)
    (case k39 => k_is)
    (case a40 => k_is)
    (case l40 => k_is)
    (case c40 => k_is)
    (case k40 => k_is)
    (case a41 => k_is)
    (case l41 => k_is)
    (case c41 => k_is)
    (case k41 => k_is)
    (case a42 => k_is)
    (case l42 => k_is)
    (case c42 => k_is)
    (case k42 => k_is)
    (case a43 => k_is)
    (case l43 => k_is)
    (case c43 => k_is)
    (case k43 => k_is)
    (case a44 => k_is)
    (case l44 => k_is)
    (case c44 => k_is)
    (case k44 => k_is)
    (case a45 => k_is)
    (case l45 => k_is)
    (case c45 => k_is)
    (case k45 => k_is)
    (case a46 => k_is)
    (case l46 => k_is)
    (case c46 => k_is)
    (case k46 => k_is)
    (case a47 => k_is)
    (case l47 => k_is)
    (case c47 => k_is)
    (case k47 => k_is)
    (case a48 => k_is)
    (case l48 => k_is)
    (case c48 => k_is)
    (case k48 => k_is)
    (case z_isinstance => k_is)
    (case z_int => k_is)
    (case z_bool => k_is)
    (case z_all => k_is)
    (case z_str => k_is)
    (case z_len => k_is)
    (case z_enumerate => k_is)
    (case z_tuple => k_is)
    (case z_zip => k_is)
    (case z_range => k_is)
    (case z_min => k_is)
    (case z_sum => k_is)
    (case z_list => k_is)
    (case z_max => k_is)
    (case z_any => k_is)
    (case z_ValueError => k_is)
    (case gc_LETTERS => k_is)
    (case gc_DIGITS => k_is)
    (case gc_LONGEST_WORD => k_is)
    (case gc_LONGEST_NUMBER => k_is)
    (case gc_NUMBERS_END => k_is)
    (case gc_DEEPEST_TUPLE => k_is)
    (case gc_MOST_OUTCOMES => k_is)
    (case gc_MOST_SMALL_OPTIONS => k_is)
    (case gc_MOST_SMALL_CONTEXTS => k_is)
    (case gc_MOST_EXPONENT => k_is)
    (case g_OutOfRange => k_is)
    (case g_SizeMismatch => k_is)
    (case g_InvalidChooser => k_is)
    (case g_TooLarge => k_is)
    (case g_InvalidTerm => k_is)
    (case g_InvalidContext => k_is)
    (case g_ChoosersError => k_is)
    (case x_OutOfRange => k_exc)
    (case x_SizeMismatch => k_exc)
    (case x_TooLarge => k_exc)
    (case z_super => k_is)
    (case opq_ => k_is)
    (case kc_OutOfRange => k_is)
    (case e_OutOfRange => k_is)
    (case t_OutOfRange => k_is)
    (case hg_OutOfRange => k_is)
    (case hk_OutOfRange => k_is)
    (case hd_OutOfRange => k_is)
    (case ha_OutOfRange => k_is)
    (case hm_OutOfRange => k_is)
    (case s_OutOfRange_OutOfRange => first | rfl | k_is)
    (case s_OutOfRange_SizeMismatch => k_is)
    (case s_OutOfRange_TooLarge => k_is)
    (case s_OutOfRange_InvalidTerm => k_is)
    (case s_OutOfRange_InvalidChooser => k_is)
    (case s_OutOfRange_InvalidContext => k_is)
    (case s_OutOfRange_ValueError => k_is)
    (case s_OutOfRange_ChoosersError => k_is)
    (case kc_SizeMismatch => k_is)
    (case e_SizeMismatch => k_is)
    (case t_SizeMismatch => k_is)
    (case hg_SizeMismatch => k_is)
    (case hk_SizeMismatch => k_is)
    (case hd_SizeMismatch => k_is)
    (case ha_SizeMismatch => k_is)
    (case hm_SizeMismatch => k_is)
    (case s_SizeMismatch_SizeMismatch => first | rfl | k_is)
    (case s_SizeMismatch_TooLarge => k_is)
    (case s_SizeMismatch_OutOfRange => k_is)
    (case s_SizeMismatch_InvalidTerm => k_is)
    (case s_SizeMismatch_InvalidChooser => k_is)
    (case s_SizeMismatch_InvalidContext => k_is)
    (case s_SizeMismatch_ValueError => k_is)
    (case s_SizeMismatch_ChoosersError => k_is)
    (case kc_InvalidChooser => k_is)
    (case e_InvalidChooser => k_is)
    (case t_InvalidChooser => k_is)
    (case hg_InvalidChooser => k_is)
    (case hk_InvalidChooser => k_is)
    (case hd_InvalidChooser => k_is)
    (case ha_InvalidChooser => k_is)
    (case hm_InvalidChooser => k_is)
    (case s_InvalidChooser_InvalidChooser => first | rfl | k_is)
    (case s_InvalidChooser_SizeMismatch => k_is)
    (case s_InvalidChooser_TooLarge => k_is)
    (case s_InvalidChooser_OutOfRange => k_is)
    (case s_InvalidChooser_InvalidTerm => k_is)
    (case s_InvalidChooser_InvalidContext => k_is)
    (case s_InvalidChooser_ValueError => k_is)
    (case s_InvalidChooser_ChoosersError => k_is)
    (case kc_TooLarge => k_is)
    (case e_TooLarge => k_is)
    (case t_TooLarge => k_is)
    (case hg_TooLarge => k_is)
    (case hk_TooLarge => k_is)
    (case hd_TooLarge => k_is)
    (case ha_TooLarge => k_is)
    (case hm_TooLarge => k_is)
    (case s_TooLarge_TooLarge => first | rfl | k_is)
    (case s_TooLarge_SizeMismatch => k_is)
    (case s_TooLarge_OutOfRange => k_is)
    (case s_TooLarge_InvalidTerm => k_is)
    (case s_TooLarge_InvalidChooser => k_is)
    (case s_TooLarge_InvalidContext => k_is)
    (case s_TooLarge_ValueError => k_is)
    (case s_TooLarge_ChoosersError => k_is)
    (case ic_InvalidChooser => k_is)
    (case li_InvalidChooser => k_is)
    (case cdi_InvalidChooser => k_is)
    (case ti_InvalidChooser => k_is)
    (case no_InvalidChooser => k_is)
    (case cell_InvalidChooser => k_is)
    (case own_InvalidChooser => k_is)
    (case sb_InvalidChooser => k_is)
    (case ve_InvalidChooser => k_is)
    (case sup_InvalidChooser => ks_is)
    (case code_InvalidChooser => k_is)
    (case cfl_InvalidChooser => rfl)
    (case hfl_InvalidChooser => first | rfl | decide +kernel)
    (case ob_InvalidChooser => k_is)
    (case rv_InvalidChooser => first | rfl | decide +kernel)
    (case sa_InvalidChooser => k_is)
    (case htop_ => first | rfl | decide +kernel)
    (case q_OutOfRange => k_is)
    (case q_SizeMismatch => k_is)
    (case q_InvalidChooser => k_is)
    (case q_TooLarge => k_is)
    (case q_InvalidTerm => k_is)
    (case t_InvalidTerm => k_is)
    (case q_InvalidContext => k_is)
    (case t_InvalidContext => k_is)
    (case q_ChoosersError => k_is)
    (case t_ChoosersError => k_is)
    (case e_ChoosersError => k_is)
    (case hd_ChoosersError => k_is)
    (case hn_ => k_is)
    (case ht_ => k_is)
    (case pg_Chooser => k_is)
    (case hdc_Chooser => k_is)
    (case po_Chooser => k_is)
    (case sac_Chooser => k_is)
    (case mk_Chooser => k_is)
    (case kcc_Chooser => k_is)
    (case sf_Chooser => k_is)
    (case rp_Chooser => k_is)
    (case ip_Chooser => k_is)
    (case jp_Chooser => k_is)
    (case su_Chooser => k_is)
    (case na_Chooser_options => k_is)
    (case na_Chooser_outcomes => k_is)
    (case na_Chooser_row => k_is)
