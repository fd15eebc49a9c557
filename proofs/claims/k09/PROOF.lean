import PyProof.Rows.All
import HandS.ForMost
import HandS.TupAny
import HandS.TupMul
import HandS.ForExc
import HandS.EndBits
import HandS.Wide
import HandS.WideBits
import HandS.Zip
import HandS.IsInst
import HandS.ExcIs
import HandS.Flow
import HandS.Strs
import HandS.Conv
import HandS.Style
import HandS.GenList
import HandS.ExcCtx
import HandS.Hot
import HandS.HotCalls
import HandS.WordsExc
import HandS.Text
import HandS.RaiseMore
import KE.GoesEnumKw
import HandS.Nested
import HandS.ExcInit
import KE.KSuper
import KE.KExcSuper
import HandS.ExcField
import KE.KExcIs
import HandS.FStr
import HandS.FStrTup
import PyProof.ListStr
import HandS.ExcOwn
import HandS.SetFor
import HandS.More
import HandS.Sort
import PyProof.Rows.SetFrom
import HandS.IterVal
import HandS.Iter
import PyProof.Rows.CallKwBuiltin
import KE.GoesZip
import KE.GoesMore
import KE.GoesEnum
import PyProof.P3Eq
import KE.KOpsOwn
import PySem.Challenge.RW_choosersrow_k09_fair_hulls_and_cores
import Open.SpecLaws
import KE.OsGo
import KE.RegKSuper
set_option Elab.async false
set_option linter.all false
set_option maxRecDepth 100000
set_option maxHeartbeats 4000000
namespace DW
open PySem PySem.Spec PyProof.Rows L2
/-- the object of a new tuple -/
abbrev tupObj (its : List Value) : Obj := { cls := .type "tuple", data := .seq its.toArray }
theorem tup_okN {P : Program} {w : World} {H : Hp} {h : Heap} {xs : List V} {its : List Value} (hz : xs.length ≤ sizeLine) (r : Vals xs its) :
    ObjOk P w H (h.push (tupObj its)) h.objs.size (.frz (tupObj its) (.tup xs)) := ⟨Heap.get?_push_size _ rfl, hz, its, r, IsTup.new _ _⟩
section
variable {X : Cx} {pins : List (Addr × Obj)} {σ : L2.St} {H : Hp} {s : Shared} {Q : VK}
/-- what is wished of a new tuple -/
def NewT (H : Hp) (xs : List V) (Q : VK) : Prop := ∀ p o, o.dict = none → o.cls = .type "tuple" → H p = none → Q (.ref p) (upd H p (.frz o (.tup xs)))
theorem new_tup {xs : List V} {its : List Value} (I : Inv X pins σ H s) (hz : xs.length ≤ sizeLine) (r : Vals xs its) (q : NewT H xs Q) : EP X pins σ Q (.ref s.heap.objs.size) { s with heap := s.heap.push (tupObj its) } :=
  ⟨.ref s.heap.objs.size, _, I.laid (t' := s.toks) (fun b u e => Heap.get?_push_of_some _ e) (Nat.le_refl _) (tup_okN hz r), rfl, q _ _ rfl rfl (I.hok.fresh (Nat.le_refl _))⟩
end
def tTupN (t : TA) : TE := fun σ H Q => t σ H fun xs H1 => xs.length ≤ sizeLine ∧ NewT H1 xs Q
theorem pe_tupN {X : Cx} {es : List Expr} {x1 : Nat} {pos : Pos} {t : TA} (h : PA X es t) : PE X (.Tuple es x1 pos) (tTupN t) :=
  ⟨fun pins s σ H Q I hq => wpAny_Tuple_spliced (thn (h.run pos pins s σ H _ I hq) fun us s1 ⟨xs, H1, I1, r, z, q⟩ => ⟨by rw [← r.length]; exact z, new_tup I1 z r q⟩)⟩
/-- t + u -/
def rCatN (K : PySem.W.Frag) : R2 := fun x y H Q => ∃ a b xs ys, x = .ref a ∧ y = .ref b ∧ SqT K H a xs ∧ SqT K H b ys ∧ xs.length + ys.length ≤ sizeLine ∧
  (xs = [] → Q (.ref b) H) ∧ (xs ≠ [] → ys = [] → Q (.ref a) H) ∧ (xs ≠ [] → ys ≠ [] → NewT H (xs ++ ys) Q)
theorem op_catN {X : Cx} : OpR X (binaryOp .Add) (rCatN X.K) := by
  intro pins s σ H x y v u Q I rx ry h
  obtain ⟨a, b, xs, ys, rfl, rfl, ha, hb, hz, q0, q1, q2⟩ := h
  cases rx
  cases ry
  obtain ⟨its, r1, p1, _⟩ := I.tuple ha
  obtain ⟨its2, r2, p2, _⟩ := I.tuple hb
  by_cases hx : xs = []
  · subst hx
    cases r1
    exact cat_tup0 p1 p2 ⟨.ref b, H, I, rfl, q0 rfl⟩
  · refine HT.cat_tup p1 p2 (fun z => hx (r1.nil_iff.mp z)) (fun z => ⟨.ref a, H, I, rfl, q1 hx (r2.nil_iff.mp z)⟩) (fun z => ?_) (by rw [← r1.length, ← r2.length]; exact hz)
    exact new_tup I (by rw [List.length_append]; exact hz) (r1.append r2) (q2 hx fun w => z (r2.nil_iff.mpr w))
/-- t[lo:hi] -/
def rSlN (K : PySem.W.Frag) : V → Option Int → Option Int → Hp → VK → Prop := fun x lo hi H Q => ∃ a xs, x = .ref a ∧ SqT K H a xs ∧
  (HT.sIx xs.length 0 lo = 0 ∧ HT.sIx xs.length xs.length hi = xs.length → Q (.ref a) H) ∧ (¬ (HT.sIx xs.length 0 lo = 0 ∧ HT.sIx xs.length xs.length hi = xs.length) → NewT H (cutV xs lo hi) Q)
theorem sl_tupN {X : Cx} : SlR X (rSlN X.K) := by
  intro pins s σ H x v vl vu lo hi sl Q I rx hs pl pu h
  obtain ⟨a, xs, rfl, hx, q1, q2⟩ := h
  cases rx
  obtain ⟨its, r, ht, hz⟩ := I.tuple hx
  have many : its.toArray.size = xs.length := by rw [List.size_toArray]; exact r.length.symm
  refine ⟨"tuple", _, PyProof.Rows.slot_tuple_getitem.lookup, ht.typeIs, ?_⟩
  by_cases hw : HT.sIx xs.length 0 lo = 0 ∧ HT.sIx xs.length xs.length hi = xs.length
  · exact getItem_tuple_whole ht hs pl pu (by rw [many]; exact hw) ⟨.ref a, H, I, rfl, q1 hw⟩
  · refine HT.getItem_tuple_cut ht hs pl pu (by rw [many]; exact hw) ?_ (by rw [many]; exact hz)
    rw [many]
    exact new_tup I (Nat.le_trans (cutV_length xs lo hi) hz) ((r.drop (HT.sIx xs.length 0 lo)).take (HT.sIx xs.length xs.length hi - HT.sIx xs.length 0 lo)) (q2 hw)
/-- tuple(xs) -/
theorem call_tupleN {X : Cx} : CallR X (.type "tuple") (fun xs H Q => ∃ p ys, xs = [.ref p] ∧ ((SqL X.K H p ys ∧ NewT H ys Q) ∨ (SqT X.K H p ys ∧ Q (.ref p) H))) := by
  intro pins s σ H xs us Q I r h
  obtain ⟨p, ys, rfl, h⟩ := h
  obtain ⟨u, rfl, rx⟩ := vals1 r
  cases rx
  rcases h with ⟨hq, q⟩ | ⟨hq, q⟩
  · obtain ⟨its, r', pl, hz⟩ := I.list hq
    have many := r'.length
    refine call_tuple_list pl.isList (fun h' kp => ?_) (by simp only [List.size_toArray] <;> omega)
    have I1 : Inv X pins σ H { s with heap := h' } := I.kept (t' := s.toks) kp
    exact new_tup I1 hz r' q
  · obtain ⟨its, r', pl, hz⟩ := I.tuple hq
    exact call_tuple_same pl ⟨.ref p, H, I, rfl, q⟩
end DW
set_option Elab.async false
set_option linter.all false
set_option maxRecDepth 100000
namespace DW
open PySem PySem.Spec L2
abbrev Fg := PySem.W.Frag
/-- plain data: what a value stands for; hd: a value taken as it is (a handle, a def, a type) -/
inductive D where
  | non | bl (b : Bool) | int (i : Int) | str (x : Str)
  | tup (xs : List D) | lst (xs : List D)
  | pr (xs : List D)
  | obj (C : Addr) (ns : List Str) (ds : List D)
  | hd (v : V)
  | scr (ns : List Int)
/-- what stands at a handle's address: a list that may change, one that stands still, an instance in the making -/
inductive Cell where
  | lst (ds : List D) | frz (ds : List D) | ins (C : Addr) (ns : List Str) (ds : List D)
abbrev Sto := Addr → Option Cell
def sset (μ : Sto) (a : Addr) (c : Cell) : Sto := fun b => if b = a then some c else μ b
theorem sset_same {μ : Sto} {a : Addr} {c : Cell} : sset μ a c a = some c := by unfold sset; rw [if_pos rfl]
theorem sset_ne {μ : Sto} {a b : Addr} {c : Cell} (h : b ≠ a) : sset μ a c b = μ b := by unfold sset; rw [if_neg h]
theorem sset_sset {μ : Sto} {a : Addr} {c d : Cell} : sset (sset μ a c) a d = sset μ a d := by
  funext b; unfold sset; split <;> rfl
def still : Option Cell → Prop
  | some (.lst _) => False
  | some (.ins _ _ _) => False
  | _ => True
/-- nothing that may change stands at a -/
def NM (μ : Sto) (a : Addr) : Prop := still (μ a)
theorem NM.of {μ : Sto} {a : Addr} (h : μ a = none) : NM μ a := by unfold NM; rw [h]; exact trivial
theorem NM.frz {μ : Sto} {a : Addr} {ds : List D} (h : μ a = some (.frz ds)) : NM μ a := by unfold NM; rw [h]; exact trivial
theorem NM.notL {μ : Sto} {a : Addr} {ds : List D} (h : NM μ a) (q : μ a = some (.lst ds)) : False := by unfold NM at h; rw [q] at h; exact h
theorem NM.notI {μ : Sto} {a C : Addr} {ns : List Str} {ds : List D} (h : NM μ a) (q : μ a = some (.ins C ns ds)) : False := by unfold NM at h; rw [q] at h; exact h
def SqLw (K : Fg) (a : Addr) (xs : List V) : Prop :=
  ∃ (o : Obj) (its : Array Value) (n : Nat), K.lookup a = some o ∧ o.cls = .type "list" ∧ o.dict = none ∧ o.data = .seq its n ∧ its.size ≤ sizeLine ∧ Vals xs its.toList
def SqTw (K : Fg) (a : Addr) (xs : List V) : Prop :=
  ∃ (o : Obj) (its : Array Value) (n : Nat), K.lookup a = some o ∧ o.cls = .type "tuple" ∧ o.dict = none ∧ o.data = .seq its n ∧ its.size ≤ sizeLine ∧ Vals xs its.toList
def LstAt (μ : Sto) (H : Hp) (a : Addr) (xs : List V) : Prop := H a = some (.lst xs) ∧ NM μ a
def ScrAt (K : Fg) (μ : Sto) (H : Hp) (a : Addr) (xs : List V) : Prop := (Rd H a (.lst xs) ∧ NM μ a) ∨ SqLw K a xs
def TupAt (K : Fg) (μ : Sto) (H : Hp) (a : Addr) (xs : List V) : Prop := (∃ o : Obj, H a = some (.frz o (.tup xs)) ∧ o.dict = none ∧ o.cls = .type "tuple" ∧ NM μ a) ∨ SqTw K a xs
/-- a tuple that is taken apart at once -/
def PrAt (μ : Sto) (H : Hp) (a : Addr) (xs : List V) : Prop := Rd H a (.tup xs) ∧ NM μ a
theorem LstAt.sq {K : Fg} {μ : Sto} {H : Hp} {a : Addr} {xs : List V} (h : LstAt μ H a xs) : SqL K H a xs := .inl (.inl h.1)
theorem ScrAt.sq {K : Fg} {μ : Sto} {H : Hp} {a : Addr} {xs : List V} (h : ScrAt K μ H a xs) : SqL K H a xs := h.elim (fun q => .inl q.1) fun q => .inr q
theorem TupAt.sq {K : Fg} {μ : Sto} {H : Hp} {a : Addr} {xs : List V} (h : TupAt K μ H a xs) : SqT K H a xs := h.elim (fun ⟨o, q, _⟩ => .inl (.inr ⟨o, q⟩)) fun ⟨o, its, n, q1, q2, _, q3⟩ => .inr ⟨o, its, n, q1, q2, q3⟩
theorem PrAt.sq {K : Fg} {μ : Sto} {H : Hp} {a : Addr} {xs : List V} (h : PrAt μ H a xs) : SqT K H a xs := .inl h.1
/-- what values stand for what data -/
inductive Reps (K : Fg) (μ : Sto) (H : Hp) : List V → List D → Prop
  | nil : Reps K μ H [] []
  | non {vs ds} : Reps K μ H vs ds → Reps K μ H (.non :: vs) (.non :: ds)
  | bl {vs ds} (b : Bool) : Reps K μ H vs ds → Reps K μ H (.bl b :: vs) (.bl b :: ds)
  | int {vs ds} (i : Int) : Reps K μ H vs ds → Reps K μ H (.int i :: vs) (.int i :: ds)
  | str {vs ds} (x : Str) : Reps K μ H vs ds → Reps K μ H (.str x :: vs) (.str x :: ds)
  | hd {vs ds} (v : V) : Reps K μ H vs ds → Reps K μ H (v :: vs) (.hd v :: ds)
  | tup {vs ds a us es} : TupAt K μ H a us → Reps K μ H us es → Reps K μ H vs ds → Reps K μ H (.ref a :: vs) (.tup es :: ds)
  | pr {vs ds a us es} : PrAt μ H a us → Reps K μ H us es → Reps K μ H vs ds → Reps K μ H (.ref a :: vs) (.pr es :: ds)
  | scr {vs ds a ns} : ScrAt K μ H a (ns.map V.int) → Reps K μ H vs ds → Reps K μ H (.ref a :: vs) (.scr ns :: ds)
  | lst {vs ds a us es} : LstAt μ H a us → Reps K μ H us es → Reps K μ H vs ds → Reps K μ H (.ref a :: vs) (.lst es :: ds)
  | obj {vs ds a C dx ns us es} : H a = some (.ins C dx (ns.zip us)) → NM μ a → us.length = ns.length → Reps K μ H us es → Reps K μ H vs ds → Reps K μ H (.ref a :: vs) (.obj C ns es :: ds)
abbrev Rep (K : Fg) (μ : Sto) (H : Hp) (v : V) (d : D) : Prop := Reps K μ H [v] [d]
section
variable {K : Fg} {μ μ' μ'' : Sto} {H H' H'' : Hp} {v w : V} {d e : D} {vs us : List V} {ds es : List D}
theorem Reps.length (h : Reps K μ H vs ds) : vs.length = ds.length := by
  induction h <;> simp_all
theorem Reps.split (h : Reps K μ H (v :: vs) (d :: ds)) : Rep K μ H v d ∧ Reps K μ H vs ds := by
  cases h with
  | non r => exact ⟨.non .nil, r⟩
  | bl b r => exact ⟨.bl b .nil, r⟩
  | int i r => exact ⟨.int i .nil, r⟩
  | str x r => exact ⟨.str x .nil, r⟩
  | hd v r => exact ⟨.hd v .nil, r⟩
  | tup h1 h2 r => exact ⟨.tup h1 h2 .nil, r⟩
  | pr h1 h2 r => exact ⟨.pr h1 h2 .nil, r⟩
  | lst h1 h2 r => exact ⟨.lst h1 h2 .nil, r⟩
  | scr h1 r => exact ⟨.scr h1 .nil, r⟩
  | obj h1 h2 h3 h4 r => exact ⟨.obj h1 h2 h3 h4 .nil, r⟩
theorem Reps.cons (h : Rep K μ H v d) (r : Reps K μ H vs ds) : Reps K μ H (v :: vs) (d :: ds) := by
  cases h with
  | non _ => exact .non r
  | bl b _ => exact .bl b r
  | int i _ => exact .int i r
  | str x _ => exact .str x r
  | hd v _ => exact .hd v r
  | tup h1 h2 _ => exact .tup h1 h2 r
  | pr h1 h2 _ => exact .pr h1 h2 r
  | lst h1 h2 _ => exact .lst h1 h2 r
  | scr h1 _ => exact .scr h1 r
  | obj h1 h2 h3 h4 _ => exact .obj h1 h2 h3 h4 r
theorem Reps.get (h : Reps K μ H vs ds) : ∀ {i : Nat} {d : D}, ds[i]? = some d → ∃ v, vs[i]? = some v ∧ Rep K μ H v d := by
  intro i
  induction i generalizing vs ds with
  | zero =>
    intro d e
    cases ds with
    | nil => cases e
    | cons x r =>
      cases vs with
      | nil => have := h.length; simp at this
      | cons v vs =>
        cases e
        exact ⟨v, rfl, h.split.1⟩
  | succ i ih =>
    intro d e
    cases ds with
    | nil => cases e
    | cons x r =>
      cases vs with
      | nil => have := h.length; simp at this
      | cons v vs => exact ih h.split.2 e
theorem Reps.getV (h : Reps K μ H vs ds) {i : Nat} {v : V} (e : vs[i]? = some v) : ∃ d, ds[i]? = some d ∧ Rep K μ H v d := by
  have hi : i < ds.length := by rw [← h.length]; exact (List.getElem?_eq_some_iff.mp e).1
  obtain ⟨v', e', r⟩ := h.get (List.getElem?_eq_getElem hi)
  rw [e] at e'
  cases e'
  exact ⟨_, List.getElem?_eq_getElem hi, r⟩
theorem Reps.append (h : Reps K μ H vs ds) (r : Reps K μ H us es) : Reps K μ H (vs ++ us) (ds ++ es) := by
  induction vs generalizing ds with
  | nil => cases h; exact r
  | cons v vs ih =>
    cases ds with
    | nil => have := h.length; simp at this
    | cons d ds => exact .cons h.split.1 (ih h.split.2)
theorem Reps.take (h : Reps K μ H vs ds) : ∀ n, Reps K μ H (vs.take n) (ds.take n) := by
  intro n
  induction n generalizing vs ds with
  | zero => exact .nil
  | succ n ih =>
    cases ds with
    | nil =>
      cases vs with
      | nil => exact .nil
      | cons v vs => have := h.length; simp at this
    | cons d ds =>
      cases vs with
      | nil => have := h.length; simp at this
      | cons v vs => exact .cons h.split.1 (ih h.split.2)
theorem Reps.drop (h : Reps K μ H vs ds) : ∀ n, Reps K μ H (vs.drop n) (ds.drop n) := by
  intro n
  induction n generalizing vs ds with
  | zero => exact h
  | succ n ih =>
    cases ds with
    | nil =>
      cases vs with
      | nil => exact .nil
      | cons v vs => have := h.length; simp at this
    | cons d ds =>
      cases vs with
      | nil => have := h.length; simp at this
      | cons v vs => exact ih h.split.2
theorem Reps.set (h : Reps K μ H vs ds) (r : Rep K μ H v d) : ∀ j, Reps K μ H (vs.set j v) (ds.set j d) := by
  intro j
  induction j generalizing vs ds with
  | zero =>
    cases ds with
    | nil =>
      cases vs with
      | nil => exact .nil
      | cons v vs => have := h.length; simp at this
    | cons d ds =>
      cases vs with
      | nil => have := h.length; simp at this
      | cons v vs => exact .cons r h.split.2
  | succ n ih =>
    cases ds with
    | nil =>
      cases vs with
      | nil => exact .nil
      | cons v vs => have := h.length; simp at this
    | cons d ds =>
      cases vs with
      | nil => have := h.length; simp at this
      | cons v vs => exact .cons h.split.1 (ih h.split.2)
theorem Reps.reverse (h : Reps K μ H vs ds) : Reps K μ H vs.reverse ds.reverse := by
  induction vs generalizing ds with
  | nil => cases h; exact .nil
  | cons v vs ih =>
    cases ds with
    | nil => have := h.length; simp at this
    | cons d ds =>
      rw [List.reverse_cons, List.reverse_cons]
      exact (ih h.split.2).append (.cons h.split.1 .nil)
/-- all that stands still there, stands still here; nothing is gone -/
structure Evo (μ : Sto) (H : Hp) (μ' : Sto) (H' : Hp) : Prop where
  st : ∀ b o, H b = some o → NM μ b → H' b = some o ∧ NM μ' b
  th : ∀ b, H' b = none → H b = none
theorem Evo.refl : Evo μ H μ H := ⟨fun _ _ h n => ⟨h, n⟩, fun _ h => h⟩
theorem Evo.trans (a : Evo μ H μ' H') (b : Evo μ' H' μ'' H'') : Evo μ H μ'' H'' := ⟨fun c o h n => b.st c o (a.st c o h n).1 (a.st c o h n).2, fun c h => a.th c (b.th c h)⟩
theorem Evo.rd {a : Addr} {u : HO} (e : Evo μ H μ' H') (h : Rd H a u) (n : NM μ a) : Rd H' a u ∧ NM μ' a := by
  rcases h with h | ⟨o, h⟩
  · exact ⟨.inl (e.st a _ h n).1, (e.st a _ h n).2⟩
  · exact ⟨.inr ⟨o, (e.st a _ h n).1⟩, (e.st a _ h n).2⟩
theorem LstAt.mono {a : Addr} {xs : List V} (e : Evo μ H μ' H') (h : LstAt μ H a xs) : LstAt μ' H' a xs := e.st _ _ h.1 h.2
theorem ScrAt.mono {a : Addr} {xs : List V} (e : Evo μ H μ' H') (h : ScrAt K μ H a xs) : ScrAt K μ' H' a xs := by
  rcases h with ⟨h, n⟩ | h
  · exact .inl (e.rd h n)
  · exact .inr h
theorem TupAt.mono {a : Addr} {xs : List V} (e : Evo μ H μ' H') (h : TupAt K μ H a xs) : TupAt K μ' H' a xs := by
  rcases h with ⟨o, h, d, c, n⟩ | h
  · exact .inl ⟨o, (e.st a _ h n).1, d, c, (e.st a _ h n).2⟩
  · exact .inr h
theorem Reps.mono (e : Evo μ H μ' H') (h : Reps K μ H vs ds) : Reps K μ' H' vs ds := by
  induction h with
  | nil => exact .nil
  | non _ i => exact .non i
  | bl b _ i => exact .bl b i
  | int b _ i => exact .int b i
  | str b _ i => exact .str b i
  | hd b _ i => exact .hd b i
  | tup h1 _ _ i1 i2 => exact .tup (h1.mono e) i1 i2
  | pr h1 _ _ i1 i2 => exact .pr ⟨(e.rd h1.1 h1.2).1, (e.rd h1.1 h1.2).2⟩ i1 i2
  | lst h1 _ _ i1 i2 => exact .lst (h1.mono e) i1 i2
  | scr h1 _ i1 => exact .scr (h1.mono e) i1
  | obj h1 h2 h3 _ _ i1 i2 => exact .obj (e.st _ _ h1 h2).1 (e.st _ _ h1 h2).2 h3 i1 i2
/-- what is said of the handles holds of the heap -/
def CellOk (K : Fg) (μ : Sto) (H : Hp) (a : Addr) : Cell → Prop
  | .lst ds => ∃ vs, H a = some (.lst vs) ∧ Reps K μ H vs ds
  | .frz ds => ∃ vs, H a = some (.lst vs) ∧ Reps K μ H vs ds
  | .ins C ns ds => ∃ dx us, H a = some (.ins C dx (ns.zip us)) ∧ us.length = ns.length ∧ Reps K μ H us ds
def StoOk (K : Fg) (μ : Sto) (H : Hp) : Prop := ∀ a c, μ a = some c → CellOk K μ H a c
theorem CellOk.there {a : Addr} {c : Cell} (h : CellOk K μ H a c) : ∃ o, H a = some o := by
  cases c with
  | lst ds => obtain ⟨_, e, _⟩ := h; exact ⟨_, e⟩
  | frz ds => obtain ⟨_, e, _⟩ := h; exact ⟨_, e⟩
  | ins C ns ds => obtain ⟨_, _, e, _⟩ := h; exact ⟨_, e⟩
theorem StoOk.fresh {p : Addr} (s : StoOk K μ H) (h : H p = none) : μ p = none := by
  cases e : μ p with
  | none => rfl
  | some c =>
    obtain ⟨o, q⟩ := (s p c e).there
    rw [h] at q
    cases q
theorem CellOk.mono {a : Addr} {c : Cell} (e : Evo μ H μ' H') (hs : ∀ o, H a = some o → H' a = some o) (h : CellOk K μ H a c) : CellOk K μ' H' a c := by
  cases c with
  | lst ds => obtain ⟨vs, q, r⟩ := h; exact ⟨vs, hs _ q, r.mono e⟩
  | frz ds => obtain ⟨vs, q, r⟩ := h; exact ⟨vs, hs _ q, r.mono e⟩
  | ins C ns ds => obtain ⟨dx, us, q, l, r⟩ := h; exact ⟨dx, us, hs _ q, l, r.mono e⟩
/-- a new object -/
theorem upd_th {p : Addr} {o : HO} {b : Addr} (h : upd H p o b = none) : H b = none := by
  by_cases e : b = p
  · subst e; rw [upd_same] at h; cases h
  · rw [upd_ne e] at h; exact h
theorem Evo.new {p : Addr} {o : HO} (h : H p = none) : Evo μ H μ (upd H p o) := ⟨fun b u e n => ⟨by rw [upd_ne (ne_of_none e h)]; exact e, n⟩, fun b q => upd_th q⟩
theorem StoOk.new {p : Addr} {o : HO} (s : StoOk K μ H) (h : H p = none) : StoOk K μ (upd H p o) := fun a c e =>
  (s a c e).mono (.new h) fun u q => by rw [upd_ne (ne_of_none q h)]; exact q
theorem NM.new {p : Addr} (s : StoOk K μ H) (h : H p = none) : NM μ p := .of (s.fresh h)
/-- a new object that has a cell -/
theorem Evo.newC {p : Addr} {o : HO} {c : Cell} (s : StoOk K μ H) (h : H p = none) : Evo μ H (sset μ p c) (upd H p o) := ⟨fun b u e n => by
  have hb : b ≠ p := ne_of_none e h
  refine ⟨by rw [upd_ne hb]; exact e, ?_⟩
  unfold NM
  rw [sset_ne hb]
  exact n, fun b q => upd_th q⟩
/-- the cell at p changes; nothing else does -/
theorem Evo.cell {p : Addr} {o : HO} {c c' : Cell} (hp : μ p = some c) (hn : ¬ NM μ p) : Evo μ H (sset μ p c') (upd H p o) := ⟨fun b u e n => by
  have hb : b ≠ p := fun q => hn (q ▸ n)
  refine ⟨by rw [upd_ne hb]; exact e, ?_⟩
  unfold NM
  rw [sset_ne hb]
  exact n, fun b q => upd_th q⟩
theorem StoOk.cell {p : Addr} {o : HO} {c' : Cell} (s : StoOk K μ H) (e : Evo μ H (sset μ p c') (upd H p o)) (h : CellOk K (sset μ p c') (upd H p o) p c') : StoOk K (sset μ p c') (upd H p o) := fun a x q => by
  by_cases ha : a = p
  · subst ha
    rw [sset_same] at q
    cases q
    exact h
  · rw [sset_ne ha] at q
    exact (s a x q).mono e fun u z => by rw [upd_ne ha]; exact z
/-- a list comes to rest -/
theorem Evo.rest {p : Addr} {ds : List D} (hp : μ p = some (.lst ds)) : Evo μ H (sset μ p (.frz ds)) H := ⟨fun b u e n => by
  have hb : b ≠ p := fun q => by subst q; exact n.notL hp
  refine ⟨e, ?_⟩
  unfold NM
  rw [sset_ne hb]
  exact n, fun _ q => q⟩
theorem StoOk.rest {p : Addr} {ds : List D} (s : StoOk K μ H) (hp : μ p = some (.lst ds)) : StoOk K (sset μ p (.frz ds)) H := fun a x q => by
  by_cases ha : a = p
  · subst ha
    rw [sset_same] at q
    cases q
    exact (s a _ hp).mono (.rest hp) fun _ z => z
  · rw [sset_ne ha] at q
    exact (s a x q).mono (.rest hp) fun _ z => z
/-- fewer cells -/
def Sub (μ μ' : Sto) : Prop := ∀ a c, μ a = some c → μ' a = some c
theorem Sub.refl : Sub μ μ := fun _ _ h => h
theorem Sub.trans (a : Sub μ μ') (b : Sub μ' μ'') : Sub μ μ'' := fun c x h => b c x (a c x h)
theorem Sub.set {p : Addr} {c : Cell} (s : Sub μ μ') (h : μ p = none) : Sub μ (sset μ' p c) := fun a x e => by
  have : a ≠ p := fun q => by subst q; rw [h] at e; cases e
  rw [sset_ne this]
  exact s a x e
theorem Sub.none {p : Addr} (s : Sub μ μ') (h : μ' p = none) : μ p = none := by
  cases e : μ p with
  | none => rfl
  | some c => rw [s p c e] at h; cases h
theorem Sub.nm {a : Addr} (s : Sub μ μ') (h : NM μ' a) : NM μ a := by
  unfold NM at h ⊢
  cases e : μ a with
  | none => exact trivial
  | some c => rw [s a c e] at h; exact h
theorem Sub.evo (s : Sub μ' μ) : Evo μ H μ' H := ⟨fun b o e n => ⟨e, s.nm n⟩, fun _ q => q⟩
/-- without the cell at p -/
def sdel (μ : Sto) (p : Addr) : Sto := fun b => if b = p then none else μ b
theorem sdel_sub {p : Addr} : Sub (sdel μ p) μ := fun a c e => by
  unfold sdel at e
  split at e
  · cases e
  · exact e
theorem sdel_sset {p : Addr} {c : Cell} (h : μ p = none) : sdel (sset μ p c) p = μ := by
  funext b; unfold sdel sset; by_cases e : b = p
  · subst e; rw [if_pos rfl, h]
  · rw [if_neg e, if_neg e]
theorem sdel_same {p : Addr} : sdel μ p p = none := by unfold sdel; rw [if_pos rfl]
theorem Sub.sto (s : Sub μ' μ) (h : StoOk K μ H) : StoOk K μ' H := fun a c e => (h a c (s a c e)).mono s.evo fun _ z => z
/-- the names' values -/
abbrev DEnv := List (Option D)
structure EnvOk (K : Fg) (μ : Sto) (H : Hp) (σ : St) (δ : DEnv) : Prop where
  len : σ.length = δ.length
  at_ : ∀ (i : Nat) (d : D), δ[i]? = some (some d) → ∃ v, σ[i]? = some (some v) ∧ Rep K μ H v d
theorem EnvOk.mono {σ : St} {δ : DEnv} (e : Evo μ H μ' H') (h : EnvOk K μ H σ δ) : EnvOk K μ' H' σ δ := ⟨h.len, fun i d q => by
  obtain ⟨v, a, b⟩ := h.at_ i d q
  exact ⟨v, a, b.mono e⟩⟩
theorem EnvOk.set {σ : St} {δ : DEnv} (h : EnvOk K μ H σ δ) (r : Rep K μ H v d) (j : Nat) : EnvOk K μ H (σ.set j (some v)) (δ.set j (some d)) := ⟨by rw [List.length_set, List.length_set]; exact h.len, fun i x q => by
  rw [List.getElem?_set] at q
  rw [List.getElem?_set]
  by_cases hj : j = i
  · rw [if_pos hj] at q ⊢
    rw [h.len]
    by_cases hl : j < δ.length
    · rw [if_pos hl] at q ⊢
      cases q
      exact ⟨v, rfl, r⟩
    · rw [if_neg hl] at q
      cases q
  · rw [if_neg hj] at q ⊢
    exact h.at_ i x q⟩
/-- what is known where one stands -/
structure Sm (K : Fg) (H0 : Hp) (μ0 : Sto) (σ : St) (H : Hp) (δ : DEnv) (μ : Sto) : Prop where
  evo : Evo μ0 H0 μ H
  sto : StoOk K μ H
  env : EnvOk K μ H σ δ
theorem Sm.step {H0 : Hp} {μ0 : Sto} {σ : St} {δ : DEnv} (S : Sm K H0 μ0 σ H δ μ) (e : Evo μ H μ' H') (s : StoOk K μ' H') : Sm K H0 μ0 σ H' δ μ' := ⟨S.evo.trans e, s, S.env.mono e⟩
theorem Sm.set {H0 : Hp} {μ0 : Sto} {σ : St} {δ : DEnv} (S : Sm K H0 μ0 σ H δ μ) (r : Rep K μ H v d) (j : Nat) : Sm K H0 μ0 (σ.set j (some v)) H (δ.set j (some d)) μ := ⟨S.evo, S.sto, S.env.set r j⟩
end
end DW
set_option Elab.async false
set_option linter.all false
set_option maxRecDepth 100000
namespace DW
open PySem PySem.Spec L2
/-- an exception that is on its way: its class, its own fields -/
inductive XD where
  | mk (C : Addr) (fs : Option (List Str × List D))
abbrev XP := XD → DEnv → Sto → Prop
abbrev DK := D → Sto → Prop
def RepX (K : Fg) (μ : Sto) (H : Hp) (cls : Value) (dd : Option Addr) : XD → Prop
  | .mk C none => cls = .ref C ∧ dd = none
  | .mk C (some (ns, ds)) => cls = .ref C ∧ ∃ d us, dd = some d ∧ H d = some (.xd (ns.zip us)) ∧ NM μ d ∧ us.length = ns.length ∧ Reps K μ H us ds
/-- where a piece of code stands: the written part, the heap and the handles at the entry, what is wished of exceptions -/
structure Bx (K : Fg) where
  H0 : Hp
  μ0 : Sto
  W : WX
  Ψ : XP
  hW : ∀ cls dd σ H x δ μ, Sm K H0 μ0 σ H δ μ → RepX K μ H cls dd x → Ψ x δ μ → W cls dd σ H
/-- the same, from a later moment on -/
abbrev Bx.re {K : Fg} (B : Bx K) (H1 : Hp) (μ1 : Sto) (e : Evo B.μ0 B.H0 μ1 H1) : Bx K := ⟨H1, μ1, B.W, B.Ψ, fun cls dd σ H x δ μ S => B.hW cls dd σ H x δ μ ⟨e.trans S.evo, S.sto, S.env⟩⟩
abbrev DE := XP → DEnv → Sto → DK → Prop
abbrev DA := XP → DEnv → Sto → (List D → Sto → Prop) → Prop
abbrev DT := XP → DEnv → Sto → (Bool → Sto → Prop) → Prop
structure DEnds where
  nx : DEnv → Sto → Prop
  rt : D → Sto → Prop
  bk : DEnv → Sto → Prop
  ct : DEnv → Sto → Prop
abbrev DSt := XP → DEnds → DEnv → Sto → Prop
section
variable {K : Fg} (B : Bx K)
abbrev Bx.S {K : Fg} (B : Bx K) (σ : L2.St) (H : Hp) (δ : DEnv) (μ : Sto) : Prop := Sm K B.H0 B.μ0 σ H δ μ
/-- the reading te follows from the data's reading φ -/
def SE (te : TE) (φ : DE) : Prop := ∀ (σ : L2.St) (H : Hp) (δ : DEnv) (μ : Sto) (Φ : DK) (Q : VK), B.S σ H δ μ → φ B.Ψ δ μ Φ →
  (∀ v H' d μ', B.S σ H' δ μ' → Evo μ H μ' H' → Rep K μ' H' v d → Φ d μ' → Q v H') → te σ H Q
def SA (ta : TA) (φ : DA) : Prop := ∀ (σ : L2.St) (H : Hp) (δ : DEnv) (μ : Sto) (Φ : List D → Sto → Prop) (Q : List V → Hp → Prop), B.S σ H δ μ → φ B.Ψ δ μ Φ →
  (∀ vs H' ds μ', B.S σ H' δ μ' → Evo μ H μ' H' → Reps K μ' H' vs ds → Φ ds μ' → Q vs H') → ta σ H Q
def ST (tt : TT) (φ : DT) : Prop := ∀ (σ : L2.St) (H : Hp) (δ : DEnv) (μ : Sto) (Φ : Bool → Sto → Prop) (Q : Bool → Hp → Prop), B.S σ H δ μ → φ B.Ψ δ μ Φ →
  (∀ b H' μ', B.S σ H' δ μ' → Evo μ H μ' H' → Φ b μ' → Q b H') → tt σ H Q
structure EO (D : Ends) (Δ : DEnds) : Prop where
  nx : ∀ σ H δ μ, B.S σ H δ μ → Δ.nx δ μ → D.nx σ H
  rt : ∀ v H d μ σ δ, B.S σ H δ μ → Rep K μ H v d → Δ.rt d μ → D.rt v H
  bk : ∀ σ H δ μ, B.S σ H δ μ → Δ.bk δ μ → D.bk σ H
  ct : ∀ σ H δ μ, B.S σ H δ μ → Δ.ct δ μ → D.ct σ H
def SS (ts : TS) (φ : DSt) : Prop := ∀ (D : Ends) (Δ : DEnds) (σ : L2.St) (H : Hp) (δ : DEnv) (μ : Sto), EO B D Δ → B.S σ H δ μ → φ B.Ψ Δ δ μ → ts D σ H
end
section
variable {K : Fg} {B : Bx K} {te ta tb tc : TE} {φ φa φb φc : DE} {tt tu : TT} {θ ϑ : DT} {tas : TA} {ψ : DA} {ts tz : TS} {ω ζ : DSt}
def dVar (i : Nat) : DE := fun _ δ μ Φ => ∃ d, δ[i]? = some (some d) ∧ Φ d μ
theorem sVar {i : Nat} : SE B (tVar i) (dVar i) := fun σ H δ μ Φ Q S h k => by
  obtain ⟨d, e, h⟩ := h
  obtain ⟨v, ev, r⟩ := S.env.at_ i d e
  exact ⟨v, ev, k v H d μ S .refl r h⟩
/-- a name that holds a list's handle, read as the list: it changes no more -/
def dRest (i : Nat) : DE := fun _ δ μ Φ => ∃ a ds, δ[i]? = some (some (.hd (.ref a))) ∧ μ a = some (.lst ds) ∧ Φ (.lst ds) (sset μ a (.frz ds))
theorem Rep.hd_inv {K : Fg} {μ : Sto} {H : Hp} {v w : V} (h : Rep K μ H v (.hd w)) : v = w := by cases h; rfl
theorem sRest {i : Nat} : SE B (tVar i) (dRest i) := fun σ H δ μ Φ Q S h k => by
  obtain ⟨a, ds, e, hm, h⟩ := h
  obtain ⟨v, ev, r⟩ := S.env.at_ i _ e
  obtain rfl := Rep.hd_inv r
  have ev2 : Evo μ H (sset μ a (.frz ds)) H := .rest hm
  have st2 := S.sto.rest hm
  obtain ⟨vs, q1, q2⟩ := st2 a _ sset_same
  exact ⟨_, ev, k _ H _ _ (S.step ev2 st2) ev2 (.lst ⟨q1, .frz sset_same⟩ q2 .nil) h⟩
def dC (d : D) : DE := fun _ _ μ Φ => Φ d μ
theorem sC {v : V} {d : D} (r : ∀ K μ H, Rep K μ H v d) : SE B (tC v) (dC d) := fun σ H δ μ Φ Q S h k => k v H d μ S .refl (r _ _ _) h
theorem sInt {i : Int} : SE B (tC (.int i)) (dC (.int i)) := sC fun _ _ _ => .int i .nil
theorem sStr {x : Str} : SE B (tC (.str x)) (dC (.str x)) := sC fun _ _ _ => .str x .nil
theorem sBl {b : Bool} : SE B (tC (.bl b)) (dC (.bl b)) := sC fun _ _ _ => .bl b .nil
theorem sNon : SE B (tC .non) (dC .non) := sC fun _ _ _ => .non .nil
theorem sHd {v : V} : SE B (tC v) (dC (.hd v)) := sC fun _ _ _ => .hd v .nil
/-- an operator by data -/
abbrev DO := D → D → Sto → DK → Prop
def RO (K : Fg) (r : R2) (ρ : DO) : Prop := ∀ (H : Hp) (μ : Sto) (v w : V) (d e : D) (Φ : DK) (Q : VK), StoOk K μ H → Rep K μ H v d → Rep K μ H w e → ρ d e μ Φ →
  (∀ z H' c μ', Evo μ H μ' H' → StoOk K μ' H' → Rep K μ' H' z c → Φ c μ' → Q z H') → r v w H Q
def dOp (ρ : DO) (φa φb : DE) : DE := fun Ψ δ μ Φ => φa Ψ δ μ fun x μ1 => φb Ψ δ μ1 fun y μ2 => ρ x y μ2 Φ
theorem sOp {r : R2} {ρ : DO} (h : RO K r ρ) (a : SE B ta φa) (b : SE B tb φb) : SE B (tOp r ta tb) (dOp ρ φa φb) := fun σ H δ μ Φ Q S q k =>
  a σ H δ μ _ _ S q fun v H1 x μ1 S1 e1 r1 q1 => b σ H1 δ μ1 _ _ S1 q1 fun w H2 y μ2 S2 e2 r2 q2 =>
    h H2 μ2 v w x y Φ Q S2.sto (Reps.mono e2 r1) r2 q2 fun z H3 c μ3 e3 s3 r3 p => k z H3 c μ3 (S2.step e3 s3) ((e1.trans e2).trans e3) r3 p
abbrev DU := D → Sto → DK → Prop
def RU (K : Fg) (r : V → Hp → VK → Prop) (ρ : DU) : Prop := ∀ (H : Hp) (μ : Sto) (v : V) (d : D) (Φ : DK) (Q : VK), StoOk K μ H → Rep K μ H v d → ρ d μ Φ →
  (∀ z H' c μ', Evo μ H μ' H' → StoOk K μ' H' → Rep K μ' H' z c → Φ c μ' → Q z H') → r v H Q
def dUn (ρ : DU) (φa : DE) : DE := fun Ψ δ μ Φ => φa Ψ δ μ fun x μ1 => ρ x μ1 Φ
theorem sUn {r : V → Hp → VK → Prop} {ρ : DU} (h : RU K r ρ) (a : SE B ta φa) : SE B (tUn r ta) (dUn ρ φa) := fun σ H δ μ Φ Q S q k =>
  a σ H δ μ _ _ S q fun v H1 x μ1 S1 e1 r1 q1 => h H1 μ1 v x Φ Q S1.sto r1 q1 fun z H3 c μ3 e3 s3 r3 p => k z H3 c μ3 (S1.step e3 s3) (e1.trans e3) r3 p
def dTest (φ : DE) : DT := fun Ψ δ μ Φ => φ Ψ δ μ fun x μ1 => ∃ b, x = .bl b ∧ Φ b μ1
theorem Rep.bl_inv {K : Fg} {μ : Sto} {H : Hp} {v : V} {b : Bool} (h : Rep K μ H v (.bl b)) : v = .bl b := by cases h; rfl
theorem Rep.int_inv {K : Fg} {μ : Sto} {H : Hp} {v : V} {b : Int} (h : Rep K μ H v (.int b)) : v = .int b := by cases h; rfl
theorem Rep.str_inv {K : Fg} {μ : Sto} {H : Hp} {v : V} {b : Str} (h : Rep K μ H v (.str b)) : v = .str b := by cases h; rfl
theorem Rep.non_inv {K : Fg} {μ : Sto} {H : Hp} {v : V} (h : Rep K μ H v .non) : v = .non := by cases h; rfl
theorem sTest (a : SE B ta φa) : ST B (tTest ta) (dTest φa) := fun σ H δ μ Φ Q S q k =>
  a σ H δ μ _ _ S q fun v H1 x μ1 S1 e1 r1 q1 => by
    obtain ⟨b, rfl, q2⟩ := q1
    obtain rfl := Rep.bl_inv r1
    exact ⟨b, rfl, k b H1 μ1 S1 e1 q2⟩
theorem sB (a : SE B ta φa) : ST B (tB ta) (dTest φa) := fun σ H δ μ Φ Q S q k =>
  a σ H δ μ _ _ S q fun v H1 x μ1 S1 e1 r1 q1 => by
    obtain ⟨b, rfl, q2⟩ := q1
    obtain rfl := Rep.bl_inv r1
    exact ⟨b, rfl, k b H1 μ1 S1 e1 q2⟩
def dAnd (θ ϑ : DT) : DT := fun Ψ δ μ Φ => θ Ψ δ μ fun b μ1 => (b = true → ϑ Ψ δ μ1 Φ) ∧ (b = false → Φ false μ1)
def dOr (θ ϑ : DT) : DT := fun Ψ δ μ Φ => θ Ψ δ μ fun b μ1 => (b = true → Φ true μ1) ∧ (b = false → ϑ Ψ δ μ1 Φ)
def dNot (θ : DT) : DT := fun Ψ δ μ Φ => θ Ψ δ μ fun b μ1 => Φ (!b) μ1
theorem sAnd (a : ST B tt θ) (b : ST B tu ϑ) : ST B (tAnd tt tu) (dAnd θ ϑ) := fun σ H δ μ Φ Q S q k =>
  a σ H δ μ _ _ S q fun v H1 μ1 S1 e1 q1 => by
    cases v with
    | true => exact b σ H1 δ μ1 _ _ S1 (q1.1 rfl) fun w H2 μ2 S2 e2 q2 => k w H2 μ2 S2 (e1.trans e2) q2
    | false => exact k false H1 μ1 S1 e1 (q1.2 rfl)
theorem sOr (a : ST B tt θ) (b : ST B tu ϑ) : ST B (tOr tt tu) (dOr θ ϑ) := fun σ H δ μ Φ Q S q k =>
  a σ H δ μ _ _ S q fun v H1 μ1 S1 e1 q1 => by
    cases v with
    | true => exact k true H1 μ1 S1 e1 (q1.1 rfl)
    | false => exact b σ H1 δ μ1 _ _ S1 (q1.2 rfl) fun w H2 μ2 S2 e2 q2 => k w H2 μ2 S2 (e1.trans e2) q2
theorem sNot (a : ST B tt θ) : ST B (tNot tt) (dNot θ) := fun σ H δ μ Φ Q S q k =>
  a σ H δ μ _ _ S q fun v H1 μ1 S1 e1 q1 => k (!v) H1 μ1 S1 e1 q1
def dAndV (φa φb : DE) : DE := fun Ψ δ μ Φ => φa Ψ δ μ fun x μ1 => ∃ b, x = .bl b ∧ (b = true → φb Ψ δ μ1 Φ) ∧ (b = false → Φ (.bl false) μ1)
def dOrV (φa φb : DE) : DE := fun Ψ δ μ Φ => φa Ψ δ μ fun x μ1 => ∃ b, x = .bl b ∧ (b = true → Φ (.bl true) μ1) ∧ (b = false → φb Ψ δ μ1 Φ)
def dNotV (φa : DE) : DE := fun Ψ δ μ Φ => φa Ψ δ μ fun x μ1 => ∃ b, x = .bl b ∧ Φ (.bl (!b)) μ1
theorem sAndV (a : SE B ta φa) (b : SE B tb φb) : SE B (tAndV ta tb) (dAndV φa φb) := fun σ H δ μ Φ Q S q k =>
  a σ H δ μ _ _ S q fun v H1 x μ1 S1 e1 r1 q1 => by
    obtain ⟨c, rfl, q2, q3⟩ := q1
    obtain rfl := Rep.bl_inv r1
    refine ⟨c, rfl, ?_⟩
    cases c with
    | true => exact b σ H1 δ μ1 _ _ S1 (q2 rfl) fun w H2 y μ2 S2 e2 r2 p => k w H2 y μ2 S2 (e1.trans e2) r2 p
    | false => exact k _ H1 _ μ1 S1 e1 (.bl false .nil) (q3 rfl)
theorem sOrV (a : SE B ta φa) (b : SE B tb φb) : SE B (tOrV ta tb) (dOrV φa φb) := fun σ H δ μ Φ Q S q k =>
  a σ H δ μ _ _ S q fun v H1 x μ1 S1 e1 r1 q1 => by
    obtain ⟨c, rfl, q2, q3⟩ := q1
    obtain rfl := Rep.bl_inv r1
    refine ⟨c, rfl, ?_⟩
    cases c with
    | true => exact k _ H1 _ μ1 S1 e1 (.bl true .nil) (q2 rfl)
    | false => exact b σ H1 δ μ1 _ _ S1 (q3 rfl) fun w H2 y μ2 S2 e2 r2 p => k w H2 y μ2 S2 (e1.trans e2) r2 p
theorem sNotV (a : SE B ta φa) : SE B (tNotV ta) (dNotV φa) := fun σ H δ μ Φ Q S q k =>
  a σ H δ μ _ _ S q fun v H1 x μ1 S1 e1 r1 q1 => by
    obtain ⟨c, rfl, q2⟩ := q1
    obtain rfl := Rep.bl_inv r1
    exact ⟨c, rfl, k _ H1 _ μ1 S1 e1 (.bl _ .nil) q2⟩
def dIf (θ : DT) (φa φb : DE) : DE := fun Ψ δ μ Φ => θ Ψ δ μ fun b μ1 => (b = true → φa Ψ δ μ1 Φ) ∧ (b = false → φb Ψ δ μ1 Φ)
theorem sIf (c : ST B tt θ) (a : SE B ta φa) (b : SE B tb φb) : SE B (tIf tt ta tb) (dIf θ φa φb) := fun σ H δ μ Φ Q S q k =>
  c σ H δ μ _ _ S q fun v H1 μ1 S1 e1 q1 => by
    cases v with
    | true => exact a σ H1 δ μ1 _ _ S1 (q1.1 rfl) fun w H2 y μ2 S2 e2 r2 p => k w H2 y μ2 S2 (e1.trans e2) r2 p
    | false => exact b σ H1 δ μ1 _ _ S1 (q1.2 rfl) fun w H2 y μ2 S2 e2 r2 p => k w H2 y μ2 S2 (e1.trans e2) r2 p
/-- a comparison of three -/
def dChain (ρ ρ' : DO) (φa φb φc : DE) : DE := fun Ψ δ μ Φ => φa Ψ δ μ fun x μ1 => φb Ψ δ μ1 fun y μ2 => ρ x y μ2 fun z μ3 => ∃ b, z = .bl b ∧ (b = true → φc Ψ δ μ3 fun u μ4 => ρ' y u μ4 Φ) ∧ (b = false → Φ (.bl false) μ3)
theorem sChain {r r' : R2} {ρ ρ' : DO} (h : RO K r ρ) (h' : RO K r' ρ') (a : SE B ta φa) (b : SE B tb φb) (c : SE B tc φc) : SE B (tChain r r' ta tb tc) (dChain ρ ρ' φa φb φc) := fun σ H δ μ Φ Q S q k =>
  a σ H δ μ _ _ S q fun v H1 x μ1 S1 e1 r1 q1 => b σ H1 δ μ1 _ _ S1 q1 fun w H2 y μ2 S2 e2 r2 q2 =>
    h H2 μ2 v w x y _ _ S2.sto (Reps.mono e2 r1) r2 q2 fun z H3 d μ3 e3 s3 r3 p => by
      obtain ⟨i, rfl, p1, p2⟩ := p
      obtain rfl := Rep.bl_inv r3
      refine ⟨i, rfl, ?_⟩
      have S3 := S2.step e3 s3
      cases i with
      | true =>
        exact c σ H3 δ μ3 _ _ S3 (p1 rfl) fun w4 H4 y4 μ4 S4 e4 r4 p4 =>
          h' H4 μ4 w w4 y y4 _ _ S4.sto (Reps.mono (e3.trans e4) r2) r4 p4 fun z5 H5 d5 μ5 e5 s5 r5 p5 => k z5 H5 d5 μ5 (S4.step e5 s5) (((e1.trans e2).trans e3).trans (e4.trans e5)) r5 p5
      | false => exact k _ H3 _ μ3 S3 ((e1.trans e2).trans e3) (.bl false .nil) (p2 rfl)
def dNil : DA := fun _ _ μ Φ => Φ [] μ
def dCons (φ : DE) (ψ : DA) : DA := fun Ψ δ μ Φ => φ Ψ δ μ fun x μ1 => ψ Ψ δ μ1 fun xs μ2 => Φ (x :: xs) μ2
theorem sNil : SA B tNil dNil := fun σ H δ μ Φ Q S q k => k [] H [] μ S .refl .nil q
theorem sCons (a : SE B ta φa) (b : SA B tas ψ) : SA B (tCons ta tas) (dCons φa ψ) := fun σ H δ μ Φ Q S q k =>
  a σ H δ μ _ _ S q fun v H1 x μ1 S1 e1 r1 q1 => b σ H1 δ μ1 _ _ S1 q1 fun vs H2 xs μ2 S2 e2 r2 q2 => k _ H2 _ μ2 S2 (e1.trans e2) (.cons (Reps.mono e2 r1) r2) q2
def dTup (ψ : DA) : DE := fun Ψ δ μ Φ => ψ Ψ δ μ fun xs μ1 => xs.length ≤ 100000 ∧ Φ (.tup xs) μ1
theorem rep_tup {K : Fg} {μ : Sto} {H : Hp} {p : Addr} {vs : List V} {ds : List D} (s : StoOk K μ H) (hp : H p = none) (r : Reps K μ H vs ds) : Rep K μ (upd H p (.tup vs)) (.ref p) (.pr ds) :=
  .pr ⟨.inl upd_same, .new s hp⟩ (r.mono (.new hp)) .nil
theorem rep_tupN {K : Fg} {μ : Sto} {H : Hp} {p : Addr} {o : Obj} {vs : List V} {ds : List D} (s : StoOk K μ H) (hp : H p = none) (ho : o.dict = none) (hc : o.cls = .type "tuple") (r : Reps K μ H vs ds) : Rep K μ (upd H p (.frz o (.tup vs))) (.ref p) (.tup ds) :=
  .tup (.inl ⟨o, upd_same, ho, hc, .new s hp⟩) (r.mono (.new hp)) .nil
theorem rep_lst {K : Fg} {μ : Sto} {H : Hp} {p : Addr} {vs : List V} {ds : List D} (s : StoOk K μ H) (hp : H p = none) (r : Reps K μ H vs ds) : Rep K μ (upd H p (.lst vs)) (.ref p) (.lst ds) :=
  .lst ⟨upd_same, .new s hp⟩ (r.mono (.new hp)) .nil
theorem sz {n : Nat} (h : n ≤ 100000) : n ≤ sizeLine := Nat.le_trans h (by decide)
theorem sTup (b : SA B tas ψ) : SE B (tTupN tas) (dTup ψ) := fun σ H δ μ Φ Q S q k =>
  b σ H δ μ _ _ S q fun vs H1 xs μ1 S1 e1 r1 q1 => ⟨sz (by rw [r1.length]; exact q1.1), fun p o ho hc hp => k _ _ _ μ1 (S1.step (.new hp) (S1.sto.new hp)) (e1.trans (.new hp)) (rep_tupN S1.sto hp ho hc r1) q1.2⟩
def dLst (ψ : DA) : DE := fun Ψ δ μ Φ => ψ Ψ δ μ fun xs μ1 => xs.length ≤ 100000 ∧ Φ (.lst xs) μ1
theorem sLst (b : SA B tas ψ) : SE B (tLst tas) (dLst ψ) := fun σ H δ μ Φ Q S q k =>
  b σ H δ μ _ _ S q fun vs H1 xs μ1 S1 e1 r1 q1 => ⟨sz (by rw [r1.length]; exact q1.1), fun p hp => k _ _ _ μ1 (S1.step (.new hp) (S1.sto.new hp)) (e1.trans (.new hp)) (rep_lst S1.sto hp r1) q1.2⟩
/-- a list that will change: its handle -/
def dOwn (ψ : DA) : DE := fun Ψ δ μ Φ => ψ Ψ δ μ fun xs μ1 => xs.length ≤ 100000 ∧ ∀ p, μ1 p = none → Φ (.hd (.ref p)) (sset μ1 p (.lst xs))
theorem sto_own {K : Fg} {μ : Sto} {H : Hp} {p : Addr} {vs : List V} {ds : List D} (s : StoOk K μ H) (hp : H p = none) (r : Reps K μ H vs ds) : StoOk K (sset μ p (.lst ds)) (upd H p (.lst vs)) :=
  s.cell (.newC s hp) ⟨vs, upd_same, r.mono (.newC s hp)⟩
theorem sOwn (b : SA B tas ψ) : SE B (tLst tas) (dOwn ψ) := fun σ H δ μ Φ Q S q k =>
  b σ H δ μ _ _ S q fun vs H1 xs μ1 S1 e1 r1 q1 => ⟨sz (by rw [r1.length]; exact q1.1), fun p hp =>
    k _ _ _ _ (S1.step (.newC S1.sto hp) (sto_own S1.sto hp r1)) (e1.trans (.newC S1.sto hp)) (.hd _ .nil) (q1.2 p (S1.sto.fresh hp))⟩
def dSeq (ω ζ : DSt) : DSt := fun Ψ Δ δ μ => ω Ψ { Δ with nx := ζ Ψ Δ } δ μ
theorem sSeq (a : SS B ts ω) (b : SS B tz ζ) : SS B (tSeq ts tz) (dSeq ω ζ) := fun D Δ σ H δ μ E S q =>
  a { D with nx := tz D } { Δ with nx := ζ B.Ψ Δ } σ H δ μ ⟨fun σ' H' δ' μ' S' q' => b D Δ σ' H' δ' μ' E S' q', E.rt, E.bk, E.ct⟩ S q
def dNext : DSt := fun _ Δ δ μ => Δ.nx δ μ
theorem sNext : SS B tNext dNext := fun D Δ σ H δ μ E S q => E.nx σ H δ μ S q
def dBreak : DSt := fun _ Δ δ μ => Δ.bk δ μ
def dCont : DSt := fun _ Δ δ μ => Δ.ct δ μ
def dDrop (φ : DE) : DSt := fun Ψ Δ δ μ => φ Ψ δ μ fun _ μ1 => Δ.nx δ μ1
theorem sDrop (a : SE B ta φa) : SS B (tDrop ta) (dDrop φa) := fun D Δ σ H δ μ E S q => a σ H δ μ _ _ S q fun v H1 x μ1 S1 e1 r1 q1 => E.nx σ H1 δ μ1 S1 q1
def dRet (φ : DE) : DSt := fun Ψ Δ δ μ => φ Ψ δ μ Δ.rt
theorem sRet (a : SE B ta φa) : SS B (tRet ta) (dRet φa) := fun D Δ σ H δ μ E S q => a σ H δ μ _ _ S q fun v H1 x μ1 S1 e1 r1 q1 => E.rt v H1 x μ1 σ δ S1 r1 q1
def dRetN : DSt := fun _ Δ δ μ => Δ.rt .non μ
def dIfS (θ : DT) (ω ζ : DSt) : DSt := fun Ψ Δ δ μ => θ Ψ δ μ fun b μ1 => (b = true → ω Ψ Δ δ μ1) ∧ (b = false → ζ Ψ Δ δ μ1)
theorem sIfS (c : ST B tt θ) (a : SS B ts ω) (b : SS B tz ζ) : SS B (tIfS tt ts tz) (dIfS θ ω ζ) := fun D Δ σ H δ μ E S q =>
  c σ H δ μ _ _ S q fun v H1 μ1 S1 e1 q1 => by
    cases v with
    | true => exact a D Δ σ H1 δ μ1 E S1 (q1.1 rfl)
    | false => exact b D Δ σ H1 δ μ1 E S1 (q1.2 rfl)
/-- targets -/
abbrev DG := D → DEnv → Sto → (DEnv → Sto → Prop) → Prop
def SG {K : Fg} (B : Bx K) (g : TG) (γ : DG) : Prop := ∀ (v : V) (d : D) (σ : L2.St) (H : Hp) (δ : DEnv) (μ : Sto) (Φ : DEnv → Sto → Prop) (Q : L2.St → Hp → Prop), B.S σ H δ μ → Rep K μ H v d → γ d δ μ Φ →
  (∀ σ' H' δ' μ', B.S σ' H' δ' μ' → Evo μ H μ' H' → Φ δ' μ' → Q σ' H') → g v σ H Q
def SGs {K : Fg} (B : Bx K) (g : TGs) (γ : List D → DEnv → Sto → (DEnv → Sto → Prop) → Prop) : Prop := ∀ (v : List V) (d : List D) (σ : L2.St) (H : Hp) (δ : DEnv) (μ : Sto) (Φ : DEnv → Sto → Prop) (Q : L2.St → Hp → Prop), B.S σ H δ μ → Reps K μ H v d → γ d δ μ Φ →
  (∀ σ' H' δ' μ', B.S σ' H' δ' μ' → Evo μ H μ' H' → Φ δ' μ' → Q σ' H') → g v σ H Q
def eName (i : Nat) : DG := fun d δ μ Φ => Φ (δ.set i (some d)) μ
theorem sName {i : Nat} : SG B (gName i) (eName i) := fun v d σ H δ μ Φ Q S r q k => k _ H _ μ (S.set r i) .refl q
def eNil : List D → DEnv → Sto → (DEnv → Sto → Prop) → Prop := fun ds δ μ Φ => ds = [] ∧ Φ δ μ
def eCons (γ : DG) (η : List D → DEnv → Sto → (DEnv → Sto → Prop) → Prop) : List D → DEnv → Sto → (DEnv → Sto → Prop) → Prop := fun ds δ μ Φ => ∃ d r, ds = d :: r ∧ γ d δ μ fun δ' μ' => η r δ' μ' Φ
theorem sgNil : SGs B gNil eNil := fun v d σ H δ μ Φ Q S r q k => by
  obtain ⟨rfl, q⟩ := q
  cases r
  exact ⟨rfl, k σ H δ μ S .refl q⟩
theorem sgCons {g : TG} {gs : TGs} {γ : DG} {η : List D → DEnv → Sto → (DEnv → Sto → Prop) → Prop} (a : SG B g γ) (b : SGs B gs η) : SGs B (gCons g gs) (eCons γ η) := fun v d σ H δ μ Φ Q S r q k => by
  obtain ⟨x, xs, rfl, q⟩ := q
  cases v with
  | nil => have := r.length; simp at this
  | cons v vs =>
    exact ⟨v, vs, rfl, a v x σ H δ μ _ _ S r.split.1 q fun σ1 H1 δ1 μ1 S1 e1 q1 => b vs xs σ1 H1 δ1 μ1 _ _ S1 (r.split.2.mono e1) q1 fun σ2 H2 δ2 μ2 S2 e2 q2 => k σ2 H2 δ2 μ2 S2 (e1.trans e2) q2⟩
def tpl : D → Option (List D)
  | .tup ds => some ds
  | .pr ds => some ds
  | _ => none
def eTup (n : Nat) (η : List D → DEnv → Sto → (DEnv → Sto → Prop) → Prop) : DG := fun d δ μ Φ => ∃ ds, tpl d = some ds ∧ ds.length = n ∧ η ds δ μ Φ
theorem Rep.tup_inv {K : Fg} {μ : Sto} {H : Hp} {v : V} {ds : List D} (h : Rep K μ H v (.tup ds)) : ∃ a vs, v = .ref a ∧ TupAt K μ H a vs ∧ Reps K μ H vs ds := by
  cases h with
  | tup h1 h2 _ => exact ⟨_, _, rfl, h1, h2⟩
theorem Rep.lst_inv {K : Fg} {μ : Sto} {H : Hp} {v : V} {ds : List D} (h : Rep K μ H v (.lst ds)) : ∃ a vs, v = .ref a ∧ LstAt μ H a vs ∧ Reps K μ H vs ds := by
  cases h with
  | lst h1 h2 _ => exact ⟨_, _, rfl, h1, h2⟩
theorem Rep.tpl_inv {K : Fg} {μ : Sto} {H : Hp} {v : V} {d : D} {ds : List D} (h : Rep K μ H v d) (e : tpl d = some ds) : ∃ a vs, v = .ref a ∧ SqT K H a vs ∧ Reps K μ H vs ds := by
  cases h with
  | tup h1 h2 _ => cases e; exact ⟨_, _, rfl, h1.sq, h2⟩
  | pr h1 h2 _ => cases e; exact ⟨_, _, rfl, h1.sq, h2⟩
  | _ => cases e
theorem sgTup {n : Nat} {gs : TGs} {η : List D → DEnv → Sto → (DEnv → Sto → Prop) → Prop} (b : SGs B gs η) : SG B (gTup K n gs) (eTup n η) := fun v d σ H δ μ Φ Q S r q k => by
  obtain ⟨ds, ed, hn, q⟩ := q
  obtain ⟨a, vs, rfl, ht, hr⟩ := Rep.tpl_inv r ed
  exact ⟨a, vs, rfl, ht, by rw [hr.length]; exact hn, b vs ds σ H δ μ Φ Q S hr q k⟩
def dAsg (φ : DE) (γ : DG) : DSt := fun Ψ Δ δ μ => φ Ψ δ μ fun x μ1 => γ x δ μ1 Δ.nx
theorem sAsg {g : TG} {γ : DG} (a : SE B ta φa) (b : SG B g γ) : SS B (tAsg ta g) (dAsg φa γ) := fun D Δ σ H δ μ E S q =>
  a σ H δ μ _ _ S q fun v H1 x μ1 S1 e1 r1 q1 => b v x σ H1 δ μ1 _ _ S1 r1 q1 fun σ2 H2 δ2 μ2 S2 e2 q2 => E.nx σ2 H2 δ2 μ2 S2 q2
/-- x += e -/
def dAug (i : Nat) (φ : DE) (ρ : DO) : DSt := fun Ψ Δ δ μ => ∃ x, δ[i]? = some (some x) ∧ φ Ψ δ μ fun y μ1 => ρ x y μ1 fun z μ2 => Δ.nx (δ.set i (some z)) μ2
/-- while, by a word and a number that falls -/
def dWhile (θ : DT) (ω : DSt) : DSt := fun Ψ Δ δ μ => ∃ W : Nat → DEnv → Sto → Prop, (∃ m, W m δ μ) ∧ ∀ m δ μ, W m δ μ → θ Ψ δ μ fun b μ1 =>
  (b = true → ω Ψ { Δ with nx := fun δ' μ' => ∃ m', m' < m ∧ W m' δ' μ', ct := fun δ' μ' => ∃ m', m' < m ∧ W m' δ' μ', bk := Δ.nx } δ μ1) ∧ (b = false → Δ.nx δ μ1)
end
end DW
set_option Elab.async false
set_option linter.all false
set_option maxRecDepth 100000
namespace DW
open PySem PySem.Spec L2
section
variable {K : Fg}
def oI (C : Int → Int → Prop) (g : Int → Int → D) : DO := fun x y μ Φ => ∃ i j, x = .int i ∧ y = .int j ∧ C i j ∧ Φ (g i j) μ
def oI0 (g : Int → Int → D) : DO := fun x y μ Φ => ∃ i j, x = .int i ∧ y = .int j ∧ Φ (g i j) μ
theorem roI {C : Int → Int → Prop} {g : Int → Int → V} {g' : Int → Int → D} (hg : ∀ i j μ H, Rep K μ H (g i j) (g' i j)) : RO K (rI C g) (oI C g') := fun H μ v w d e Φ Q s r1 r2 q k => by
  obtain ⟨i, j, rfl, rfl, hc, q⟩ := q
  exact ⟨i, j, Rep.int_inv r1, Rep.int_inv r2, hc, k _ H _ μ .refl s (hg i j μ H) q⟩
theorem roI0 {g : Int → Int → V} {g' : Int → Int → D} (hg : ∀ i j μ H, Rep K μ H (g i j) (g' i j)) : RO K (rI0 g) (oI0 g') := fun H μ v w d e Φ Q s r1 r2 q k => by
  obtain ⟨i, j, rfl, rfl, q⟩ := q
  exact ⟨i, j, Rep.int_inv r1, Rep.int_inv r2, k _ H _ μ .refl s (hg i j μ H) q⟩
theorem roInt {C : Int → Int → Prop} {g : Int → Int → Int} : RO K (rI C fun i j => .int (g i j)) (oI C fun i j => .int (g i j)) := roI fun _ _ _ _ => .int _ .nil
theorem roInt0 {g : Int → Int → Int} : RO K (rI0 fun i j => .int (g i j)) (oI0 fun i j => .int (g i j)) := roI0 fun _ _ _ _ => .int _ .nil
theorem roBl0 {g : Int → Int → Bool} : RO K (rI0 fun i j => .bl (g i j)) (oI0 fun i j => .bl (g i j)) := roI0 fun _ _ _ _ => .bl _ .nil
def uI (g : Int → Int) : DU := fun x μ Φ => ∃ i, x = .int i ∧ Φ (.int (g i)) μ
theorem ruInt {g : Int → Int} : RU K (rU fun i => .int (g i)) (uI g) := fun H μ v d Φ Q s r q k => by
  obtain ⟨i, rfl, q⟩ := q
  exact ⟨i, Rep.int_inv r, k _ H _ μ .refl s (.int _ .nil) q⟩
def sEq : D → D → Option Bool
  | .int i, .int j => some (decide (i = j))
  | .str i, .str j => some (decide (i = j))
  | .bl i, .bl j => some (decide (i = j))
  | .non, .non => some true
  | .non, .int _ => some false
  | .int _, .non => some false
  | .non, .bl _ => some false
  | .bl _, .non => some false
  | .non, .str _ => some false
  | .str _, .non => some false
  | .int _, .str _ => some false
  | .str _, .int _ => some false
  | .bl _, .str _ => some false
  | .str _, .bl _ => some false
  | _, _ => none
theorem sEq_ok {μ : Sto} {H : Hp} {v w : V} {d e : D} {b : Bool} (r1 : Rep K μ H v d) (r2 : Rep K μ H w e) (h : sEq d e = some b) : scal v w = true ∧ decide (v = w) = b := by
  cases d <;> cases e <;> (first | (unfold sEq at h; cases h; done) | skip) <;> cases r1 <;> cases r2 <;> (injection h with h; subst h; first | exact ⟨rfl, by simp⟩ | exact ⟨rfl, rfl⟩)
def oEq : DO := fun x y μ Φ => ∃ b, sEq x y = some b ∧ Φ (.bl b) μ
def oNe : DO := fun x y μ Φ => ∃ b, sEq x y = some b ∧ Φ (.bl (!b)) μ
theorem roEq : RO K rEq oEq := fun H μ v w d e Φ Q s r1 r2 q k => by
  obtain ⟨b, hb, q⟩ := q
  obtain ⟨h1, h2⟩ := sEq_ok r1 r2 hb
  exact ⟨h1, by rw [h2]; exact k _ H _ μ .refl s (.bl _ .nil) q⟩
theorem roNe : RO K rNe oNe := fun H μ v w d e Φ Q s r1 r2 q k => by
  obtain ⟨b, hb, q⟩ := q
  obtain ⟨h1, h2⟩ := sEq_ok r1 r2 hb
  exact ⟨h1, by rw [h2]; exact k _ H _ μ .refl s (.bl _ .nil) q⟩
def isNone : D → Option Bool
  | .non => some true
  | .bl _ => some false
  | .int _ => some false
  | .str _ => some false
  | .tup _ => some false
  | .lst _ => some false
  | .obj _ _ _ => some false
  | _ => none
theorem isNone_ok {μ : Sto} {H : Hp} {v : V} {d : D} {b : Bool} (r1 : Rep K μ H v d) (h : isNone d = some b) : decide (v = .non) = b := by
  cases d <;> unfold isNone at h <;> first | (cases h; done) | (cases h; cases r1; rfl) | (cases h; cases r1; simp)
def oIsN : DO := fun x y μ Φ => y = .non ∧ ∃ b, isNone x = some b ∧ Φ (.bl b) μ
def oNotN : DO := fun x y μ Φ => y = .non ∧ ∃ b, isNone x = some b ∧ Φ (.bl (!b)) μ
theorem roIsN : RO K (fun x y H Q => y = .non ∧ Q (.bl (decide (x = .non))) H) oIsN := fun H μ v w d e Φ Q s r1 r2 q k => by
  obtain ⟨rfl, b, hb, q⟩ := q
  exact ⟨Rep.non_inv r2, by rw [isNone_ok r1 hb]; exact k _ H _ μ .refl s (.bl _ .nil) q⟩
theorem roNotN : RO K (fun x y H Q => y = .non ∧ Q (.bl (!decide (x = .non))) H) oNotN := fun H μ v w d e Φ Q s r1 r2 q k => by
  obtain ⟨rfl, b, hb, q⟩ := q
  exact ⟨Rep.non_inv r2, by rw [isNone_ok r1 hb]; exact k _ H _ μ .refl s (.bl _ .nil) q⟩
def flatD : D → Bool
  | .non => true
  | .bl _ => true
  | .int _ => true
  | .str _ => true
  | _ => false
def eqF : D → D → Bool
  | .non, .non => true
  | .bl a, .bl b => a == b
  | .bl a, .int b => (if a then 1 else 0) == b
  | .int a, .bl b => a == (if b then 1 else 0)
  | .int a, .int b => a == b
  | .str a, .str b => a == b
  | _, _ => false
theorem flatD_ok {μ : Sto} {H : Hp} {v : V} {d : D} (r : Rep K μ H v d) (h : flatD d = true) : flatV v = true := by
  cases d <;> (first | (exact absurd h Bool.false_ne_true) | skip) <;> cases r <;> rfl
theorem eqF_ok {μ : Sto} {H : Hp} {v w : V} {d e : D} (r1 : Rep K μ H v d) (r2 : Rep K μ H w e) (f1 : flatD d = true) (f2 : flatD e = true) : eqV v w = eqF d e := by
  cases d <;> (first | (exact absurd f1 Bool.false_ne_true) | skip) <;> cases r1 <;> cases e <;> (first | (exact absurd f2 Bool.false_ne_true) | skip) <;> cases r2 <;> rfl
theorem flatAll_ok {μ : Sto} {H : Hp} : ∀ {vs : List V} {ds : List D}, Reps K μ H vs ds → ds.all flatD = true → vs.all flatV = true
  | [], [], _, _ => rfl
  | [], _ :: _, r, _ => by have := r.length; simp at this
  | _ :: _, [], r, _ => by have := r.length; simp at this
  | v :: vs, d :: ds, r, h => by
    rw [List.all_cons, Bool.and_eq_true] at h ⊢
    exact ⟨flatD_ok r.split.1 h.1, flatAll_ok r.split.2 h.2⟩
def inD (x : D) (ds : List D) : Bool := ds.any fun y => eqF y x
theorem inD_ok {μ : Sto} {H : Hp} {v : V} {d : D} (r1 : Rep K μ H v d) (f1 : flatD d = true) : ∀ {vs : List V} {ds : List D}, Reps K μ H vs ds → ds.all flatD = true → inV v vs = inD d ds
  | [], [], _, _ => rfl
  | [], _ :: _, r, _ => by have := r.length; simp at this
  | _ :: _, [], r, _ => by have := r.length; simp at this
  | w :: vs, e :: ds, r, h => by
    rw [List.all_cons, Bool.and_eq_true] at h
    have ih := inD_ok r1 f1 r.split.2 h.2
    unfold inV inD at ih ⊢
    rw [List.any_cons, List.any_cons, eqF_ok r.split.1 r1 h.1 f1, ih]
/-- the items of a tuple, of a list, of a handle's list -/
inductive Items (μ : Sto) : D → List D → Prop
  | tup (ds) : Items μ (.tup ds) ds
  | lst (ds) : Items μ (.lst ds) ds
  | own {a ds} : μ a = some (.lst ds) → Items μ (.hd (.ref a)) ds
  | frz {a ds} : μ a = some (.frz ds) → Items μ (.hd (.ref a)) ds
  | scr (ns) : Items μ (.scr ns) (ns.map .int)
theorem reps_ints {μ : Sto} {H : Hp} : ∀ (ns : List Int), Reps K μ H (ns.map V.int) (ns.map D.int)
  | [] => .nil
  | n :: ns => .int n (reps_ints ns)
theorem Items.ok {μ : Sto} {H : Hp} {v : V} {d : D} {ds : List D} (s : StoOk K μ H) (r : Rep K μ H v d) (h : Items μ d ds) : ∃ a vs, v = .ref a ∧ (SqL K H a vs ∨ SqT K H a vs) ∧ Reps K μ H vs ds := by
  cases h with
  | tup => obtain ⟨a, vs, rfl, h1, h2⟩ := Rep.tup_inv r; exact ⟨a, vs, rfl, .inr h1.sq, h2⟩
  | lst => obtain ⟨a, vs, rfl, h1, h2⟩ := Rep.lst_inv r; exact ⟨a, vs, rfl, .inl h1.sq, h2⟩
  | own h => obtain rfl := Rep.hd_inv r; obtain ⟨vs, h1, h2⟩ := s _ _ h; exact ⟨_, vs, rfl, .inl (.of h1), h2⟩
  | frz h => obtain rfl := Rep.hd_inv r; obtain ⟨vs, h1, h2⟩ := s _ _ h; exact ⟨_, vs, rfl, .inl (.of h1), h2⟩
  | scr ns =>
    cases r with
    | scr h1 _ => exact ⟨_, _, rfl, .inl h1.sq, reps_ints ns⟩
def oIn (neg : Bool) : DO := fun x y μ Φ => ∃ ds, Items μ y ds ∧ flatD x = true ∧ ds.all flatD = true ∧ Φ (.bl (if neg then !inD x ds else inD x ds)) μ
theorem roIn {neg : Bool} : RO K (rIn K neg) (oIn neg) := fun H μ v w d e Φ Q s r1 r2 q k => by
  obtain ⟨ds, hi, f1, f2, q⟩ := q
  obtain ⟨a, vs, rfl, h1, h2⟩ := hi.ok s r2
  refine ⟨a, vs, rfl, h1, flatD_ok r1 f1, flatAll_ok h2 f2, ?_⟩
  rw [inD_ok r1 f1 h2 f2]
  exact k _ H _ μ .refl s (.bl _ .nil) q
theorem atI_reps {μ : Sto} {H : Hp} {vs : List V} {ds : List D} (r : Reps K μ H vs ds) {i : Int} {d : D} (h : atI ds i = some d) : ∃ v, atI vs i = some v ∧ Rep K μ H v d := by
  unfold atI at h ⊢
  rw [r.length]
  cases e : ixN ds.length i with
  | none => rw [e] at h; cases h
  | some j => rw [e] at h; exact r.get h
def isTup : D → Bool
  | .tup _ => true
  | _ => false
def oIxT : DO := fun x y μ Φ => ∃ ds i d, x = .tup ds ∧ y = .int i ∧ atI ds i = some d ∧ Φ d μ
theorem roIxT : RO K (rIxT K) oIxT := fun H μ v w d e Φ Q s r1 r2 q k => by
  obtain ⟨ds, i, c, rfl, rfl, hi, q⟩ := q
  obtain ⟨a, vs, rfl, h1, h2⟩ := Rep.tup_inv r1
  obtain ⟨z, hz, rz⟩ := atI_reps h2 hi
  exact ⟨a, vs, i, z, rfl, Rep.int_inv r2, h1.sq, hz, k _ H _ μ .refl s rz q⟩
def oIxL : DO := fun x y μ Φ => ∃ ds i d, Items μ x ds ∧ isTup x = false ∧ y = .int i ∧ atI ds i = some d ∧ Φ d μ
theorem Items.okL {μ : Sto} {H : Hp} {v : V} {d : D} {ds : List D} (s : StoOk K μ H) (r : Rep K μ H v d) (h : Items μ d ds) (n : isTup d = false) : ∃ a vs, v = .ref a ∧ SqL K H a vs ∧ Reps K μ H vs ds := by
  cases h with
  | tup => cases n
  | lst => obtain ⟨a, vs, rfl, h1, h2⟩ := Rep.lst_inv r; exact ⟨a, vs, rfl, h1.sq, h2⟩
  | own h => obtain rfl := Rep.hd_inv r; obtain ⟨vs, h1, h2⟩ := s _ _ h; exact ⟨_, vs, rfl, .of h1, h2⟩
  | frz h => obtain rfl := Rep.hd_inv r; obtain ⟨vs, h1, h2⟩ := s _ _ h; exact ⟨_, vs, rfl, .of h1, h2⟩
  | scr ns =>
    cases r with
    | scr h1 _ => exact ⟨_, _, rfl, h1.sq, reps_ints ns⟩
theorem roIxL : RO K (rIxL K) oIxL := fun H μ v w d e Φ Q s r1 r2 q k => by
  obtain ⟨ds, i, c, hi, hn, rfl, ha, q⟩ := q
  obtain ⟨a, vs, rfl, h1, h2⟩ := hi.okL s r1 hn
  obtain ⟨z, hz, rz⟩ := atI_reps h2 ha
  exact ⟨a, vs, i, z, rfl, Rep.int_inv r2, h1, hz, k _ H _ μ .refl s rz q⟩
/-- t + u, tuples -/
def oCatT : DO := fun x y μ Φ => ∃ xs ys, x = .tup xs ∧ y = .tup ys ∧ xs.length + ys.length ≤ 100000 ∧ Φ (.tup (xs ++ ys)) μ
theorem roCatT : RO K (rCatN K) oCatT := fun H μ v w d e Φ Q s r1 r2 q k => by
  obtain ⟨xs, ys, rfl, rfl, hz, q⟩ := q
  obtain ⟨a, vs, rfl, h1, h2⟩ := Rep.tup_inv r1
  obtain ⟨b, us, rfl, h3, h4⟩ := Rep.tup_inv r2
  refine ⟨a, b, vs, us, rfl, rfl, h1.sq, h3.sq, sz (by rw [h2.length, h4.length]; exact hz), fun e => ?_, fun _ e => ?_, fun _ _ p o ho hc hp => ?_⟩
  · subst e
    have ex : xs = [] := List.eq_nil_of_length_eq_zero (by rw [← h2.length]; rfl)
    subst ex
    exact k _ H _ μ .refl s r2 q
  · subst e
    have ex : ys = [] := List.eq_nil_of_length_eq_zero (by rw [← h4.length]; rfl)
    subst ex
    rw [List.append_nil] at q
    exact k _ H _ μ .refl s r1 q
  · exact k _ _ _ μ (.new hp) (s.new hp) (rep_tupN s hp ho hc (h2.append h4)) q
/-- xs + ys, lists -/
def oCatL : DO := fun x y μ Φ => ∃ xs ys, x = .lst xs ∧ y = .lst ys ∧ xs.length + ys.length ≤ 100000 ∧ Φ (.lst (xs ++ ys)) μ
theorem roCatL : RO K rCat oCatL := fun H μ v w d e Φ Q s r1 r2 q k => by
  obtain ⟨xs, ys, rfl, rfl, hz, q⟩ := q
  obtain ⟨a, vs, rfl, h1, h2⟩ := Rep.lst_inv r1
  obtain ⟨b, us, rfl, h3, h4⟩ := Rep.lst_inv r2
  exact ⟨a, b, vs, us, rfl, rfl, h1.1, h3.1, sz (by rw [h2.length, h4.length]; exact hz), fun p hp => k _ _ _ μ (.new hp) (s.new hp) (rep_lst s hp (h2.append h4)) q⟩
/-- t * k for k of two or more -/
theorem reps_rep {μ : Sto} {H : Hp} {vs : List V} {ds : List D} (r : Reps K μ H vs ds) : ∀ n, Reps K μ H (List.replicate n vs).flatten (List.replicate n ds).flatten
  | 0 => .nil
  | n + 1 => by
    rw [List.replicate_succ, List.replicate_succ, List.flatten_cons, List.flatten_cons]
    exact r.append (reps_rep r n)
def dNoPart : XP → DEnv → Sto → (Option Int → Sto → Prop) → Prop := fun _ _ μ Φ => Φ none μ
def dPart (φ : DE) : XP → DEnv → Sto → (Option Int → Sto → Prop) → Prop := fun Ψ δ μ Φ => φ Ψ δ μ fun x μ1 => ∃ i, x = .int i ∧ Φ (some i) μ1
def SO (B : Bx K) (to : TO) (φ : XP → DEnv → Sto → (Option Int → Sto → Prop) → Prop) : Prop := ∀ (σ : L2.St) (H : Hp) (δ : DEnv) (μ : Sto) (Φ : Option Int → Sto → Prop) (Q : Option Int → Hp → Prop), B.S σ H δ μ → φ B.Ψ δ μ Φ →
  (∀ o H' μ', B.S σ H' δ μ' → Evo μ H μ' H' → Φ o μ' → Q o H') → to σ H Q
theorem sNoPart {B : Bx K} : SO B tNoPart dNoPart := fun σ H δ μ Φ Q S q k => k none H μ S .refl q
theorem sPart {B : Bx K} {te : TE} {φ : DE} (a : SE B te φ) : SO B (tPart te) (dPart φ) := fun σ H δ μ Φ Q S q k =>
  a σ H δ μ _ _ S q fun v H1 x μ1 S1 e1 r1 q1 => by
    obtain ⟨i, rfl, q2⟩ := q1
    obtain rfl := Rep.int_inv r1
    exact ⟨i, rfl, k (some i) H1 μ1 S1 e1 q2⟩
def cutD (xs : List D) (lo hi : Option Int) : List D := (xs.drop (HT.sIx xs.length 0 lo)).take (HT.sIx xs.length xs.length hi - HT.sIx xs.length 0 lo)
theorem cut_reps {μ : Sto} {H : Hp} {vs : List V} {ds : List D} (r : Reps K μ H vs ds) (lo hi : Option Int) : Reps K μ H (cutV vs lo hi) (cutD ds lo hi) := by
  unfold cutV cutD
  rw [r.length]
  exact (r.drop _).take _
def dSlT (φ : DE) (ol oh : XP → DEnv → Sto → (Option Int → Sto → Prop) → Prop) : DE := fun Ψ δ μ Φ => φ Ψ δ μ fun x μ1 => ol Ψ δ μ1 fun lo μ2 => oh Ψ δ μ2 fun hi μ3 => ∃ ds, x = .tup ds ∧ Φ (.tup (cutD ds lo hi)) μ3
theorem cutD_whole {ds : List D} {lo hi : Option Int} (h : HT.sIx ds.length 0 lo = 0 ∧ HT.sIx ds.length ds.length hi = ds.length) : cutD ds lo hi = ds := by
  unfold cutD
  rw [h.1, h.2, List.drop_zero, Nat.sub_zero, List.take_length]
theorem sSlT {B : Bx K} {te : TE} {tl th : TO} {φ : DE} {ol oh : XP → DEnv → Sto → (Option Int → Sto → Prop) → Prop} (a : SE B te φ) (b : SO B tl ol) (c : SO B th oh) : SE B (tSl (rSlN K) te tl th) (dSlT φ ol oh) := fun σ H δ μ Φ Q S q k =>
  a σ H δ μ _ _ S q fun v H1 x μ1 S1 e1 r1 q1 => b σ H1 δ μ1 _ _ S1 q1 fun lo H2 μ2 S2 e2 q2 => c σ H2 δ μ2 _ _ S2 q2 fun hi H3 μ3 S3 e3 q3 => by
    obtain ⟨ds, rfl, q3⟩ := q3
    obtain ⟨p, vs, rfl, h1, h2⟩ := Rep.tup_inv ((r1.mono e2).mono e3)
    refine ⟨p, vs, rfl, h1.sq, fun w => ?_, fun w o ob hd hc ho => ?_⟩
    · rw [h2.length] at w
      rw [cutD_whole w] at q3
      exact k _ H3 _ μ3 S3 ((e1.trans e2).trans e3) (.tup h1 h2 .nil) q3
    · exact k _ _ _ μ3 (S3.step (.new ho) (S3.sto.new ho)) (((e1.trans e2).trans e3).trans (.new ho)) (rep_tupN S3.sto ho hd hc (cut_reps h2 lo hi)) q3
def dSlL (φ : DE) (ol oh : XP → DEnv → Sto → (Option Int → Sto → Prop) → Prop) : DE := fun Ψ δ μ Φ => φ Ψ δ μ fun x μ1 => ol Ψ δ μ1 fun lo μ2 => oh Ψ δ μ2 fun hi μ3 => ∃ ds, Items μ3 x ds ∧ isTup x = false ∧ Φ (.lst (cutD ds lo hi)) μ3
theorem sSlL {B : Bx K} {te : TE} {tl th : TO} {φ : DE} {ol oh : XP → DEnv → Sto → (Option Int → Sto → Prop) → Prop} (a : SE B te φ) (b : SO B tl ol) (c : SO B th oh) : SE B (tSl (rSlL K) te tl th) (dSlL φ ol oh) := fun σ H δ μ Φ Q S q k =>
  a σ H δ μ _ _ S q fun v H1 x μ1 S1 e1 r1 q1 => b σ H1 δ μ1 _ _ S1 q1 fun lo H2 μ2 S2 e2 q2 => c σ H2 δ μ2 _ _ S2 q2 fun hi H3 μ3 S3 e3 q3 => by
    obtain ⟨ds, hi', hn, q3⟩ := q3
    obtain ⟨p, vs, rfl, h1, h2⟩ := hi'.okL S3.sto ((r1.mono e2).mono e3) hn
    exact ⟨p, vs, rfl, h1, fun o ho => k _ _ _ μ3 (S3.step (.new ho) (S3.sto.new ho)) (((e1.trans e2).trans e3).trans (.new ho)) (rep_lst S3.sto ho (cut_reps h2 lo hi)) q3⟩
/-- xs[::-1], lists -/
def dRevL (φ : DE) : DE := fun Ψ δ μ Φ => φ Ψ δ μ fun x μ1 => ∃ ds, Items μ1 x ds ∧ isTup x = false ∧ Φ (.lst ds.reverse) μ1
abbrev DC := List D → Sto → DK → Prop
def RC (K : Fg) (r : List V → Hp → VK → Prop) (ρ : DC) : Prop := ∀ (H : Hp) (μ : Sto) (vs : List V) (ds : List D) (Φ : DK) (Q : VK), StoOk K μ H → Reps K μ H vs ds → ρ ds μ Φ →
  (∀ z H' c μ', Evo μ H μ' H' → StoOk K μ' H' → Rep K μ' H' z c → Φ c μ' → Q z H') → r vs H Q
def dCB (ρ : DC) (ψ : DA) : DE := fun Ψ δ μ Φ => ψ Ψ δ μ fun xs μ1 => ρ xs μ1 Φ
theorem sCB {B : Bx K} {r : List V → Hp → VK → Prop} {ρ : DC} {tas : TA} {ψ : DA} (h : RC K r ρ) (a : SA B tas ψ) : SE B (tCB r tas) (dCB ρ ψ) := fun σ H δ μ Φ Q S q k =>
  a σ H δ μ _ _ S q fun vs H1 xs μ1 S1 e1 r1 q1 => h H1 μ1 vs xs Φ Q S1.sto r1 q1 fun z H3 c μ3 e3 s3 r3 p => k z H3 c μ3 (S1.step e3 s3) (e1.trans e3) r3 p
theorem reps1 {μ : Sto} {H : Hp} {vs : List V} {d : D} (r : Reps K μ H vs [d]) : ∃ v, vs = [v] ∧ Rep K μ H v d := by
  cases vs with
  | nil => have := r.length; simp at this
  | cons v vs =>
    cases vs with
    | nil => exact ⟨v, rfl, r⟩
    | cons w vs => have := r.length; simp at this
theorem reps2 {μ : Sto} {H : Hp} {vs : List V} {d e : D} (r : Reps K μ H vs [d, e]) : ∃ v w, vs = [v, w] ∧ Rep K μ H v d ∧ Rep K μ H w e := by
  cases vs with
  | nil => have := r.length; simp at this
  | cons v vs =>
    obtain ⟨w, rfl, r2⟩ := reps1 r.split.2
    exact ⟨v, w, rfl, r.split.1, r2⟩
def cLen : DC := fun xs μ Φ => ∃ x ds, xs = [x] ∧ Items μ x ds ∧ Φ (.int ds.length) μ
theorem rcLen : RC K (fun xs H Q => ∃ p ys, xs = [.ref p] ∧ (SqL K H p ys ∨ SqT K H p ys) ∧ Q (.int ys.length) H) cLen := fun H μ vs ds Φ Q s r q k => by
  obtain ⟨x, es, rfl, hi, q⟩ := q
  obtain ⟨v, rfl, r⟩ := reps1 r
  obtain ⟨a, us, rfl, h1, h2⟩ := hi.ok s r
  refine ⟨a, us, rfl, h1, ?_⟩
  rw [h2.length]
  exact k _ H _ μ .refl s (.int _ .nil) q
/-- list(..) of a list or tuple -/
def cList : DC := fun xs μ Φ => ∃ x ds, xs = [x] ∧ Items μ x ds ∧ Φ (.lst ds) μ
theorem rcList : RC K (fun xs H Q => ∃ p ys, xs = [.ref p] ∧ (SqL K H p ys ∨ SqT K H p ys) ∧ ∀ l, H l = none → Q (.ref l) (upd H l (.lst ys))) cList := fun H μ vs ds Φ Q s r q k => by
  obtain ⟨x, es, rfl, hi, q⟩ := q
  obtain ⟨v, rfl, r⟩ := reps1 r
  obtain ⟨a, us, rfl, h1, h2⟩ := hi.ok s r
  exact ⟨a, us, rfl, h1, fun p hp => k _ _ _ μ (.new hp) (s.new hp) (rep_lst s hp h2) q⟩
/-- the same, a handle -/
def cListOwn : DC := fun xs μ Φ => ∃ x ds, xs = [x] ∧ Items μ x ds ∧ ∀ p, μ p = none → Φ (.hd (.ref p)) (sset μ p (.lst ds))
theorem rcListOwn : RC K (fun xs H Q => ∃ p ys, xs = [.ref p] ∧ (SqL K H p ys ∨ SqT K H p ys) ∧ ∀ l, H l = none → Q (.ref l) (upd H l (.lst ys))) cListOwn := fun H μ vs ds Φ Q s r q k => by
  obtain ⟨x, es, rfl, hi, q⟩ := q
  obtain ⟨v, rfl, r⟩ := reps1 r
  obtain ⟨a, us, rfl, h1, h2⟩ := hi.ok s r
  exact ⟨a, us, rfl, h1, fun p hp => k _ _ _ _ (.newC s hp) (sto_own s hp h2) (.hd _ .nil) (q p (s.fresh hp))⟩
def cTuple : DC := fun xs μ Φ => ∃ x ds, xs = [x] ∧ Items μ x ds ∧ Φ (.tup ds) μ
theorem rcTuple : RC K (fun xs H Q => ∃ p ys, xs = [.ref p] ∧ ((SqL K H p ys ∧ NewT H ys Q) ∨ (SqT K H p ys ∧ Q (.ref p) H))) cTuple := fun H μ vs ds Φ Q s r q k => by
  obtain ⟨x, es, rfl, hi, q⟩ := q
  obtain ⟨v, rfl, r⟩ := reps1 r
  cases hi with
  | tup => obtain ⟨a, us, rfl, h1, h2⟩ := Rep.tup_inv r; exact ⟨a, us, rfl, .inr ⟨h1.sq, k _ H _ μ .refl s r q⟩⟩
  | lst => obtain ⟨a, us, rfl, h1, h2⟩ := (Items.lst es).okL s r rfl; exact ⟨a, us, rfl, .inl ⟨h1, fun p o ho hc hp => k _ _ _ μ (.new hp) (s.new hp) (rep_tupN s hp ho hc h2) q⟩⟩
  | own h => obtain ⟨a, us, rfl, h1, h2⟩ := (Items.own h).okL s r rfl; exact ⟨a, us, rfl, .inl ⟨h1, fun p o ho hc hp => k _ _ _ μ (.new hp) (s.new hp) (rep_tupN s hp ho hc h2) q⟩⟩
  | frz h => obtain ⟨a, us, rfl, h1, h2⟩ := (Items.frz h).okL s r rfl; exact ⟨a, us, rfl, .inl ⟨h1, fun p o ho hc hp => k _ _ _ μ (.new hp) (s.new hp) (rep_tupN s hp ho hc h2) q⟩⟩
  | scr ns => obtain ⟨a, us, rfl, h1, h2⟩ := (Items.scr ns).okL s r rfl; exact ⟨a, us, rfl, .inl ⟨h1, fun p o ho hc hp => k _ _ _ μ (.new hp) (s.new hp) (rep_tupN s hp ho hc h2) q⟩⟩
def cInt : DC := fun xs μ Φ => ∃ i, xs = [.int i] ∧ Φ (.int i) μ ∨ ∃ b, xs = [.bl b] ∧ Φ (.int (if b then 1 else 0)) μ
theorem rcInt : RC K (fun xs H Q => (∃ i, xs = [.int i] ∧ Q (.int i) H) ∨ ∃ k, xs = [.bl k] ∧ Q (.int (if k then 1 else 0)) H) cInt := fun H μ vs ds Φ Q s r q k => by
  obtain ⟨i, q⟩ := q
  rcases q with ⟨rfl, q⟩ | ⟨b, rfl, q⟩
  · obtain ⟨v, rfl, r⟩ := reps1 r
    obtain rfl := Rep.int_inv r
    exact .inl ⟨i, rfl, k _ H _ μ .refl s r q⟩
  · obtain ⟨v, rfl, r⟩ := reps1 r
    obtain rfl := Rep.bl_inv r
    exact .inr ⟨b, rfl, k _ H _ μ .refl s (.int _ .nil) q⟩
theorem reps_bls {μ : Sto} {H : Hp} : ∀ {vs : List V} {bs : List Bool}, Reps K μ H vs (bs.map .bl) → vs = bs.map .bl
  | [], [], _ => rfl
  | [], _ :: _, r => by have := r.length; simp at this
  | _ :: _, [], r => by have := r.length; simp at this
  | v :: vs, b :: bs, r => by
    have e := Rep.bl_inv r.split.1
    have ih := reps_bls r.split.2
    rw [e, ih, List.map_cons]
theorem reps_intsV {μ : Sto} {H : Hp} : ∀ {vs : List V} {ns : List Int}, Reps K μ H vs (ns.map .int) → vs = ns.map .int
  | [], [], _ => rfl
  | [], _ :: _, r => by have := r.length; simp at this
  | _ :: _, [], r => by have := r.length; simp at this
  | v :: vs, b :: bs, r => by
    have e := Rep.int_inv r.split.1
    have ih := reps_intsV r.split.2
    rw [e, ih, List.map_cons]
def cAll : DC := fun xs μ Φ => ∃ bs : List Bool, xs = [.lst (bs.map .bl)] ∧ Φ (.bl (bs.all id)) μ
def cAny : DC := fun xs μ Φ => ∃ bs : List Bool, xs = [.lst (bs.map .bl)] ∧ Φ (.bl (bs.any id)) μ
theorem rcAll : RC K (rAll K) cAll := fun H μ vs ds Φ Q s r q k => by
  obtain ⟨bs, rfl, q⟩ := q
  obtain ⟨v, rfl, r⟩ := reps1 r
  obtain ⟨a, us, rfl, h1, h2⟩ := Rep.lst_inv r
  have e := reps_bls h2
  subst e
  exact ⟨a, bs, rfl, h1.sq, k _ H _ μ .refl s (.bl _ .nil) q⟩
theorem rcAny : RC K (rAny K) cAny := fun H μ vs ds Φ Q s r q k => by
  obtain ⟨bs, rfl, q⟩ := q
  obtain ⟨v, rfl, r⟩ := reps1 r
  obtain ⟨a, us, rfl, h1, h2⟩ := Rep.lst_inv r
  have e := reps_bls h2
  subst e
  exact ⟨a, bs, rfl, h1.sq, k _ H _ μ .refl s (.bl _ .nil) q⟩
def cMin2 : DC := fun xs μ Φ => ∃ i j, xs = [.int i, .int j] ∧ Φ (.int (if j < i then j else i)) μ
theorem rcMin2 : RC K (fun xs H Q => ∃ i j, xs = [.int i, .int j] ∧ Q (.int (if j < i then j else i)) H) cMin2 := fun H μ vs ds Φ Q s r q k => by
  obtain ⟨i, j, rfl, q⟩ := q
  obtain ⟨v, w, rfl, r1, r2⟩ := reps2 r
  obtain rfl := Rep.int_inv r1
  obtain rfl := Rep.int_inv r2
  exact ⟨i, j, rfl, k _ H _ μ .refl s (.int _ .nil) q⟩
def cDivmod : DC := fun xs μ Φ => ∃ i j, xs = [.int i, .int j] ∧ CDivP i j ∧ Φ (.pr [.int (i / j), .int (i % j)]) μ
def tyD : D → Option String
  | .non => some "NoneType"
  | .bl _ => some "bool"
  | .int _ => some "int"
  | .str _ => some "str"
  | .tup _ => some "tuple"
  | .lst _ => some "list"
  | _ => none
theorem tyD_ok {μ : Sto} {H : Hp} {v : V} {d : D} {n : String} (r : Rep K μ H v d) (h : tyD d = some n) : TyX K H v (.type n) := by
  cases d with
  | non => cases h; cases r; exact .base .non
  | bl b => cases h; cases r; exact .base (.bl b)
  | int i => cases h; cases r; exact .base (.int i)
  | str i => cases h; cases r; exact .base (.str i)
  | tup ds =>
    cases h
    obtain ⟨a, vs, rfl, h1, h2⟩ := Rep.tup_inv r
    rcases h1 with ⟨o, h1, _⟩ | ⟨o, its, n, h1, h3, _⟩
    · exact .fTuple h1
    · exact .kTuple h1 h3
  | lst ds =>
    cases h
    obtain ⟨a, vs, rfl, h1, h2⟩ := Rep.lst_inv r
    exact .base (.lst h1.1)
  | obj C ns ds => cases h
  | hd v => cases h
  | scr ns => cases h
  | pr ns => cases h
def instB : D → String → Option Bool
  | .non, "int" => some false | .non, "bool" => some false | .non, "str" => some false | .non, "tuple" => some false | .non, "list" => some false
  | .int _, "int" => some true | .int _, "bool" => some false | .int _, "str" => some false | .int _, "tuple" => some false | .int _, "list" => some false
  | .bl _, "int" => some true | .bl _, "bool" => some true | .bl _, "str" => some false | .bl _, "tuple" => some false | .bl _, "list" => some false
  | .str _, "int" => some false | .str _, "bool" => some false | .str _, "str" => some true | .str _, "tuple" => some false | .str _, "list" => some false
  | .tup _, "int" => some false | .tup _, "bool" => some false | .tup _, "str" => some false | .tup _, "tuple" => some true | .tup _, "list" => some false
  | .lst _, "int" => some false | .lst _, "bool" => some false | .lst _, "str" => some false | .lst _, "tuple" => some false | .lst _, "list" => some true
  | _, _ => none
theorem instB_ok {d : D} {T : String} {b : Bool} (h : instB d T = some b) : ∃ n, tyD d = some n ∧ kitB n T = some b := by
  unfold instB at h
  split at h <;> first | (cases h; done) | (cases h; exact ⟨_, rfl, by decide +kernel⟩)
def cIsi (T : String) : DC := fun xs μ Φ => ∃ x b, xs = [x, .hd (.ty T)] ∧ instB x T = some b ∧ Φ (.bl b) μ
theorem rcIsi {T : String} : RC K (rIsi K) (cIsi T) := fun H μ vs ds Φ Q s r q k => by
  obtain ⟨x, b, rfl, hi, q⟩ := q
  obtain ⟨n, hn, hk⟩ := instB_ok hi
  obtain ⟨v, w, rfl, r1, r2⟩ := reps2 r
  obtain rfl := Rep.hd_inv r2
  exact ⟨v, _, _, _, b, rfl, .ty T, tyD_ok r1 hn, kit_ty hk, k _ H _ μ .refl s (.bl _ .nil) q⟩
def dApp (φa φb : DE) : DE := fun Ψ δ μ Φ => φa Ψ δ μ fun x μ1 => ∃ a ds, x = .hd (.ref a) ∧ μ1 a = some (.lst ds) ∧ φb Ψ δ μ1 fun y μ2 => ∃ es, μ2 a = some (.lst es) ∧ es.length ≤ 100000 ∧ Φ .non (sset μ2 a (.lst (es ++ [y])))
theorem own_upd {μ : Sto} {H : Hp} {a : Addr} {ds es : List D} {us : List V} (s : StoOk K μ H) (h : μ a = some (.lst ds)) (r : Reps K (sset μ a (.lst es)) (upd H a (.lst us)) us es) : Evo μ H (sset μ a (.lst es)) (upd H a (.lst us)) ∧ StoOk K (sset μ a (.lst es)) (upd H a (.lst us)) := by
  have e : Evo μ H (sset μ a (.lst es)) (upd H a (.lst us)) := .cell h fun n => n.notL h
  exact ⟨e, s.cell e ⟨us, upd_same, r⟩⟩
theorem own_evo {μ : Sto} {H : Hp} {a : Addr} {ds es : List D} {us : List V} (h : μ a = some (.lst ds)) : Evo μ H (sset μ a (.lst es)) (upd H a (.lst us)) := .cell h fun n => n.notL h
theorem sApp {B : Bx K} {ta tb : TE} {φa φb : DE} (a : SE B ta φa) (b : SE B tb φb) : SE B (tBM K "list" rAppend ta (tCons tb tNil)) (dApp φa φb) := fun σ H δ μ Φ Q S q k =>
  a σ H δ μ _ _ S q fun v H1 x μ1 S1 e1 r1 q1 => by
    obtain ⟨p, ds, rfl, hp, q1⟩ := q1
    obtain rfl := Rep.hd_inv r1
    obtain ⟨us, h1, h2⟩ := S1.sto _ _ hp
    refine ⟨.inl ⟨rfl, us, .of h1⟩, b σ H1 δ μ1 _ _ S1 q1 fun w H2 y μ2 S2 e2 r2 q2 => ?_⟩
    obtain ⟨es, hp2, hz, q2⟩ := q2
    obtain ⟨ws, h3, h4⟩ := S2.sto _ _ hp2
    refine ⟨p, ws, w, rfl, rfl, h3, Nat.lt_of_le_of_lt (by rw [h4.length]; exact hz) (by decide), ?_⟩
    have e3 : Evo μ2 H2 (sset μ2 p (.lst (es ++ [y]))) (upd H2 p (.lst (ws ++ [w]))) := own_evo hp2
    obtain ⟨e4, s4⟩ := own_upd S2.sto hp2 ((h4.append r2).mono e3)
    exact k _ _ _ _ (S2.step e4 s4) ((e1.trans e2).trans e4) (.non .nil) q2
/-- o[i] = e, o a handle of a list -/
def eSub (φo φi : DE) : XP → D → DEnv → Sto → (DEnv → Sto → Prop) → Prop := fun Ψ d δ μ Φ => φo Ψ δ μ fun x μ1 => φi Ψ δ μ1 fun y μ2 => ∃ a ds i j, x = .hd (.ref a) ∧ y = .int i ∧ μ2 a = some (.lst ds) ∧ ixN ds.length i = some j ∧ Φ δ (sset μ2 a (.lst (ds.set j d)))
theorem sSub {B : Bx K} {ta tb : TE} {φa φb : DE} (a : SE B ta φa) (b : SE B tb φb) : SG B (gSub ta tb rSetL) (eSub φa φb B.Ψ) := fun v d σ H δ μ Φ Q S r q k =>
  a σ H δ μ _ _ S q fun o H1 x μ1 S1 e1 r1 q1 => b σ H1 δ μ1 _ _ S1 q1 fun i H2 y μ2 S2 e2 r2 q2 => by
    obtain ⟨p, ds, i, j, rfl, rfl, hp, hj, q2⟩ := q2
    obtain rfl := Rep.hd_inv r1
    obtain rfl := Rep.int_inv r2
    obtain ⟨us, h1, h2⟩ := S2.sto _ _ hp
    refine ⟨p, us, i, j, rfl, rfl, h1, by rw [h2.length]; exact hj, ?_⟩
    have e3 : Evo μ2 H2 (sset μ2 p (.lst (ds.set j d))) (upd H2 p (.lst (us.set j v))) := own_evo hp
    obtain ⟨e4, s4⟩ := own_upd S2.sto hp ((h2.set ((r.mono e1).mono e2) j).mono e3)
    exact k σ _ δ _ (S2.step e4 s4) ((e1.trans e2).trans e4) q2
def dAsgS (φ φo φi : DE) : DSt := fun Ψ Δ δ μ => φ Ψ δ μ fun x μ1 => eSub φo φi Ψ x δ μ1 Δ.nx
theorem sAsgS {B : Bx K} {te ta tb : TE} {φ φa φb : DE} (e : SE B te φ) (a : SE B ta φa) (b : SE B tb φb) : SS B (tAsg te (gSub ta tb rSetL)) (dAsgS φ φa φb) := fun D Δ σ H δ μ E S q =>
  e σ H δ μ _ _ S q fun v H1 x μ1 S1 e1 r1 q1 => sSub a b v x σ H1 δ μ1 _ _ S1 r1 q1 fun σ2 H2 δ2 μ2 S2 e2 q2 => E.nx σ2 H2 δ2 μ2 S2 q2
end
end DW
set_option Elab.async false
set_option linter.all false
set_option maxRecDepth 100000
namespace DW
open PySem PySem.Spec L2
section
variable {K : Fg} {B : Bx K}
abbrev DI := XP → DEnv → Sto → (List D → Sto → Prop) → Prop
/-- the iterator hands out the items, as long as what stood still stands -/
def IterOk (K : Fg) (μ1 : Sto) (H1 : Hp) (J : It) (xs : List D) : Prop := ∀ (i : Nat) (H : Hp) (μ : Sto), StoOk K μ H → Evo μ1 H1 μ H →
  (i < xs.length → J.go i H ∧ ∀ x H', J.yld i H x H' → ∃ d, xs[i]? = some d ∧ StoOk K μ H' ∧ Evo μ H μ H' ∧ Rep K μ H' x d) ∧ (xs.length ≤ i → J.stop i H)
def SI (B : Bx K) (wi : TI) (ι : DI) : Prop := ∀ (σ : L2.St) (H : Hp) (δ : DEnv) (μ : Sto) (Φ : List D → Sto → Prop) (R : It → Hp → Prop), B.S σ H δ μ → ι B.Ψ δ μ Φ →
  (∀ xs J H' μ', B.S σ H' δ μ' → Evo μ H μ' H' → IterOk K μ' H' J xs → Φ xs μ' → R J H') → wi σ H R
def iSeqT (φ : DE) : DI := fun Ψ δ μ Φ => φ Ψ δ μ fun x μ1 => ∃ ds, x = .tup ds ∧ Φ ds μ1
def iSeqL (φ : DE) : DI := fun Ψ δ μ Φ => φ Ψ δ μ fun x μ1 => ∃ ds, x = .lst ds ∧ Φ ds μ1
theorem siT {te : TE} {φ : DE} (a : SE B te φ) : SI B (iTup K te) (iSeqT φ) := fun σ H δ μ Φ R S q k =>
  a σ H δ μ _ _ S q fun v H1 x μ1 S1 e1 r1 q1 => by
    obtain ⟨ds, rfl, q2⟩ := q1
    obtain ⟨p, vs, rfl, h1, h2⟩ := Rep.tup_inv r1
    refine ⟨p, rfl, ⟨vs, h1.sq⟩, k ds _ H1 μ1 S1 e1 (fun i H2 μ2 s2 e2 => ⟨fun hi => ?_, fun hi => ⟨vs, (h1.mono e2).sq, by rw [h2.length]; exact hi⟩⟩) q2⟩
    have hv : i < vs.length := by rw [h2.length]; exact hi
    refine ⟨⟨vs, vs[i], (h1.mono e2).sq, List.getElem?_eq_getElem hv⟩, fun x H' ⟨eH, hy⟩ => ?_⟩
    subst eH
    obtain ⟨d, hd, rd⟩ := (h2.mono e2).getV (hy vs (h1.mono e2).sq)
    exact ⟨d, hd, s2, .refl, rd⟩
theorem siL {te : TE} {φ : DE} (a : SE B te φ) : SI B (iList K te) (iSeqL φ) := fun σ H δ μ Φ R S q k =>
  a σ H δ μ _ _ S q fun v H1 x μ1 S1 e1 r1 q1 => by
    obtain ⟨ds, rfl, q2⟩ := q1
    obtain ⟨p, vs, rfl, h1, h2⟩ := Rep.lst_inv r1
    refine ⟨p, rfl, ⟨vs, h1.sq⟩, k ds _ H1 μ1 S1 e1 (fun i H2 μ2 s2 e2 => ⟨fun hi => ?_, fun hi => ⟨vs, (h1.mono e2).sq, by rw [h2.length]; exact hi⟩⟩) q2⟩
    have hv : i < vs.length := by rw [h2.length]; exact hi
    refine ⟨⟨vs, vs[i], (h1.mono e2).sq, List.getElem?_eq_getElem hv⟩, fun x H' ⟨eH, hy⟩ => ?_⟩
    subst eH
    obtain ⟨d, hd, rd⟩ := (h2.mono e2).getV (hy vs (h1.mono e2).sq)
    exact ⟨d, hd, s2, .refl, rd⟩
def rngD (lo : Int) (n : Nat) : List D := (List.range n).map fun (i : Nat) => .int (lo + (i : Int))
theorem rngD_len {lo : Int} {n : Nat} : (rngD lo n).length = n := by unfold rngD; rw [List.length_map, List.length_range]
theorem rngD_at {lo : Int} {n i : Nat} (h : i < n) : (rngD lo n)[i]? = some (.int (lo + (i : Int))) := by
  unfold rngD
  rw [List.getElem?_map, List.getElem?_range h]
  rfl
theorem iter_rng {μ : Sto} {H : Hp} {lo : Int} {n : Nat} : IterOk K μ H (Itr lo n) (rngD lo n) := fun i H2 μ2 s2 e2 => by
  rw [rngD_len]
  refine ⟨fun hi => ⟨hi, fun x H' ⟨eH, hy⟩ => ?_⟩, fun hi => hi⟩
  subst eH hy
  exact ⟨_, rngD_at hi, s2, .refl, .int _ .nil⟩
def iR1 (φ : DE) : DI := fun Ψ δ μ Φ => φ Ψ δ μ fun x μ1 => ∃ j, x = .int j ∧ j < 4611686018427387904 ∧ -4611686018427387904 ≤ j ∧ Φ (rngD 0 j.toNat) μ1
theorem siR1 {te : TE} {φ : DE} (a : SE B te φ) : SI B (iRng1 (tCons te tNil)) (iR1 φ) := fun σ H δ μ Φ R S q k =>
  a σ H δ μ _ _ S q fun v H1 x μ1 S1 e1 r1 q1 => by
    obtain ⟨j, rfl, h1, h2, q2⟩ := q1
    obtain rfl := Rep.int_inv r1
    exact ⟨j, rfl, by omega, by omega, k _ _ H1 μ1 S1 e1 iter_rng q2⟩
def iR2 (φ φ' : DE) : DI := fun Ψ δ μ Φ => φ Ψ δ μ fun x μ1 => φ' Ψ δ μ1 fun y μ2 => ∃ i j, x = .int i ∧ y = .int j ∧ (-4611686018427387904 ≤ i ∧ i < 4611686018427387904 ∧ -4611686018427387904 ≤ j ∧ j < 4611686018427387904) ∧ Φ (rngD i (j - i).toNat) μ2
/-- zip of two tuples -/
def iZipT (φ φ' : DE) : DI := fun Ψ δ μ Φ => φ Ψ δ μ fun x μ1 => φ' Ψ δ μ1 fun y μ2 => ∃ xs ys, x = .tup xs ∧ y = .tup ys ∧ Φ ((xs.zip ys).map fun p => .pr [p.1, p.2]) μ2
theorem siZipT {te tf : TE} {φ φ' : DE} (a : SE B te φ) (b : SE B tf φ') : SI B (RZ.iZipA K (tCons te (tCons tf tNil))) (iZipT φ φ') := fun σ H δ μ Φ R S q k =>
  a σ H δ μ _ _ S q fun v H1 x μ1 S1 e1 r1 q1 => b σ H1 δ μ1 _ _ S1 q1 fun w H2 y μ2 S2 e2 r2 q2 => by
    obtain ⟨xs, ys, rfl, rfl, q2⟩ := q2
    obtain ⟨p, vs, rfl, h1, h2⟩ := Rep.tup_inv (r1.mono e2)
    obtain ⟨p', us, rfl, h3, h4⟩ := Rep.tup_inv r2
    refine ⟨p, p', vs, us, rfl, .inr ⟨h1.sq, h3.sq, k _ _ H2 μ2 S2 (e1.trans e2) (fun i H3 μ3 s3 e3 => ?_) q2⟩⟩
    rw [List.length_map, List.length_zip]
    have l1 := h2.length
    have l2 := h4.length
    refine ⟨fun hi => ?_, fun hi => ⟨vs, us, (h1.mono e3).sq, (h3.mono e3).sq, by omega⟩⟩
    have hv : i < vs.length := by omega
    have hu : i < us.length := by omega
    refine ⟨⟨vs, us, vs[i], us[i], (h1.mono e3).sq, (h3.mono e3).sq, List.getElem?_eq_getElem hv, List.getElem?_eq_getElem hu⟩, fun z H' ⟨T, v1, v2, ez, hT, eH, hy1, hy2⟩ => ?_⟩
    subst ez eH
    obtain ⟨d1, hd1, rd1⟩ := (h2.mono e3).getV (hy1 vs (h1.mono e3).sq)
    obtain ⟨d2, hd2, rd2⟩ := (h4.mono e3).getV (hy2 us (h3.mono e3).sq)
    refine ⟨.pr [d1, d2], ?_, s3.new hT, .new hT, rep_tup s3 hT (.cons rd1 (.cons rd2 .nil))⟩
    rw [List.getElem?_map, (List.getElem?_zip_eq_some (z := (d1, d2))).mpr ⟨hd1, hd2⟩]
    rfl
/-- a text, sign by sign -/
def iText (φ : DE) : DI := fun Ψ δ μ Φ => φ Ψ δ μ fun x μ1 => ∃ s, x = .str s ∧ Φ (s.cps.toList.map fun c => .str ⟨#[c]⟩) μ1
/-- a loop -/
def dFor (ι : DI) (γ : DG) (ω : DSt) : DSt := fun Ψ Δ δ μ => ι Ψ δ μ fun xs μ1 => ∃ W : Nat → DEnv → Sto → Prop, W 0 δ μ1 ∧
  (∀ i d δ' μ', xs[i]? = some d → W i δ' μ' → γ d δ' μ' fun δ2 μ2 => ω Ψ { Δ with nx := W (i + 1), ct := W (i + 1), bk := Δ.nx } δ2 μ2) ∧ ∀ δ' μ', W xs.length δ' μ' → Δ.nx δ' μ'
theorem sFor {wi : TI} {g : TG} {tb : TS} {ι : DI} {γ : DG} {ω : DSt} (a : SI B wi ι) (b : ∀ H1 μ1 e, SG (B.re H1 μ1 e) g γ) (c : ∀ H1 μ1 e, SS (B.re H1 μ1 e) tb ω) : SS B (tFor wi g tb) (dFor ι γ ω) := fun D Δ σ H δ μ E S q =>
  a σ H δ μ _ _ S q fun xs J H1 μ1 S1 e1 it q1 => by
    obtain ⟨W, w0, ws, wd⟩ := q1
    refine ⟨fun i m σ' H' => m = xs.length - i ∧ i ≤ xs.length ∧ ∃ δ' μ', (B.re H1 μ1 S1.evo).S σ' H' δ' μ' ∧ W i δ' μ', ⟨xs.length, by simp, Nat.zero_le _, δ, μ1, ⟨.refl, S1.sto, S1.env⟩, w0⟩, ?_⟩
    rintro i m σ' H' ⟨rfl, hi, δ', μ', S', w⟩
    by_cases hlt : i < xs.length
    · obtain ⟨hgo, hy⟩ := (it i H' μ' S'.sto S'.evo).1 hlt
      refine .inr ⟨hgo, fun σ2 H2 => ∃ δ2 μ2, (B.re H1 μ1 S1.evo).S σ2 H2 δ2 μ2 ∧ W (i + 1) δ2 μ2, fun σ2 H2 ⟨δ2, μ2, S2, w2⟩ => ⟨xs.length - (i + 1), by omega, rfl, by omega, δ2, μ2, S2, w2⟩, fun x H2 y => ?_⟩
      obtain ⟨d, hd, s2, e2, r2⟩ := hy x H2 y
      refine b H1 μ1 S1.evo x d σ' H2 δ' μ' _ _ (S'.step e2 s2) r2 (ws i d δ' μ' hd w) fun σ3 H3 δ3 μ3 S3 e3 q3 => ?_
      exact c H1 μ1 S1.evo _ { Δ with nx := W (i + 1), ct := W (i + 1), bk := Δ.nx } σ3 H3 δ3 μ3 ⟨fun σ4 H4 δ4 μ4 S4 q4 => ⟨δ4, μ4, S4, q4⟩, fun v4 H4 d4 μ4 σ4 δ4 S4 r4 q4 => E.rt v4 H4 d4 μ4 σ4 δ4 ⟨S1.evo.trans S4.evo, S4.sto, S4.env⟩ r4 q4, fun σ4 H4 δ4 μ4 S4 q4 => E.nx σ4 H4 δ4 μ4 ⟨S1.evo.trans S4.evo, S4.sto, S4.env⟩ q4, fun σ4 H4 δ4 μ4 S4 q4 => ⟨δ4, μ4, S4, q4⟩⟩ S3 q3
    · have e : i = xs.length := by omega
      subst e
      exact .inl ⟨(it _ H' μ' S'.sto S'.evo).2 (Nat.le_refl _), E.nx σ' H' δ' μ' ⟨S1.evo.trans S'.evo, S'.sto, S'.env⟩ (wd δ' μ' w)⟩
def dwipe (δ : DEnv) : List Nat → DEnv
  | [] => δ
  | v :: vs => (dwipe δ vs).set v none
theorem EnvOk.unset {μ : Sto} {H : Hp} {σ : L2.St} {δ : DEnv} (h : EnvOk K μ H σ δ) (j : Nat) : EnvOk K μ H (σ.set j none) (δ.set j none) := ⟨by rw [List.length_set, List.length_set]; exact h.len, fun i x q => by
  rw [List.getElem?_set] at q
  by_cases hj : j = i
  · rw [if_pos hj] at q
    split at q <;> cases q
  · rw [if_neg hj] at q
    obtain ⟨v, e, r⟩ := h.at_ i x q
    exact ⟨v, by rw [List.getElem?_set, if_neg hj]; exact e, r⟩⟩
theorem EnvOk.wipe {μ : Sto} {H : Hp} {σ : L2.St} {δ : DEnv} (h : EnvOk K μ H σ δ) : ∀ vs, EnvOk K μ H (L2.wipe σ vs) (dwipe δ vs)
  | [] => h
  | v :: vs => (EnvOk.wipe h vs).unset v
theorem wipe_get (σ : L2.St) : ∀ (vs : List Nat) (i : Nat), (L2.wipe σ vs)[i]? = if i ∈ vs ∧ i < σ.length then some none else σ[i]?
  | [], i => by simp [L2.wipe]
  | v :: vs, i => by
    have ih := wipe_get σ vs i
    show ((L2.wipe σ vs).set v none)[i]? = _
    rw [List.getElem?_set, L2.wipe_length, ih]
    by_cases h : v = i
    · subst h
      rw [if_pos rfl]
      by_cases hl : v < σ.length
      · rw [if_pos hl, if_pos ⟨List.mem_cons_self, hl⟩]
      · rw [if_neg hl, if_neg fun z => hl z.2, List.getElem?_eq_none (by omega)]
    · rw [if_neg h]
      have : (i ∈ v :: vs ∧ i < σ.length) ↔ (i ∈ vs ∧ i < σ.length) := by
        constructor
        · rintro ⟨a, b⟩
          rcases List.mem_cons.mp a with e | e
          · exact absurd e.symm h
          · exact ⟨e, b⟩
        · rintro ⟨a, b⟩
          exact ⟨List.mem_cons_of_mem _ a, b⟩
      simp only [this]
theorem wipe_set {σ : L2.St} {vs : List Nat} {j : Nat} {x : Option V} (h : j ∈ vs) : L2.wipe (σ.set j x) vs = L2.wipe σ vs := by
  apply List.ext_getElem?
  intro i
  rw [wipe_get, wipe_get, List.length_set, List.getElem?_set]
  by_cases hi : i ∈ vs ∧ i < σ.length
  · rw [if_pos hi, if_pos hi]
  · rw [if_neg hi, if_neg hi]
    by_cases e : j = i
    · subst e
      rw [if_pos rfl, if_neg (fun z => hi ⟨h, z⟩), List.getElem?_eq_none (Nat.le_of_not_lt fun z => hi ⟨h, z⟩)]
    · rw [if_neg e]
theorem wipe_wipe {σ : L2.St} {vs : List Nat} : L2.wipe (L2.wipe σ vs) vs = L2.wipe σ vs := by
  apply List.ext_getElem?
  intro i
  rw [wipe_get, L2.wipe_length, wipe_get]
  split <;> rfl
/-- a target stores nothing but own names -/
def GW (vs : List Nat) (g : TG) : Prop := ∀ (v : V) (σ W : L2.St) (H : Hp) (Q : L2.St → Hp → Prop), L2.wipe σ vs = W → g v σ H Q → g v σ H fun σ2 H2 => L2.wipe σ2 vs = W ∧ Q σ2 H2
def GWs (vs : List Nat) (g : TGs) : Prop := ∀ (v : List V) (σ W : L2.St) (H : Hp) (Q : L2.St → Hp → Prop), L2.wipe σ vs = W → g v σ H Q → g v σ H fun σ2 H2 => L2.wipe σ2 vs = W ∧ Q σ2 H2
theorem gwName {vs : List Nat} {j : Nat} (h : j ∈ vs) : GW vs (gName j) := fun v σ W H Q e q => ⟨by rw [wipe_set h]; exact e, q⟩
theorem gwNil {vs : List Nat} : GWs vs gNil := fun v σ W H Q e q => ⟨q.1, e, q.2⟩
theorem gwCons {vs : List Nat} {g : TG} {gs : TGs} (mono : ∀ v σ H (Q Q' : L2.St → Hp → Prop), (∀ a b, Q a b → Q' a b) → g v σ H Q → g v σ H Q') (a : GW vs g) (b : GWs vs gs) : GWs vs (gCons g gs) := fun v σ W H Q e q => by
  obtain ⟨x, r, rfl, q⟩ := q
  exact ⟨x, r, rfl, mono _ _ _ _ _ (fun σ2 H2 ⟨e2, q2⟩ => b r σ2 W H2 Q e2 q2) (a x σ W H _ e q)⟩
theorem gwConsN {vs : List Nat} {j : Nat} {gs : TGs} (h : j ∈ vs) (b : GWs vs gs) : GWs vs (gCons (gName j) gs) := gwCons (fun _ _ _ _ _ f q => f _ _ q) (gwName h) b
theorem gwTup {vs : List Nat} {n : Nat} {gs : TGs} (b : GWs vs gs) : GW vs (gTup K n gs) := fun v σ W H Q e q => by
  obtain ⟨a, xs, rfl, h1, h2, q⟩ := q
  exact ⟨a, xs, rfl, h1, h2, b xs σ W H Q e q⟩
def dLc (ι : DI) (γ : DG) (θ : DT) (φ : DE) (vs : List Nat) : DE := fun Ψ δ μ Φ => ι Ψ δ μ fun xs μ1 => ∀ p, μ1 p = none → ∃ W : Nat → Sto → Prop, W 0 (sset μ1 p (.lst [])) ∧
  (∀ i d μ2, xs[i]? = some d → W i μ2 → γ d (dwipe δ vs) μ2 fun δ3 μ3 => θ Ψ δ3 μ3 fun b μ4 =>
    (b = true → φ Ψ δ3 μ4 fun y μ5 => ∃ acc, μ5 p = some (.lst acc) ∧ acc.length ≤ 100000 ∧ W (i + 1) (sset μ5 p (.lst (acc ++ [y])))) ∧ (b = false → W (i + 1) μ4)) ∧
  ∀ μ2, W xs.length μ2 → ∃ acc, μ2 p = some (.lst acc) ∧ Φ (.lst acc) (sdel μ2 p)
theorem sLc {wi : TI} {g : TG} {tt : TT} {te : TE} {vs : List Nat} {ι : DI} {γ : DG} {θ : DT} {φ : DE} (a : SI B wi ι) (w : GW vs g) (b : ∀ H1 μ1 e, SG (B.re H1 μ1 e) g γ) (c : ∀ H1 μ1 e, ST (B.re H1 μ1 e) tt θ) (d : ∀ H1 μ1 e, SE (B.re H1 μ1 e) te φ) :
    SE B (tLc wi g tt te vs) (dLc ι γ θ φ vs) := fun σ H δ μ Φ Q S q k =>
  a σ H δ μ _ _ S q fun xs J H1 μ1 S1 e1 it q1 => fun p hp => by
    have hμp : μ1 p = none := S1.sto.fresh hp
    obtain ⟨W, w0, ws, wd⟩ := q1 p hμp
    refine ⟨fun i m H' => m = xs.length - i ∧ i ≤ xs.length ∧ ∃ μ', Evo μ1 H1 μ' H' ∧ StoOk K μ' H' ∧ W i μ', ⟨xs.length, by simp, Nat.zero_le _, _, .newC S1.sto hp, sto_own S1.sto hp .nil, w0⟩, ?_⟩
    rintro i m H' ⟨rfl, hi, μ', e', s', wi'⟩
    by_cases hlt : i < xs.length
    · obtain ⟨hgo, hy⟩ := (it i H' μ' s' e').1 hlt
      refine .inr ⟨hgo, fun H2 => ∃ μ2, Evo μ1 H1 μ2 H2 ∧ StoOk K μ2 H2 ∧ W (i + 1) μ2, fun H2 ⟨μ2, e2, s2, w2⟩ => ⟨xs.length - (i + 1), by omega, rfl, by omega, μ2, e2, s2, w2⟩, fun x H2 y => ?_⟩
      obtain ⟨dd, hd, s2, e2, r2⟩ := hy x H2 y
      have S2 : (B.re H1 μ1 S1.evo).S (L2.wipe σ vs) H2 (dwipe δ vs) μ' := ⟨e'.trans e2, s2, ((S1.env.mono e').mono e2).wipe vs⟩
      refine w x (L2.wipe σ vs) (L2.wipe σ vs) H2 _ wipe_wipe ?_
      refine b H1 μ1 S1.evo x dd (L2.wipe σ vs) H2 (dwipe δ vs) μ' _ _ S2 r2 (ws i dd μ' hd wi') fun σ3 H3 δ3 μ3 S3 e3 q3 => ?_
      refine c H1 μ1 S1.evo σ3 H3 δ3 μ3 _ _ S3 q3 fun b4 H4 μ4 S4 e4 q4 => ?_
      cases b4 with
      | true =>
        rw [if_pos rfl]
        refine d H1 μ1 S1.evo σ3 H4 δ3 μ4 _ _ S4 (q4.1 rfl) fun v5 H5 y5 μ5 S5 e5 r5 q5 => ?_
        obtain ⟨acc, hacc, hz, w5⟩ := q5
        obtain ⟨us, h5, hr5⟩ := S5.sto _ _ hacc
        have e6 : Evo μ5 H5 (sset μ5 p (.lst (acc ++ [y5]))) (upd H5 p (.lst (us ++ [v5]))) := own_evo hacc
        obtain ⟨e7, s7⟩ := own_upd S5.sto hacc ((hr5.append r5).mono e6)
        exact ⟨us, h5, Nat.lt_of_le_of_lt (by rw [hr5.length]; exact hz) (by decide), _, S5.evo.trans e7, s7, w5⟩
      | false =>
        rw [if_neg Bool.false_ne_true]
        exact ⟨μ4, S4.evo, S4.sto, q4.2 rfl⟩
    · have e : i = xs.length := by omega
      subst e
      obtain ⟨acc, hacc, q2⟩ := wd μ' wi'
      obtain ⟨us, h5, hr5⟩ := s' _ _ hacc
      refine .inl ⟨(it _ H' μ' s' e').2 (Nat.le_refl _), ?_⟩
      have e8 : Evo μ1 H1 (sdel μ' p) H' := e'.trans sdel_sub.evo
      exact k (.ref p) H' (.lst acc) (sdel μ' p) (S1.step e8 (sdel_sub.sto s')) (e1.trans e8) (.lst ⟨h5, .of sdel_same⟩ (hr5.mono sdel_sub.evo) .nil) q2
def dYes : DT := fun _ _ μ Φ => Φ true μ
theorem sYes : ST B tYes dYes := fun σ H δ μ Φ Q S q k => k true H μ S .refl q
abbrev Con := List D → Sto → DK → (XD → Sto → Prop) → Prop
def spOf (K : Fg) (c : Con) : Sp := fun vs H Q E => ∃ μ ds Φ Ψ, StoOk K μ H ∧ Reps K μ H vs ds ∧ c ds μ Φ Ψ ∧
  (∀ v H' d μ', Evo μ H μ' H' → StoOk K μ' H' → Rep K μ' H' v d → Φ d μ' → Q v H') ∧
  ∀ cls dd H' x μ', Evo μ H μ' H' → StoOk K μ' H' → RepX K μ' H' cls dd x → Ψ x μ' → E cls dd H'
/-- a call that raises nothing -/
def dCall (c : Con) (ψ : DA) : DE := fun Ψ δ μ Φ => ψ Ψ δ μ fun xs μ1 => c xs μ1 Φ fun _ _ => False
theorem sCall {c : Con} {tas : TA} {ψ : DA} (a : SA B tas ψ) : SE B (tCall (spOf K c) [] E0 tas) (dCall c ψ) := fun σ H δ μ Φ Q S q k =>
  a σ H δ μ _ _ S q fun vs H1 xs μ1 S1 e1 r1 q1 => by
    rw [List.append_nil]
    exact ⟨μ1, xs, Φ, fun _ _ => False, S1.sto, r1, q1, fun v H2 d μ2 e2 s2 r2 q2 => k v H2 d μ2 (S1.step e2 s2) (e1.trans e2) r2 q2, fun _ _ _ _ _ _ _ _ z => z⟩
/-- a call that may raise -/
def dCallS (c : Con) (ψ : DA) : DE := fun Ψ δ μ Φ => ψ Ψ δ μ fun xs μ1 => c xs μ1 Φ fun x μ2 => Ψ x δ μ2
theorem sCallS {c : Con} {tas : TA} {ψ : DA} (a : SA B tas ψ) : SE B (tCallS (spOf K c) (WE B.W) tas) (dCallS c ψ) := fun σ H δ μ Φ Q S q k =>
  a σ H δ μ _ _ S q fun vs H1 xs μ1 S1 e1 r1 q1 =>
    ⟨μ1, xs, Φ, fun x μ2 => B.Ψ x δ μ2, S1.sto, r1, q1, fun v H2 d μ2 e2 s2 r2 q2 => k v H2 d μ2 (S1.step e2 s2) (e1.trans e2) r2 q2, fun cls dd H2 x μ2 e2 s2 r2 q2 => B.hW cls dd σ H2 x δ μ2 (S1.step e2 s2) r2 q2⟩
/-- raise C('..'), a class without own fields -/
def dRaise0 (C : Addr) : DSt := fun Ψ _ δ μ => Ψ (.mk C none) δ μ
theorem sRaise0 {C : Addr} : SS B (fun _ σ H => (fun (_ : L2.St) (H : Hp) (Q : XK) => Q (.ref C) none H) σ H fun cls d H' => B.W cls d σ H') (dRaise0 C) := fun D Δ σ H δ μ E S q => B.hW _ _ σ H (.mk C none) δ μ S ⟨rfl, rfl⟩ q
def dstart (N : List Str) (ds : List D) : DEnv := ds.map some ++ List.replicate (N.length - ds.length) none
theorem env_start {μ : Sto} {H : Hp} {N : List Str} {vs : List V} {ds : List D} (r : Reps K μ H vs ds) : EnvOk K μ H (L2.start N vs) (dstart N ds) := by
  have hl := r.length
  refine ⟨by unfold L2.start dstart; simp [hl], fun i d q => ?_⟩
  unfold dstart at q
  unfold L2.start
  by_cases h : i < ds.length
  · rw [List.getElem?_append_left (by simpa using h), List.getElem?_map] at q
    cases e : ds[i]? with
    | none => rw [e] at q; cases q
    | some y =>
      rw [e] at q
      cases q
      obtain ⟨v, ev, rv⟩ := r.get e
      exact ⟨v, by rw [List.getElem?_append_left (by simpa [hl] using h), List.getElem?_map, ev]; rfl, rv⟩
  · rw [List.getElem?_append_right (by simpa using h), List.getElem?_replicate] at q
    split at q <;> cases q
/-- what a def's body must bring about -/
abbrev goalE (Φ : DK) : DEnds := ⟨fun _ μ' => ∃ μ2, Sub μ2 μ' ∧ Φ .non μ2, fun d μ' => ∃ μ2, Sub μ2 μ' ∧ Φ d μ2, fun _ _ => False, fun _ _ => False⟩
abbrev goalX (Ψ : XD → Sto → Prop) : XP := fun x _ μ' => ∃ μ2, Sub μ2 μ' ∧ Ψ x μ2
theorem RepX.mono {μ μ' : Sto} {H H' : Hp} {cls : Value} {dd : Option Addr} {x : XD} (e : Evo μ H μ' H') (h : RepX K μ H cls dd x) : RepX K μ' H' cls dd x := by
  obtain ⟨C, fs⟩ := x
  cases fs with
  | none => exact h
  | some f =>
    obtain ⟨ns, ds⟩ := f
    obtain ⟨h1, d, us, h2, h3, h4, h5, h6⟩ := h
    exact ⟨h1, d, us, h2, (e.st _ _ h3 h4).1, (e.st _ _ h3 h4).2, h5, h6.mono e⟩
end
end DW
set_option Elab.async false
set_option linter.all false
set_option maxRecDepth 100000
namespace DW
open PySem PySem.Spec L2
section
variable {α : Type} {μ μ' : Sto} {Φ : DK} {i j : Int} {x y : D} {xs ys ds : List D} {δ : DEnv} {Ψ : XP} {Δ : DEnds} {b : Bool} {s t : Str}
theorem ex_some {a : α} {P : α → Prop} : (∃ d, some (some a) = some (some d) ∧ P d) = P a := propext ⟨fun ⟨d, e, p⟩ => by cases e; exact p, fun p => ⟨a, rfl, p⟩⟩
theorem w_I0 {g : Int → Int → D} : oI0 g (.int i) (.int j) μ Φ = Φ (g i j) μ := propext ⟨fun ⟨a, b, e1, e2, q⟩ => by cases e1; cases e2; exact q, fun q => ⟨i, j, rfl, rfl, q⟩⟩
theorem w_I {C : Int → Int → Prop} {g : Int → Int → D} : oI C g (.int i) (.int j) μ Φ = (C i j ∧ Φ (g i j) μ) := propext ⟨fun ⟨a, b, e1, e2, q⟩ => by cases e1; cases e2; exact q, fun q => ⟨i, j, rfl, rfl, q⟩⟩
theorem w_uI {g : Int → Int} : uI g (.int i) μ Φ = Φ (.int (g i)) μ := propext ⟨fun ⟨a, e1, q⟩ => by cases e1; exact q, fun q => ⟨i, rfl, q⟩⟩
theorem w_int : cInt [.int i] μ Φ = Φ (.int i) μ := propext (Iff.intro (by
  rintro ⟨a, q⟩
  rcases q with ⟨e, q⟩ | ⟨_, e, q⟩
  · cases e; exact q
  · cases e) (fun q => ⟨i, .inl ⟨rfl, q⟩⟩))
theorem w_bl {P : Bool → Prop} : (∃ c, D.bl b = .bl c ∧ P c) = P b := propext ⟨fun ⟨c, e, q⟩ => by cases e; exact q, fun q => ⟨b, rfl, q⟩⟩
theorem w_isi {T : String} : cIsi T [x, .hd (.ty T)] μ Φ = ∃ b, instB x T = some b ∧ Φ (.bl b) μ := propext ⟨fun ⟨y, b, e, q⟩ => by cases e; exact ⟨b, q⟩, fun ⟨b, q⟩ => ⟨x, b, rfl, q⟩⟩
theorem w_someb {P : Bool → Prop} : (∃ c, some b = some c ∧ P c) = P b := propext ⟨fun ⟨c, e, q⟩ => by cases e; exact q, fun q => ⟨b, rfl, q⟩⟩
theorem w_eqI : oEq (.int i) (.int j) μ Φ = Φ (.bl (decide (i = j))) μ := w_someb
theorem w_neI : oNe (.int i) (.int j) μ Φ = Φ (.bl (!decide (i = j))) μ := w_someb
theorem w_eqS : oEq (.str s) (.str t) μ Φ = Φ (.bl (decide (s = t))) μ := w_someb
theorem w_neS : oNe (.str s) (.str t) μ Φ = Φ (.bl (!decide (s = t))) μ := w_someb
theorem w_lenT : cLen [.tup ds] μ Φ = Φ (.int ds.length) μ := propext ⟨fun ⟨x, es, e, h, q⟩ => by cases e; cases h; exact q, fun q => ⟨_, _, rfl, .tup ds, q⟩⟩
theorem w_lenL : cLen [.lst ds] μ Φ = Φ (.int ds.length) μ := propext ⟨fun ⟨x, es, e, h, q⟩ => by cases e; cases h; exact q, fun q => ⟨_, _, rfl, .lst ds, q⟩⟩
theorem w_lenS {ns : List Int} : cLen [.scr ns] μ Φ = Φ (.int ns.length) μ := propext ⟨fun ⟨x, es, e, h, q⟩ => by cases e; cases h; rw [List.length_map] at q; exact q, fun q => ⟨_, _, rfl, .scr ns, by rw [List.length_map]; exact q⟩⟩
theorem w_tupL : cTuple [.lst ds] μ Φ = Φ (.tup ds) μ := propext ⟨fun ⟨x, es, e, h, q⟩ => by cases e; cases h; exact q, fun q => ⟨_, _, rfl, .lst ds, q⟩⟩
theorem w_tupT : cTuple [.tup ds] μ Φ = Φ (.tup ds) μ := propext ⟨fun ⟨x, es, e, h, q⟩ => by cases e; cases h; exact q, fun q => ⟨_, _, rfl, .tup ds, q⟩⟩
theorem w_ixT : oIxT (.tup ds) (.int i) μ Φ = ∃ d, atI ds i = some d ∧ Φ d μ := propext ⟨fun ⟨x, es, d, e1, e2, q⟩ => by cases e1; cases e2; exact ⟨d, q⟩, fun ⟨d, q⟩ => ⟨_, _, d, rfl, rfl, q⟩⟩
theorem w_ixL : oIxL (.lst ds) (.int i) μ Φ = ∃ d, atI ds i = some d ∧ Φ d μ := propext ⟨fun ⟨x, es, d, e1, _, e2, q⟩ => by cases e1; cases e2; exact ⟨d, q⟩, fun ⟨d, q⟩ => ⟨_, _, d, .lst ds, rfl, rfl, q⟩⟩
theorem w_ixS {ns : List Int} : oIxL (.scr ns) (.int i) μ Φ = ∃ d, atI (ns.map D.int) i = some d ∧ Φ d μ := propext ⟨fun ⟨x, es, d, e1, _, e2, q⟩ => by cases e1; cases e2; exact ⟨d, q⟩, fun ⟨d, q⟩ => ⟨_, _, d, .scr ns, rfl, rfl, q⟩⟩
theorem w_catT : oCatT (.tup xs) (.tup ys) μ Φ = (xs.length + ys.length ≤ 100000 ∧ Φ (.tup (xs ++ ys)) μ) := propext ⟨fun ⟨x, es, e1, e2, q⟩ => by cases e1; cases e2; exact q, fun q => ⟨_, _, rfl, rfl, q⟩⟩
theorem w_catL : oCatL (.lst xs) (.lst ys) μ Φ = (xs.length + ys.length ≤ 100000 ∧ Φ (.lst (xs ++ ys)) μ) := propext ⟨fun ⟨x, es, e1, e2, q⟩ => by cases e1; cases e2; exact q, fun q => ⟨_, _, rfl, rfl, q⟩⟩
theorem w_all {bs : List Bool} : cAll [.lst (bs.map .bl)] μ Φ = Φ (.bl (bs.all id)) μ := propext (Iff.intro (by
  rintro ⟨cs, e, q⟩
  have e2 : bs = cs := by
    injection e with e _
    injection e with e
    exact (List.map_inj_right (fun _ _ z => by cases z; rfl)).mp e
  subst e2
  exact q) (fun q => ⟨bs, rfl, q⟩))
theorem w_any {bs : List Bool} : cAny [.lst (bs.map .bl)] μ Φ = Φ (.bl (bs.any id)) μ := propext (Iff.intro (by
  rintro ⟨cs, e, q⟩
  have e2 : bs = cs := by
    injection e with e _
    injection e with e
    exact (List.map_inj_right (fun _ _ z => by cases z; rfl)).mp e
  subst e2
  exact q) (fun q => ⟨bs, rfl, q⟩))
theorem w_min2 : cMin2 [.int i, .int j] μ Φ = Φ (.int (if j < i then j else i)) μ := propext ⟨fun ⟨a, b, e, q⟩ => by cases e; exact q, fun q => ⟨_, _, rfl, q⟩⟩
theorem w_divmod : cDivmod [.int i, .int j] μ Φ = (CDivP i j ∧ Φ (.pr [.int (i / j), .int (i % j)]) μ) := propext ⟨fun ⟨a, b, e, q⟩ => by cases e; exact q, fun q => ⟨_, _, rfl, q⟩⟩
theorem w_listS {ns : List Int} : cList [.scr ns] μ Φ = Φ (.lst (ns.map .int)) μ := propext ⟨fun ⟨x, es, e, h, q⟩ => by cases e; cases h; exact q, fun q => ⟨_, _, rfl, .scr ns, q⟩⟩
theorem w_listL : cList [.lst ds] μ Φ = Φ (.lst ds) μ := propext ⟨fun ⟨x, es, e, h, q⟩ => by cases e; cases h; exact q, fun q => ⟨_, _, rfl, .lst ds, q⟩⟩
theorem w_listT : cList [.tup ds] μ Φ = Φ (.lst ds) μ := propext ⟨fun ⟨x, es, e, h, q⟩ => by cases e; cases h; exact q, fun q => ⟨_, _, rfl, .tup ds, q⟩⟩
theorem w_isN {x : D} : oIsN x .non μ Φ = ∃ b, isNone x = some b ∧ Φ (.bl b) μ := propext ⟨fun ⟨_, q⟩ => q, fun q => ⟨rfl, q⟩⟩
theorem w_notN {x : D} : oNotN x .non μ Φ = ∃ b, isNone x = some b ∧ Φ (.bl (!b)) μ := propext ⟨fun ⟨_, q⟩ => q, fun q => ⟨rfl, q⟩⟩
section
variable {φ φa φb φc : DE} {γ : DG} {ω ζ : DSt} {θ ϑ : DT} {ψ : DA} {ρ ρ' : DO} {σ : DU} {κ : DC} {c : Con} {n : Nat} {C : Addr} {d : D} {Th : Bool → Sto → Prop} {Ls : List D → Sto → Prop} {Pn : DEnv → Sto → Prop} {η : List D → DEnv → Sto → (DEnv → Sto → Prop) → Prop} {ol oh : XP → DEnv → Sto → (Option Int → Sto → Prop) → Prop} {Xo : Option Int → Sto → Prop}
theorem u_seq : dSeq ω ζ Ψ Δ δ μ = ω Ψ { Δ with nx := ζ Ψ Δ } δ μ := rfl
theorem u_asg : dAsg φ γ Ψ Δ δ μ = φ Ψ δ μ fun x μ1 => γ x δ μ1 Δ.nx := rfl
theorem u_asgS : dAsgS φ φa φb Ψ Δ δ μ = φ Ψ δ μ fun x μ1 => eSub φa φb Ψ x δ μ1 Δ.nx := rfl
theorem u_ret : dRet φ Ψ Δ δ μ = φ Ψ δ μ Δ.rt := rfl
theorem u_retN : dRetN Ψ Δ δ μ = Δ.rt .non μ := rfl
theorem u_if : dIfS θ ω ζ Ψ Δ δ μ = θ Ψ δ μ fun b μ1 => (b = true → ω Ψ Δ δ μ1) ∧ (b = false → ζ Ψ Δ δ μ1) := rfl
theorem u_next : dNext Ψ Δ δ μ = Δ.nx δ μ := rfl
theorem u_break : dBreak Ψ Δ δ μ = Δ.bk δ μ := rfl
theorem u_cont : dCont Ψ Δ δ μ = Δ.ct δ μ := rfl
theorem u_drop : dDrop φ Ψ Δ δ μ = φ Ψ δ μ fun _ μ1 => Δ.nx δ μ1 := rfl
theorem u_raise : dRaise0 C Ψ Δ δ μ = Ψ (.mk C none) δ μ := rfl
theorem u_aug : dAug n φ ρ Ψ Δ δ μ = ∃ x, δ[n]? = some (some x) ∧ φ Ψ δ μ fun y μ1 => ρ x y μ1 fun z μ2 => Δ.nx (δ.set n (some z)) μ2 := rfl
theorem u_var : dVar n Ψ δ μ Φ = ∃ d, δ[n]? = some (some d) ∧ Φ d μ := rfl
theorem u_rest : dRest n Ψ δ μ Φ = ∃ a ds, δ[n]? = some (some (.hd (.ref a))) ∧ μ a = some (.lst ds) ∧ Φ (.lst ds) (sset μ a (.frz ds)) := rfl
theorem u_c : dC d Ψ δ μ Φ = Φ d μ := rfl
theorem u_op : dOp ρ φa φb Ψ δ μ Φ = φa Ψ δ μ fun x μ1 => φb Ψ δ μ1 fun y μ2 => ρ x y μ2 Φ := rfl
theorem u_un : dUn σ φa Ψ δ μ Φ = φa Ψ δ μ fun x μ1 => σ x μ1 Φ := rfl
theorem u_test : dTest φ Ψ δ μ Th = φ Ψ δ μ fun x μ1 => ∃ b, x = .bl b ∧ Th b μ1 := rfl
theorem u_and : dAnd θ ϑ Ψ δ μ Th = θ Ψ δ μ fun b μ1 => (b = true → ϑ Ψ δ μ1 Th) ∧ (b = false → Th false μ1) := rfl
theorem u_or : dOr θ ϑ Ψ δ μ Th = θ Ψ δ μ fun b μ1 => (b = true → Th true μ1) ∧ (b = false → ϑ Ψ δ μ1 Th) := rfl
theorem u_not : dNot θ Ψ δ μ Th = θ Ψ δ μ fun b μ1 => Th (!b) μ1 := rfl
theorem u_yes : dYes Ψ δ μ Th = Th true μ := rfl
theorem u_andV : dAndV φa φb Ψ δ μ Φ = φa Ψ δ μ fun x μ1 => ∃ b, x = .bl b ∧ (b = true → φb Ψ δ μ1 Φ) ∧ (b = false → Φ (.bl false) μ1) := rfl
theorem u_orV : dOrV φa φb Ψ δ μ Φ = φa Ψ δ μ fun x μ1 => ∃ b, x = .bl b ∧ (b = true → Φ (.bl true) μ1) ∧ (b = false → φb Ψ δ μ1 Φ) := rfl
theorem u_notV : dNotV φa Ψ δ μ Φ = φa Ψ δ μ fun x μ1 => ∃ b, x = .bl b ∧ Φ (.bl (!b)) μ1 := rfl
theorem u_ifE : dIf θ φa φb Ψ δ μ Φ = θ Ψ δ μ fun b μ1 => (b = true → φa Ψ δ μ1 Φ) ∧ (b = false → φb Ψ δ μ1 Φ) := rfl
theorem u_chain : dChain ρ ρ' φa φb φc Ψ δ μ Φ = φa Ψ δ μ fun x μ1 => φb Ψ δ μ1 fun y μ2 => ρ x y μ2 fun z μ3 => ∃ b, z = .bl b ∧ (b = true → φc Ψ δ μ3 fun u μ4 => ρ' y u μ4 Φ) ∧ (b = false → Φ (.bl false) μ3) := rfl
theorem u_nil : dNil Ψ δ μ Ls = Ls [] μ := rfl
theorem u_cons : dCons φ ψ Ψ δ μ Ls = φ Ψ δ μ fun x μ1 => ψ Ψ δ μ1 fun xs μ2 => Ls (x :: xs) μ2 := rfl
theorem u_tup : dTup ψ Ψ δ μ Φ = ψ Ψ δ μ fun xs μ1 => xs.length ≤ 100000 ∧ Φ (.tup xs) μ1 := rfl
theorem u_lst : dLst ψ Ψ δ μ Φ = ψ Ψ δ μ fun xs μ1 => xs.length ≤ 100000 ∧ Φ (.lst xs) μ1 := rfl
theorem u_own : dOwn ψ Ψ δ μ Φ = ψ Ψ δ μ fun xs μ1 => xs.length ≤ 100000 ∧ ∀ p, μ1 p = none → Φ (.hd (.ref p)) (sset μ1 p (.lst xs)) := rfl
theorem u_cb : dCB κ ψ Ψ δ μ Φ = ψ Ψ δ μ fun xs μ1 => κ xs μ1 Φ := rfl
theorem u_call : dCall c ψ Ψ δ μ Φ = ψ Ψ δ μ fun xs μ1 => c xs μ1 Φ fun _ _ => False := rfl
theorem u_callS : dCallS c ψ Ψ δ μ Φ = ψ Ψ δ μ fun xs μ1 => c xs μ1 Φ fun x μ2 => Ψ x δ μ2 := rfl
theorem u_name : eName n d δ μ Pn = Pn (δ.set n (some d)) μ := rfl
theorem u_etup : eTup n η d δ μ Pn = ∃ ds, tpl d = some ds ∧ ds.length = n ∧ η ds δ μ Pn := rfl
theorem w_tplT {P : List D → Prop} : (∃ es, tpl (.tup ds) = some es ∧ P es) = P ds := propext ⟨fun ⟨c, e, q⟩ => by cases e; exact q, fun q => ⟨ds, rfl, q⟩⟩
theorem w_tplP {P : List D → Prop} : (∃ es, tpl (.pr ds) = some es ∧ P es) = P ds := propext ⟨fun ⟨c, e, q⟩ => by cases e; exact q, fun q => ⟨ds, rfl, q⟩⟩
theorem u_enil : eNil xs δ μ Pn = (xs = [] ∧ Pn δ μ) := rfl
theorem u_econs : eCons γ η xs δ μ Pn = ∃ d r, xs = d :: r ∧ γ d δ μ fun δ' μ' => η r δ' μ' Pn := rfl
theorem u_sub : eSub φa φb Ψ d δ μ Pn = φa Ψ δ μ fun x μ1 => φb Ψ δ μ1 fun y μ2 => ∃ a ds i j, x = .hd (.ref a) ∧ y = .int i ∧ μ2 a = some (.lst ds) ∧ ixN ds.length i = some j ∧ Pn δ (sset μ2 a (.lst (ds.set j d))) := rfl
theorem u_app : dApp φa φb Ψ δ μ Φ = φa Ψ δ μ fun x μ1 => ∃ a ds, x = .hd (.ref a) ∧ μ1 a = some (.lst ds) ∧ φb Ψ δ μ1 fun y μ2 => ∃ es, μ2 a = some (.lst es) ∧ es.length ≤ 100000 ∧ Φ .non (sset μ2 a (.lst (es ++ [y]))) := rfl
theorem u_slT : dSlT φ ol oh Ψ δ μ Φ = φ Ψ δ μ fun x μ1 => ol Ψ δ μ1 fun lo μ2 => oh Ψ δ μ2 fun hi μ3 => ∃ ds, x = .tup ds ∧ Φ (.tup (cutD ds lo hi)) μ3 := rfl
theorem u_slL : dSlL φ ol oh Ψ δ μ Φ = φ Ψ δ μ fun x μ1 => ol Ψ δ μ1 fun lo μ2 => oh Ψ δ μ2 fun hi μ3 => ∃ ds, Items μ3 x ds ∧ isTup x = false ∧ Φ (.lst (cutD ds lo hi)) μ3 := rfl
theorem u_noPart : dNoPart Ψ δ μ Xo = Xo none μ := rfl
theorem u_part : dPart φ Ψ δ μ Xo = φ Ψ δ μ fun x μ1 => ∃ i, x = .int i ∧ Xo (some i) μ1 := rfl
theorem u_revL : dRevL φ Ψ δ μ Φ = φ Ψ δ μ fun x μ1 => ∃ ds, Items μ1 x ds ∧ isTup x = false ∧ Φ (.lst ds.reverse) μ1 := rfl
end
theorem w_tupE {P : List D → Prop} : (∃ es, D.tup ds = .tup es ∧ P es) = P ds := propext ⟨fun ⟨c, e, q⟩ => by cases e; exact q, fun q => ⟨ds, rfl, q⟩⟩
theorem w_intE {P : Int → Prop} : (∃ j, D.int i = .int j ∧ P j) = P i := propext ⟨fun ⟨c, e, q⟩ => by cases e; exact q, fun q => ⟨i, rfl, q⟩⟩
theorem w_consE {P : D → List D → Prop} : (∃ d r, x :: xs = d :: r ∧ P d r) = P x xs := propext ⟨fun ⟨c, r, e, q⟩ => by cases e; exact q, fun q => ⟨x, xs, rfl, q⟩⟩
theorem w_hdE {a : Addr} {P : Addr → List D → Prop} : (∃ b es, D.hd (.ref a) = .hd (.ref b) ∧ P b es) = ∃ es, P a es := propext ⟨fun ⟨b, es, e, q⟩ => by cases e; exact ⟨es, q⟩, fun ⟨es, q⟩ => ⟨a, es, rfl, q⟩⟩
theorem w_cell {a : Addr} {P : List D → Prop} (h : μ a = some (.lst ds)) : (∃ es, μ a = some (.lst es) ∧ P es) = P ds := propext ⟨fun ⟨es, e, q⟩ => by rw [h] at e; cases e; exact q, fun q => ⟨ds, h, q⟩⟩
theorem w_cellS {a : Addr} {P : List D → Prop} : (∃ es, sset μ a (.lst ds) a = some (.lst es) ∧ P es) = P ds := w_cell sset_same
theorem w_set {a : Addr} {P' : Addr → List D → Nat → Prop} : (∃ b es k j, D.hd (.ref a) = .hd (.ref b) ∧ D.int i = .int k ∧ μ b = some (.lst es) ∧ ixN es.length k = some j ∧ P' b es j) = (∃ es, μ a = some (.lst es) ∧ ∃ j, ixN es.length i = some j ∧ P' a es j) := propext ⟨fun ⟨b, es, k, j, e1, e2, q1, q2⟩ => by cases e1; cases e2; exact ⟨es, q1, j, q2⟩, fun ⟨es, q1, j, q2⟩ => ⟨a, es, i, j, rfl, rfl, q1, q2⟩⟩
theorem at0 {P : D → Prop} {x0 : D} : (∃ d, atI (x0 :: xs) 0 = some d ∧ P d) = P x0 := propext ⟨fun ⟨d, e, q⟩ => by rw [show (0 : Int) = ((0 : Nat) : Int) from rfl, atI_nat (j := 0) rfl] at e; cases e; exact q, fun q => ⟨x0, atI_nat (j := 0) rfl, q⟩⟩
theorem at1 {P : D → Prop} {x0 x1 : D} : (∃ d, atI (x0 :: x1 :: xs) 1 = some d ∧ P d) = P x1 := propext ⟨fun ⟨d, e, q⟩ => by rw [show (1 : Int) = ((1 : Nat) : Int) from rfl, atI_nat (j := 1) rfl] at e; cases e; exact q, fun q => ⟨x1, atI_nat (j := 1) rfl, q⟩⟩
theorem at2 {P : D → Prop} {x0 x1 x2 : D} : (∃ d, atI (x0 :: x1 :: x2 :: xs) 2 = some d ∧ P d) = P x2 := propext ⟨fun ⟨d, e, q⟩ => by rw [show (2 : Int) = ((2 : Nat) : Int) from rfl, atI_nat (j := 2) rfl] at e; cases e; exact q, fun q => ⟨x2, atI_nat (j := 2) rfl, q⟩⟩
theorem at3 {P : D → Prop} {x0 x1 x2 x3 : D} : (∃ d, atI (x0 :: x1 :: x2 :: x3 :: xs) 3 = some d ∧ P d) = P x3 := propext ⟨fun ⟨d, e, q⟩ => by rw [show (3 : Int) = ((3 : Nat) : Int) from rfl, atI_nat (j := 3) rfl] at e; cases e; exact q, fun q => ⟨x3, atI_nat (j := 3) rfl, q⟩⟩
theorem ix40 {P : Nat → Prop} : (∃ j, ixN 4 0 = some j ∧ P j) = P 0 := propext ⟨fun ⟨j, e, q⟩ => by cases e; exact q, fun q => ⟨0, rfl, q⟩⟩
theorem ix42 {P : Nat → Prop} : (∃ j, ixN 4 2 = some j ∧ P j) = P 2 := propext ⟨fun ⟨j, e, q⟩ => by cases e; exact q, fun q => ⟨2, rfl, q⟩⟩
theorem ix43 {P : Nat → Prop} : (∃ j, ixN 4 3 = some j ∧ P j) = P 3 := propext ⟨fun ⟨j, e, q⟩ => by cases e; exact q, fun q => ⟨3, rfl, q⟩⟩
theorem mapI_get {ws : List Int} {i : Nat} {d : D} (h : (ws.map D.int)[i]? = some d) : ∃ z, ws[i]? = some z ∧ d = .int z := by
  rw [List.getElem?_map] at h
  cases e : ws[i]? with
  | none => rw [e] at h; cases h
  | some z => rw [e] at h; cases h; exact ⟨z, rfl, rfl⟩
theorem v_ixH {a : Addr} : oIxL (.hd (.ref a)) (.int i) μ Φ = ((∃ es, μ a = some (.lst es) ∧ ∃ d, atI es i = some d ∧ Φ d μ) ∨ (∃ es, μ a = some (.frz es) ∧ ∃ d, atI es i = some d ∧ Φ d μ)) := propext (Iff.intro (by
  rintro ⟨es, k, d, hi, _, e, q⟩
  cases e
  cases hi with
  | own h => exact .inl ⟨es, h, d, q⟩
  | frz h => exact .inr ⟨es, h, d, q⟩) (by
  rintro (⟨es, h, d, q⟩ | ⟨es, h, d, q⟩)
  · exact ⟨es, i, d, .own h, rfl, rfl, q⟩
  · exact ⟨es, i, d, .frz h, rfl, rfl, q⟩))
theorem v_items {a : Addr} {P : List D → Prop} : (∃ es, Items μ (.hd (.ref a)) es ∧ P es) = ((∃ es, μ a = some (.lst es) ∧ P es) ∨ (∃ es, μ a = some (.frz es) ∧ P es)) := propext (Iff.intro (by
  rintro ⟨es, hi, q⟩
  cases hi with
  | own h => exact .inl ⟨es, h, q⟩
  | frz h => exact .inr ⟨es, h, q⟩) (by
  rintro (⟨es, h, q⟩ | ⟨es, h, q⟩)
  · exact ⟨es, .own h, q⟩
  · exact ⟨es, .frz h, q⟩))
theorem v_itemsT {P : List D → Prop} : (∃ es, Items μ (.tup ds) es ∧ P es) = P ds := propext ⟨fun ⟨es, h, q⟩ => by cases h; exact q, fun q => ⟨ds, .tup ds, q⟩⟩
theorem v_itemsL {P : List D → Prop} : (∃ es, Items μ (.lst ds) es ∧ P es) = P ds := propext ⟨fun ⟨es, h, q⟩ => by cases h; exact q, fun q => ⟨ds, .lst ds, q⟩⟩
theorem v_itemsS {ns : List Int} {P : List D → Prop} : (∃ es, Items μ (.scr ns) es ∧ P es) = P (ns.map .int) := propext ⟨fun ⟨es, h, q⟩ => by cases h; exact q, fun q => ⟨_, .scr ns, q⟩⟩
theorem v_len : cLen [x] μ Φ = ∃ es, Items μ x es ∧ Φ (.int es.length) μ := propext ⟨fun ⟨y, es, e, h, q⟩ => by cases e; exact ⟨es, h, q⟩, fun ⟨es, h, q⟩ => ⟨x, es, rfl, h, q⟩⟩
theorem v_tuple : cTuple [x] μ Φ = ∃ es, Items μ x es ∧ Φ (.tup es) μ := propext ⟨fun ⟨y, es, e, h, q⟩ => by cases e; exact ⟨es, h, q⟩, fun ⟨es, h, q⟩ => ⟨x, es, rfl, h, q⟩⟩
theorem v_list : cList [x] μ Φ = ∃ es, Items μ x es ∧ Φ (.lst es) μ := propext ⟨fun ⟨y, es, e, h, q⟩ => by cases e; exact ⟨es, h, q⟩, fun ⟨es, h, q⟩ => ⟨x, es, rfl, h, q⟩⟩
theorem v_listOwn : cListOwn [x] μ Φ = ∃ es, Items μ x es ∧ ∀ p, μ p = none → Φ (.hd (.ref p)) (sset μ p (.lst es)) := propext ⟨fun ⟨y, es, e, h, q⟩ => by cases e; exact ⟨es, h, q⟩, fun ⟨es, h, q⟩ => ⟨x, es, rfl, h, q⟩⟩
section
variable {T : String}
theorem i_tT : instB (.tup xs) "tuple" = some true := rfl
theorem i_tI : instB (.tup xs) "int" = some false := rfl
theorem i_tB : instB (.tup xs) "bool" = some false := rfl
theorem i_tS : instB (.tup xs) "str" = some false := rfl
theorem i_nT : instB .non "tuple" = some false := rfl
theorem i_nI : instB .non "int" = some false := rfl
theorem i_nB : instB .non "bool" = some false := rfl
theorem i_nS : instB .non "str" = some false := rfl
theorem i_iT : instB (.int i) "tuple" = some false := rfl
theorem i_iI : instB (.int i) "int" = some true := rfl
theorem i_iB : instB (.int i) "bool" = some false := rfl
theorem i_iS : instB (.int i) "str" = some false := rfl
theorem i_bT : instB (.bl b) "tuple" = some false := rfl
theorem i_bI : instB (.bl b) "int" = some true := rfl
theorem i_bB : instB (.bl b) "bool" = some true := rfl
theorem i_bS : instB (.bl b) "str" = some false := rfl
theorem i_sT : instB (.str s) "tuple" = some false := rfl
theorem i_sI : instB (.str s) "int" = some false := rfl
theorem i_sB : instB (.str s) "bool" = some false := rfl
theorem i_sS : instB (.str s) "str" = some true := rfl
end
theorem w_eqB {c : Bool} : oEq (.bl b) (.bl c) μ Φ = Φ (.bl (decide (b = c))) μ := w_someb
/-- the turns of a comprehension that changes nothing -/
def givenD (n : Nat) (f : Nat → Bool) (v : Nat → D) : List D := ((List.range n).filter f).map v
theorem givenD_yes {n : Nat} {f : Nat → Bool} {v : Nat → D} (h : f n = true) : givenD (n + 1) f v = givenD n f v ++ [v n] := by
  unfold givenD
  rw [List.range_succ, List.filter_append, List.map_append, List.filter_cons, if_pos h] <;> rfl
theorem givenD_no {n : Nat} {f : Nat → Bool} {v : Nat → D} (h : f n = false) : givenD (n + 1) f v = givenD n f v := by
  unfold givenD
  rw [List.range_succ, List.filter_append, List.map_append, List.filter_cons, if_neg (by rw [h]; decide)]
  exact List.append_nil _
theorem givenD_len (n : Nat) (f : Nat → Bool) (v : Nat → D) : (givenD n f v).length ≤ n := by
  unfold givenD
  rw [List.length_map]
  have h := List.length_filter_le f (List.range n)
  rw [List.length_range] at h
  exact h
theorem givenD_all (n : Nat) (v : Nat → D) : givenD n (fun _ => true) v = (List.range n).map v := by
  unfold givenD
  rw [List.filter_eq_self.mpr fun _ _ => rfl]
theorem lc_go {γ : DG} {θ : DT} {φ : DE} {δw : DEnv} {μ1 : Sto} {xs : List D} (f : Nat → Bool) (v : Nat → D) (hz : xs.length ≤ 100000)
    (hs : ∀ (i : Nat) (d : D) (μ2 : Sto) (X : DK) (Y : Sto → Prop), xs[i]? = some d → Sub μ1 μ2 → (f i = true → X (v i) μ2) → (f i = false → Y μ2) →
      γ d δw μ2 fun δ3 μ3 => θ Ψ δ3 μ3 fun b μ4 => (b = true → φ Ψ δ3 μ4 X) ∧ (b = false → Y μ4))
    (hd : Φ (.lst (givenD xs.length f v)) μ1) : ∀ p, μ1 p = none → ∃ W : Nat → Sto → Prop, W 0 (sset μ1 p (.lst [])) ∧
  (∀ i d μ2, xs[i]? = some d → W i μ2 → γ d δw μ2 fun δ3 μ3 => θ Ψ δ3 μ3 fun b μ4 =>
    (b = true → φ Ψ δ3 μ4 fun y μ5 => ∃ acc, μ5 p = some (.lst acc) ∧ acc.length ≤ 100000 ∧ W (i + 1) (sset μ5 p (.lst (acc ++ [y])))) ∧ (b = false → W (i + 1) μ4)) ∧
  ∀ μ2, W xs.length μ2 → ∃ acc, μ2 p = some (.lst acc) ∧ Φ (.lst acc) (sdel μ2 p) := fun p hp => by
  refine ⟨fun i μ' => μ' = sset μ1 p (.lst (givenD i f v)), rfl, fun i d μ2 hi e => ?_, fun μ2 e => ?_⟩
  · subst e
    have hl : i < xs.length := (List.getElem?_eq_some_iff.mp hi).1
    refine hs i d _ _ _ hi (.set Sub.refl hp) (fun hf => ⟨_, sset_same, ?_, ?_⟩) fun hf => ?_
    · have := givenD_len i f v; omega
    · show sset (sset μ1 p (.lst (givenD i f v))) p (.lst (givenD i f v ++ [v i])) = sset μ1 p (.lst (givenD (i + 1) f v))
      rw [sset_sset, givenD_yes hf]
    · show sset μ1 p (.lst (givenD i f v)) = sset μ1 p (.lst (givenD (i + 1) f v))
      rw [givenD_no hf]
  · subst e
    refine ⟨_, sset_same, ?_⟩
    rw [sdel_sset hp]
    exact hd
/-- the list of a comprehension -/
def LcG (γ : DG) (θ : DT) (φ : DE) (δw : DEnv) (Ψ : XP) (xs : List D) (μ1 : Sto) (Φ : DK) : Prop := ∀ p, μ1 p = none → ∃ W : Nat → Sto → Prop, W 0 (sset μ1 p (.lst [])) ∧
  (∀ i d μ2, xs[i]? = some d → W i μ2 → γ d δw μ2 fun δ3 μ3 => θ Ψ δ3 μ3 fun b μ4 =>
    (b = true → φ Ψ δ3 μ4 fun y μ5 => ∃ acc, μ5 p = some (.lst acc) ∧ acc.length ≤ 100000 ∧ W (i + 1) (sset μ5 p (.lst (acc ++ [y])))) ∧ (b = false → W (i + 1) μ4)) ∧
  ∀ μ2, W xs.length μ2 → ∃ acc, μ2 p = some (.lst acc) ∧ Φ (.lst acc) (sdel μ2 p)
theorem u_lc {ι : DI} {γ : DG} {θ : DT} {φ : DE} {vs : List Nat} : dLc ι γ θ φ vs Ψ δ μ Φ = ι Ψ δ μ fun xs μ1 => LcG γ θ φ (dwipe δ vs) Ψ xs μ1 Φ := rfl
theorem lcG_pure {γ : DG} {θ : DT} {φ : DE} {δw : DEnv} {μ1 : Sto} {xs : List D} (f : Nat → Bool) (v : Nat → D) (hz : xs.length ≤ 100000)
    (hs : ∀ (i : Nat) (d : D) (μ2 : Sto) (X : DK) (Y : Sto → Prop), xs[i]? = some d → Sub μ1 μ2 → (f i = true → X (v i) μ2) → (f i = false → Y μ2) →
      γ d δw μ2 fun δ3 μ3 => θ Ψ δ3 μ3 fun b μ4 => (b = true → φ Ψ δ3 μ4 X) ∧ (b = false → Y μ4))
    (hd : Φ (.lst (givenD xs.length f v)) μ1) : LcG γ θ φ δw Ψ xs μ1 Φ := lc_go f v hz hs hd
/-- each item gives one -/
theorem lcG_map {γ : DG} {φ : DE} {δw : DEnv} {μ1 : Sto} {xs : List D} (v : Nat → D) (hz : xs.length ≤ 100000)
    (hs : ∀ (i : Nat) (d : D) (μ2 : Sto) (X : DK), xs[i]? = some d → Sub μ1 μ2 → X (v i) μ2 → γ d δw μ2 fun δ3 μ3 => φ Ψ δ3 μ3 X)
    (hd : Φ (.lst ((List.range xs.length).map v)) μ1) (mono : ∀ d δ μ (P Q : DEnv → Sto → Prop), (∀ a b, P a b → Q a b) → γ d δ μ P → γ d δ μ Q) : LcG γ dYes φ δw Ψ xs μ1 Φ := by
  refine lcG_pure (fun _ => true) v hz (fun i d μ2 X Y hi hsub hx hy => ?_) (by rw [givenD_all]; exact hd)
  exact mono _ _ _ _ _ (fun δ3 μ3 h => ⟨fun _ => h, fun z => nomatch z⟩) (hs i d μ2 X hi hsub (hx rfl))
theorem lcG_mapN {n : Nat} {φ : DE} {δw : DEnv} {μ1 : Sto} {xs : List D} (v : Nat → D) (hz : xs.length ≤ 100000)
    (hs : ∀ (i : Nat) (d : D) (μ2 : Sto) (X : DK), xs[i]? = some d → Sub μ1 μ2 → X (v i) μ2 → φ Ψ (δw.set n (some d)) μ2 X)
    (hd : Φ (.lst ((List.range xs.length).map v)) μ1) : LcG (eName n) dYes φ δw Ψ xs μ1 Φ :=
  lcG_map v hz hs hd fun d δ μ P Q h q => h _ _ q
theorem u_for {ι : DI} {γ : DG} {ω : DSt} : dFor ι γ ω Ψ Δ δ μ = ι Ψ δ μ fun xs μ1 => ∃ W : Nat → DEnv → Sto → Prop, W 0 δ μ1 ∧
  (∀ i d δ' μ', xs[i]? = some d → W i δ' μ' → γ d δ' μ' fun δ2 μ2 => ω Ψ { Δ with nx := W (i + 1), ct := W (i + 1), bk := Δ.nx } δ2 μ2) ∧ ∀ δ' μ', W xs.length δ' μ' → Δ.nx δ' μ' := rfl
section
variable {φ φ' : DE} {Ls : List D → Sto → Prop}
theorem u_iT : iSeqT φ Ψ δ μ Ls = φ Ψ δ μ fun x μ1 => ∃ ds, x = .tup ds ∧ Ls ds μ1 := rfl
theorem u_iL : iSeqL φ Ψ δ μ Ls = φ Ψ δ μ fun x μ1 => ∃ ds, x = .lst ds ∧ Ls ds μ1 := rfl
theorem u_iR1 : iR1 φ Ψ δ μ Ls = φ Ψ δ μ fun x μ1 => ∃ j, x = .int j ∧ j < 4611686018427387904 ∧ -4611686018427387904 ≤ j ∧ Ls (rngD 0 j.toNat) μ1 := rfl
theorem u_iR2 : iR2 φ φ' Ψ δ μ Ls = φ Ψ δ μ fun x μ1 => φ' Ψ δ μ1 fun y μ2 => ∃ i j, x = .int i ∧ y = .int j ∧ (-4611686018427387904 ≤ i ∧ i < 4611686018427387904 ∧ -4611686018427387904 ≤ j ∧ j < 4611686018427387904) ∧ Ls (rngD i (j - i).toNat) μ2 := rfl
theorem u_iZ : iZipT φ φ' Ψ δ μ Ls = φ Ψ δ μ fun x μ1 => φ' Ψ δ μ1 fun y μ2 => ∃ xs ys, x = .tup xs ∧ y = .tup ys ∧ Ls ((xs.zip ys).map fun p => .pr [p.1, p.2]) μ2 := rfl
theorem u_iS : iText φ Ψ δ μ Ls = φ Ψ δ μ fun x μ1 => ∃ s, x = .str s ∧ Ls (s.cps.toList.map fun c => .str ⟨#[c]⟩) μ1 := rfl
end
theorem w_lstE {P : List D → Prop} : (∃ es, D.lst ds = .lst es ∧ P es) = P ds := propext ⟨fun ⟨c, e, q⟩ => by cases e; exact q, fun q => ⟨ds, rfl, q⟩⟩
theorem rngD_get {lo : Int} {n i : Nat} {d : D} (h : (rngD lo n)[i]? = some d) : i < n ∧ d = .int (lo + (i : Int)) := by
  have hl := (List.getElem?_eq_some_iff.mp h).1
  rw [rngD_len] at hl
  rw [rngD_at hl] at h
  cases h
  exact ⟨hl, rfl⟩
theorem w_allB {P : List Bool} (e : ds = P.map .bl) (h : Φ (.bl (P.all id)) μ) : cAll [.lst ds] μ Φ := ⟨P, by rw [e], h⟩
/-- one statement, what follows named -/
theorem q_seq {ω ζ : DSt} (h : ∀ nx, nx = ζ Ψ Δ → ω Ψ ⟨nx, Δ.rt, Δ.bk, Δ.ct⟩ δ μ) : dSeq ω ζ Ψ Δ δ μ := h _ rfl
theorem atI_n {α : Type} {xs : List α} {j : Nat} {v : α} (h : xs[j]? = some v) : atI xs (j : Int) = some v := atI_nat h
theorem ret_same {Φ : DK} {d : D} {μ : Sto} (h : Φ d μ) : ∃ μ2, Sub μ2 μ ∧ Φ d μ2 := ⟨μ, Sub.refl, h⟩
theorem mulx (a b : Nat) (h1 : i.natAbs < 2 ^ a) (h2 : j.natAbs < 2 ^ b) (h : a + b ≤ 134217728) : CMulX i j := mulx_ok h1 h2 h
end
end DW
set_option Elab.async false
set_option linter.all false
set_option maxRecDepth 100000
set_option maxHeartbeats 4000000
namespace DW
open PySem PySem.Spec PyProof.Rows L2 HT
def dRevT (φ : DE) : DE := fun Ψ δ μ Φ => φ Ψ δ μ fun x μ1 => ∃ ds, x = .tup ds ∧ Φ (.tup ds.reverse) μ1
theorem tuple_mul1 (l : Addr) (items : Array Value) (n : Nat) (sl : Array (Option Value)) (dd : Option Addr) (x : Int) (u : Tok) (c0 : (decide (x < -(2 ^ 63)) || decide (x ≥ 2 ^ 63)) = false) (c1 : (items.isEmpty || x == 1) = true) :
    Meets (Builtin.«tuple.__mul__» ⟨[.ref l, .int x u], []⟩) (fun _ R s => s.heap.get? l = some { cls := .type "tuple", dict := dd, data := .seq items n, slots := sl } ∧ R (.ok (.ret (Value.ref l))) s) :=
  .of_wp fun prog w A R s h => by
    obtain ⟨hp, g, d, tk, os⟩ := s
    obtain ⟨hl, h⟩ := h
    have f1 := AutoSeq1.idx_int
    wp_walk using wpAny_loadPart' hl
    repeat (first
      | (refine wpAny_ite_false (decide_eq_false (by rw [c0]; exact Bool.false_ne_true)) ?_; wp_walk using wpAny_loadPart' hl)
      | (refine wpAny_ite_true (decide_eq_true (by rw [c1])) ?_; wp_walk using wpAny_loadPart' hl))
    exact ⟨_, rfl, h⟩
theorem tuple_mul0 (l : Addr) (items : Array Value) (n : Nat) (sl : Array (Option Value)) (dd : Option Addr) (x : Int) (u : Tok) (c0 : (decide (x < -(2 ^ 63)) || decide (x ≥ 2 ^ 63)) = false) (c1 : (items.isEmpty || x == 1) = false) (c2 : (decide (x ≤ 0) || items.isEmpty) = true) :
    Meets (Builtin.«tuple.__mul__» ⟨[.ref l, .int x u], []⟩) (fun _ R s => s.heap.get? l = some { cls := .type "tuple", dict := dd, data := .seq items n, slots := sl } ∧
      R (.ok (.ret (Value.ref s.heap.objs.size))) { s with heap := s.heap.push { cls := Value.type "tuple", data := Data.seq #[] }, toks := s.toks }) :=
  .of_wp fun prog w A R s h => by
    obtain ⟨hp, g, d, tk, os⟩ := s
    obtain ⟨hl, h⟩ := h
    have f1 := AutoSeq1.idx_int
    wp_walk using wpAny_loadPart' hl
    repeat (first
      | (refine wpAny_ite_false (decide_eq_false (by rw [c0]; exact Bool.false_ne_true)) ?_; wp_walk using wpAny_loadPart' hl)
      | (refine wpAny_ite_false (decide_eq_false (by rw [c1]; exact Bool.false_ne_true)) ?_; wp_walk using wpAny_loadPart' hl)
      | (refine wpAny_ite_true (decide_eq_true (by rw [c2])) ?_; wp_walk using wpAny_loadPart' hl))
    exact ⟨_, rfl, h⟩
def rRepBig (K : Fg) : R2 := fun x y H Q => ∃ l k xs, x = .ref l ∧ y = .int k ∧ SqT K H l xs ∧ xs ≠ [] ∧ 2 ≤ k ∧ k ≤ 1000 ∧ xs.length ≤ 1000 ∧ NewT H (List.replicate k.toNat xs).flatten Q
theorem op_repBig {X : Cx} : OpR X (binaryOp .Mult) (rRepBig X.K) := by
  intro pins s σ H x y v u Q I rx ry h
  obtain ⟨l, k, xs, rfl, rfl, hT, hne, g2, g3, hz, q⟩ := h
  cases rx
  obtain ⟨t, rfl⟩ := ry
  obtain ⟨its, r, ⟨⟨cls, dd, data, sl⟩, ho, hc, n, hd⟩, hs⟩ := I.tuple hT
  simp only at hc hd
  subst hc hd
  have many : its.length = xs.length := r.length.symm
  have some' : its.toArray.isEmpty = false := by
    cases its with
    | nil => exact absurd (List.eq_nil_of_length_eq_zero (l := xs) (by simpa using many.symm)) hne
    | cons a b => rfl
  have wide : (its.toArray.size : Int) * k ≤ 1000000 := by
    have z : ((xs.length : Nat) : Int) * k ≤ 1000 * k := Int.mul_le_mul_of_nonneg_right (by omega) (by omega)
    rw [List.size_toArray, many]; omega
  have fl : (List.replicate k.toNat xs).flatten.length ≤ sizeLine := by
    have z : k.toNat * xs.length ≤ 1000 * 1000 := Nat.mul_le_mul (by omega) hz
    rw [PyProof.Rows.lm_len_rep_flat, sizeLine_eq]; omega
  have fl2 : (List.replicate k.toNat its).flatten.length ≤ sizeLine := by rw [PyProof.Rows.lm_len_rep_flat, many, ← PyProof.Rows.lm_len_rep_flat]; exact fl
  have z0 : (decide (k < -(2 ^ 63)) || decide (k ≥ 2 ^ 63)) = false := by rw [decide_eq_false (by omega), decide_eq_false (by omega)]; rfl
  have z1 : (its.toArray.isEmpty || k == 1) = false := by rw [some', Bool.false_or]; exact beq_eq_false_iff_ne.mpr (by omega)
  have z2 : (decide (k ≤ 0) || its.toArray.isEmpty) = false := by rw [some', Bool.or_false]; exact decide_eq_false (by omega)
  have z4 : Builtin.Tuple.tupleTooMany ((its.toArray.size : Int) * k) = false := by unfold Builtin.Tuple.tupleTooMany; rw [sizeLine_eq]; exact decide_eq_false (by omega)
  have mul := tuple_mulW l its.toArray n dd sl k t z0 z1 z2 (by omega) z4 (by rw [size_rep, List.size_toArray]; exact fl2)
  have one : s.TypeIs (.ref l) "tuple" := ⟨_, ho, rfl⟩
  refine wpAny_binaryOp_repeat_ref (T := "tuple") (U := "int") (by decide) one (fun s' => typeIs_int s' k t) noFill_tuple_mul F.fills_int_mul F.slot_int_rmul repeat_tuple F.slot_int_index.lookup ?_
  refine call_meets F.slot_int_rmul (typeIs_int s k t) F.entry_int_rmul (F.args_int_rmul_2 _ _) (int_rmul_tuple k t l its.toArray n dd sl) ⟨ho, rfl, one, ?_⟩
  refine call_meets F.slot_tuple_mul one F.entry_tuple_mul (F.args_tuple_mul_2 _ _) mul ⟨ho, ?_⟩
  rw [size_rep]
  exact new_tup I fl (r.rep k.toNat) q
def rRepA (K : Fg) : R2 := fun x y H Q => ∃ l k xs, x = .ref l ∧ y = .int k ∧ SqT K H l xs ∧ k ≤ 1000 ∧ -1000000 ≤ k ∧ xs.length ≤ 1000 ∧ (xs = [] ∨ k = 1 → Q (.ref l) H) ∧ (xs ≠ [] → k ≤ 0 → NewT H [] Q) ∧
  (xs ≠ [] → 2 ≤ k → NewT H (List.replicate k.toNat xs).flatten Q)
theorem op_repA {X : Cx} : OpR X (binaryOp .Mult) (rRepA X.K) := by
  intro pins s σ H x y v u Q I rx ry h
  obtain ⟨l, k, xs, ex, ey, hT, h1, h2, hz, q1, q2, q3⟩ := h
  by_cases hbig : xs ≠ [] ∧ 2 ≤ k
  · exact op_repBig pins s σ H _ _ v u Q I rx ry ⟨l, k, xs, ex, ey, hT, hbig.1, hbig.2, h1, hz, q3 hbig.1 hbig.2⟩
  · subst ex ey
    cases rx
    obtain ⟨t, rfl⟩ := ry
    obtain ⟨its, r, ⟨⟨cls, dd, data, sl⟩, ho, hc, n, hd⟩, hs⟩ := I.tuple hT
    simp only at hc hd
    subst hc hd
    have hle : its.length = xs.length := r.length.symm
    have c0 : (decide (k < -(2 ^ 63)) || decide (k ≥ 2 ^ 63)) = false := by
      rw [decide_eq_false (by omega), decide_eq_false (by omega)] <;> rfl
    have hemp : its.toArray.isEmpty = decide (xs = []) := by
      cases its with
      | nil => rw [List.eq_nil_of_length_eq_zero (l := xs) (by simpa using hle.symm)]; rfl
      | cons a b =>
        have : xs ≠ [] := fun z => by rw [z] at hle; simp at hle
        rw [decide_eq_false this]; rfl
    by_cases hs1 : xs = [] ∨ k = 1
    · have c1 : (its.toArray.isEmpty || k == 1) = true := by
        rw [hemp]
        rcases hs1 with z | z
        · rw [decide_eq_true z]; rfl
        · rw [z]; simp
      refine wpAny_binaryOp_repeat_ref (T := "tuple") (U := "int") (by decide) ⟨_, ho, rfl⟩ (fun s' => typeIs_int s' k t) noFill_tuple_mul F.fills_int_mul F.slot_int_rmul repeat_tuple F.slot_int_index.lookup
        (call_meets F.slot_int_rmul (typeIs_int s k t) F.entry_int_rmul (F.args_int_rmul_2 _ _) (int_rmul_tuple k t l its.toArray n dd sl)
          ⟨ho, rfl, ⟨_, ho, rfl⟩, call_meets F.slot_tuple_mul ⟨_, ho, rfl⟩ F.entry_tuple_mul (F.args_tuple_mul_2 _ _) (tuple_mul1 l its.toArray n sl dd k t c0 c1) ⟨ho, ?_⟩⟩)
      exact ⟨.ref l, H, I, rfl, q1 hs1⟩
    · have hx : xs ≠ [] := fun z => hs1 (.inl z)
      have hk : k ≤ 0 := by
        have : ¬ 2 ≤ k := fun z => hbig ⟨hx, z⟩
        have : k ≠ 1 := fun z => hs1 (.inr z)
        omega
      have c1 : (its.toArray.isEmpty || k == 1) = false := by
        rw [hemp, decide_eq_false hx, Bool.false_or]
        exact beq_eq_false_iff_ne.mpr (by omega)
      have c2 : (decide (k ≤ 0) || its.toArray.isEmpty) = true := by rw [decide_eq_true hk]; rfl
      refine wpAny_binaryOp_repeat_ref (T := "tuple") (U := "int") (by decide) ⟨_, ho, rfl⟩ (fun s' => typeIs_int s' k t) noFill_tuple_mul F.fills_int_mul F.slot_int_rmul repeat_tuple F.slot_int_index.lookup
        (call_meets F.slot_int_rmul (typeIs_int s k t) F.entry_int_rmul (F.args_int_rmul_2 _ _) (int_rmul_tuple k t l its.toArray n dd sl)
          ⟨ho, rfl, ⟨_, ho, rfl⟩, call_meets F.slot_tuple_mul ⟨_, ho, rfl⟩ F.entry_tuple_mul (F.args_tuple_mul_2 _ _) (tuple_mul0 l its.toArray n sl dd k t c0 c1 c2) ⟨ho, ?_⟩⟩)
      exact new_tup (its := []) I (by decide) .nil (q2 hx hk)
def oRepT : DO := fun x y μ Φ => ∃ ds k, x = .tup ds ∧ y = .int k ∧ k ≤ 1000 ∧ -1000000 ≤ k ∧ ds.length ≤ 1000 ∧ Φ (.tup (List.replicate k.toNat ds).flatten) μ
theorem roRepT {K : Fg} : RO K (rRepA K) oRepT := fun H μ v w d e Φ Q s0 r1 r2 h k => by
  obtain ⟨ds, i, rfl, rfl, h1, h2, h3, q⟩ := h
  obtain ⟨p, vs, rfl, t1, t2⟩ := Rep.tup_inv r1
  obtain rfl := Rep.int_inv r2
  have hl := t2.length
  have nil : vs = [] → ds = [] := fun z => by rw [z] at hl; exact List.eq_nil_of_length_eq_zero hl.symm
  have rnil : ∀ n, (List.replicate n ([] : List D)).flatten = [] := fun n => by induction n <;> simp_all [List.replicate_succ]
  refine ⟨p, i, vs, rfl, rfl, t1.sq, h1, h2, by omega, fun z => ?_, fun z z2 q0 o ho hc hp => ?_, fun z z2 q0 o ho hc hp => ?_⟩
  · refine k _ H _ μ .refl s0 ?_ q
    have e : (List.replicate i.toNat ds).flatten = ds := by
      rcases z with z | z
      · rw [nil z, rnil]
      · subst z; simp
    rw [e]
    exact r1
  · refine k _ _ _ μ (.new hp) (s0.new hp) ?_ q
    have e : i.toNat = 0 := by omega
    rw [e]
    exact rep_tupN s0 hp ho hc .nil
  · exact k _ _ _ μ (.new hp) (s0.new hp) (rep_tupN s0 hp ho hc (reps_rep t2 _)) q
end DW
set_option Elab.async false
set_option linter.all false
set_option maxRecDepth 100000
set_option maxHeartbeats 4000000
namespace DW
open PySem PySem.Spec PyProof.Rows L2 GenW
end DW
set_option Elab.async false
set_option linter.all false
set_option maxRecDepth 100000
set_option maxHeartbeats 4000000
namespace DW
open PySem PySem.Spec PyProof.Rows L2 HotX
section
variable {prog : Program} {w : World} {A : Around} {E : Value → Shared → Prop} {s : Shared}
theorem next_list_end_hot {it l x1 : Addr} {i : Nat} {items : Array Value} {Q : Option Value → Shared → Prop} (hot : HotAt A x1 s.heap) (hne : x1 ≠ it)
    (hit : s.heap.IsListIter it l i) (hl : s.heap.IsList l items) (hx : items[i]? = none)
    (hQ : ∀ h', Heap.ExtBut it s.heap h' → Q none { s with heap := h' }) : wpAny (model prog w) A (pyNext (.ref it)) Q E s := by
  obtain ⟨o, ho, hc, hd⟩ := id hit
  obtain ⟨ol, hol, _, nl, hdl⟩ := hl
  obtain ⟨hh, o1, vs1, h1, d1, c1⟩ := hot
  unfold pyNext
  refine wpAny_bind (wpAny_attempt (wpAny_callSpecial?_slot (name := Str.ofString "__next__") hit.typeIs slot_listiter_next
    (wpAny_call_entry slot_listiter_next hit.typeIs entry_listiter_next ?_ (args_listiter_next _))))
  show wpAny _ _ (field (.ref it) 0 >>= _) _ _ s
  refine wpAny_bind (wpAny_field ho hd (x := .ref l) rfl ?_)
  show wpAny _ _ (if (Value.ref l == Value.none) = true then _ else _) _ _ s
  rw [if_neg (show ¬ ((Value.ref l == Value.none) = true) from Bool.false_ne_true)]
  show wpAny _ _ (field (.ref it) 1 >>= _) _ _ s
  refine wpAny_bind (wpAny_field ho hd (x := .int i 0) rfl ?_)
  show wpAny _ _ (seqItems? (.ref l) >>= _) _ _ s
  refine wpAny_bind (wpAny_seqItems hol hdl ?_)
  simp only [Int.toNat_natCast, hx]
  refine wpAny_bind (wpAny_rule (wpAny_bind (wpAny_setField ho hd (by simp) ?_)))
  show wpAny _ _ (newExc (.type "StopIteration") [] >>= _) _ _ _
  have hh1 : ∀ f, (s.heap.update it f).get? x1 = some o1 := fun f => by rw [Heap.get?_update_other _ _ (Ne.symm hne)]; exact h1
  refine wpAny_bind ?_
  simp only [newExc, newTuple]
  refine wpAny_bind (wpAny_newObj_type ?_ (by size_fits))
  refine wpAny_bind (m := firstArgMember _ _) (wpAny_of_eq (a := Value.none) (by first | rfl | (simp only [firstArgMember]; rfl)) ?_)
  refine wpAny_newObj_type ?_ (by size_fits)
  refine raiseNew_hot ⟨hh, o1, vs1, Heap.get?_push_of_some _ (Heap.get?_push_of_some _ (hh1 _)), d1, c1⟩ (Nat.ne_of_lt (Heap.lt_size (Heap.get?_push_of_some _ (hh1 _)))) (Heap.get?_push_size _ rfl) rfl (by first | (simp; done) | (simp; omega) | (simp only [Array.size_append]; simp; omega)) ?_
  refine wpAny_bind (wpAny_isInstance (T := "StopIteration") (b := true) ⟨_, Heap.get?_update_self _ (Heap.get?_push_size _ rfl) rfl, rfl⟩ isSubtype_stop ?_)
  refine wpAny_pure (hQ _ ?_)
  intro b ob hb e
  have e1 : (s.heap.update it (Obj.mapFields (fun vs => vs.setIfInBounds 0 Value.none))).get? b = some ob := by rw [Heap.get?_update_other _ _ (Ne.symm hb)]; exact e
  have e2 := Heap.get?_push_of_some { cls := Value.type "tuple", data := Data.seq ([] : List Value).toArray } e1
  rw [Heap.get?_update_other _ _ (Nat.ne_of_gt (Heap.lt_size (Heap.get?_push_of_some _ e1)))]
  exact Heap.get?_push_of_some _ e2
end
theorem walks_hot {prog : Program} {w : World} {A : Around} {x1 : Addr} (hh : A.handled = some (.ref x1)) (I ax : Addr) (hne : ax ≠ I) (hxI : x1 ≠ I) (items : Array Value) :
    Walks prog w A I [I, ax, x1] [I] items.size (fun i v => items[i]? = some v) (fun i h => h.IsListIter I ax i ∧ h.IsList ax items ∧ ∃ (o : Obj) (vs : Array Value), h.get? x1 = some o ∧ o.data = .fields vs ∧ vs[2]? = some .none) where
  sub := fun b hb => by simp at hb; simp [hb]
  frame := fun _ _ _ st hk => ⟨st.1.at fun o e => hk I (by simp) o e, st.2.1.at fun o e => hk ax (by simp) o e, let ⟨o, vs, e, r⟩ := st.2.2; ⟨o, vs, hk x1 (by simp) o e, r⟩⟩
  item := fun i s Q E hi st hQ => by
    refine wpAny_pyNext_list_item st.1 st.2.1 (x := items[i]) (by simp [hi]) fun h' hit' hs' => ?_
    obtain ⟨o, vs, e, r⟩ := st.2.2
    exact hQ _ h' s.toks (by simp [hi]) ⟨hit', st.2.1.extBut hs'.extBut hne, o, vs, hs'.extBut x1 o hxI e, r⟩ fun b o hb e => hs'.extBut b o (fun h => hb (by simp [h])) e
  done := fun s Q E st hQ => next_list_end_hot ⟨hh, st.2.2⟩ hxI st.1 st.2.1 (by simp) fun h' he' => hQ h' s.toks fun b o hb e => he' b o (fun h => hb (by simp [h])) e
  self := fun _ _ _ _ st hQ => wpAny_pyIter_listiter st.1 hQ
theorem cr_anyH {X : Cx} {a : Addr} {oe : Obj} {pn : List (Addr × Obj)} (hn : PXN.CtxN oe) (hf : ∃ vs, oe.data = .fields vs) : CallR (X.suite a ((a, oe) :: pn)) (.builtin "any") (rAny X.K) := by
  intro pins s σ H vs us Q I r h
  obtain ⟨l, bs, rfl, hs, q⟩ := h
  obtain ⟨its, rv, hl, _⟩ := I.list hs
  rw [Vals.ref1 r]
  have hb := rv.bls
  obtain ⟨hget, _⟩ := I.pin (a, oe) (List.mem_append.mpr (.inl List.mem_cons_self))
  obtain ⟨fs, hfs⟩ := hf
  have halt : a < s.heap.objs.size := Heap.lt_size hget
  refine call_any_walk (iter_any hl.isList fun s₂ e2 st hne => ?_)
  subst e2
  refine ⟨_, _, _, _, _, _, _, rfl, walks_hot (x1 := a) rfl _ l hne (Nat.ne_of_lt halt) its.toArray, ⟨st.1, st.2, oe, fs, Heap.get?_push_of_some _ hget, hfs, hn fs hfs⟩, truth_bools hb, fun h' tk hk => ?_⟩
  refine ⟨.bl _, H, I.kept fun b o eo => hk b o (fun hmem => ?_) (Heap.get?_push_of_some _ eo), ?_, q⟩
  · rcases List.mem_cons.mp hmem with e1 | hmem
    · exact absurd (e1 ▸ Heap.lt_size eo) (Nat.lt_irrefl _)
    · cases hmem
  · show Value.bool _ = Value.bool _
    rw [← L2.any_range, hb, List.size_toArray, List.length_map]
def kitD (K : Fg) : XD → V → Option Bool
  | .mk C none, .ref T => PySem.W.kitOne K (.ref C) (.ref T)
  | .mk C none, .ty T => PySem.W.kitOne K (.ref C) (.type T)
  | _, _ => none
def excOk (K : Fg) : XD → Prop
  | .mk C none => L2.ExcC K C
  | _ => False
def cIsX (K : Fg) (a : Addr) (x : XD) : DC := fun xs μ Φ => ∃ c b, xs = [.hd (.ref a), .hd c] ∧ kitD K x c = some b ∧ excOk K x ∧ Φ (.bl b) μ
section
variable {K : Fg} {B : Bx K}
theorem sCallSW {W : WX} {c : Con} {tas : TA} {ψ : DA} (hW : B.W = W) (a : SA B tas ψ) : SE B (tCallS (spOf K c) (WE W) tas) (dCallS c ψ) := by
  subst hW; exact sCallS a
theorem sRaise0W {W : WX} {C : Addr} (hW : B.W = W) : SS B (fun _ σ H => (fun (_ : L2.St) (H : Hp) (Q : XK) => Q (.ref C) none H) σ H fun cls d H' => W cls d σ H') (dRaise0 C) := by
  subst hW; exact sRaise0
def dTryAs (K : Fg) (c : Value) (i : Nat) (ω : DSt) (ζ : Addr → XD → DSt) : DSt := fun Ψ Δ δ μ => ω (fun x δ' μ' => ∃ b, (match x with | .mk D _ => PySem.W.exmOne K (.ref D) c) = some b ∧
  (b = true → ∀ a, μ' a = none → ζ a x Ψ ⟨fun δ2 μ2 => Δ.nx (δ2.set i none) μ2, Δ.rt, fun δ2 μ2 => Δ.bk (δ2.set i none) μ2, fun δ2 μ2 => Δ.ct (δ2.set i none) μ2⟩ (δ'.set i (some (.hd (.ref a)))) μ') ∧ (b = false → Ψ x δ' μ')) Δ δ μ
theorem sTryAs {c : Value} {i : Nat} {W : WX} {tb : WX → TS} {ts : Addr → Value → Option Addr → TS} {ω : DSt} {ζ : Addr → XD → DSt} (hW : B.W = W) (hb : ∀ (W' : WX) (B' : Bx K), B'.W = W' → SS B' (tb W') ω)
    (hs : ∀ (a : Addr) (cls : Value) (dd : Option Addr) (x : XD) (B' : Bx K), B'.W = W → RepX K B'.μ0 B'.H0 cls dd x → SS B' (ts a cls dd) (ζ a x)) :
    SS B (fun D σ H => tb (wAs K c i ts W D) D σ H) (dTryAs K c i ω ζ) := fun D Δ σ H δ μ E S q => by
  subst hW
  refine hb _ ⟨B.H0, B.μ0, wAs K c i ts B.W D, _, fun cls dd σ1 H1 x δ1 μ1 S1 rx q1 => ?_⟩ rfl D Δ σ H δ μ ⟨E.nx, E.rt, E.bk, E.ct⟩ S q
  obtain ⟨b, e1, hy, hn⟩ := q1
  have ec : ∃ C fs, x = .mk C fs ∧ cls = .ref C := by
    obtain ⟨C, fs⟩ := x
    cases fs with
    | none => exact ⟨C, _, rfl, rx.1⟩
    | some f => exact ⟨C, _, rfl, rx.1⟩
  obtain ⟨C, fs, rfl, rfl⟩ := ec
  refine ⟨b, e1, fun hb1 a ha => ?_, fun hb1 => B.hW _ _ σ1 H1 _ δ1 μ1 S1 rx (hn hb1)⟩
  have hfr := S1.sto.fresh ha
  refine hs a (.ref C) dd (.mk C fs) (B.re H1 μ1 S1.evo) rfl rx _ _ _ H1 _ μ1 ⟨fun σ2 H2 δ2 μ2 S2 q2 => ?_, fun v H2 d μ2 σ2 δ2 S2 r2 q2 => ?_, fun σ2 H2 δ2 μ2 S2 q2 => ?_, fun σ2 H2 δ2 μ2 S2 q2 => ?_⟩ ⟨.refl, S1.sto, S1.env.set (.hd _ .nil) i⟩ (hy hb1 a hfr)
  · exact E.nx _ H2 _ μ2 ⟨S1.evo.trans S2.evo, S2.sto, S2.env.unset i⟩ q2
  · exact E.rt v H2 d μ2 σ2 δ2 ⟨S1.evo.trans S2.evo, S2.sto, S2.env⟩ r2 q2
  · exact E.bk _ H2 _ μ2 ⟨S1.evo.trans S2.evo, S2.sto, S2.env.unset i⟩ q2
  · exact E.ct _ H2 _ μ2 ⟨S1.evo.trans S2.evo, S2.sto, S2.env.unset i⟩ q2
abbrev ConG := List D → Sto → (List D → Sto → Prop) → Prop
def dTupG (c : ConG) (ψ : DA) : DE := fun Ψ δ μ Φ => ψ Ψ δ μ fun xs μ1 => c xs μ1 fun es μ2 => Φ (.tup es) μ2
end
/-- what is wanted behind a statement of a generator -/
structure GDs where
  nx : List DW.D → DEnv → Sto → Prop
  rt : List DW.D → DW.D → Sto → Prop
  bk : List DW.D → DEnv → Sto → Prop
  ct : List DW.D → DEnv → Sto → Prop
abbrev DGn := XP → GDs → List DW.D → DEnv → Sto → Prop
section
variable {K : Fg} {B : Bx K}
def dGPlain (ω : DSt) : DGn := fun Ψ Δ es δ μ => ω Ψ ⟨Δ.nx es, Δ.rt es, Δ.bk es, Δ.ct es⟩ δ μ
def dGThen (ω ζ : DGn) : DGn := fun Ψ Δ es δ μ => ω Ψ ⟨fun es' δ' μ' => ζ Ψ Δ es' δ' μ', Δ.rt, Δ.bk, Δ.ct⟩ es δ μ
def dGNil : DGn := fun _ Δ es δ μ => Δ.nx es δ μ
def dYield (φ : DE) : DGn := fun Ψ Δ es δ μ => es.length ≤ 100000 ∧ φ Ψ δ μ fun x μ1 => Δ.nx (es ++ [x]) δ μ1
def dGWhile (θ : DT) (ω : DGn) : DGn := fun Ψ Δ es δ μ => ∃ W : Nat → List DW.D → DEnv → Sto → Prop, (∃ m, W m es δ μ) ∧ ∀ m es δ μ, W m es δ μ → θ Ψ δ μ fun b μ1 =>
  (b = true → ω Ψ ⟨fun es' δ' μ' => ∃ m', m' < m ∧ W m' es' δ' μ', Δ.rt, Δ.nx, fun es' δ' μ' => ∃ m', m' < m ∧ W m' es' δ' μ'⟩ es δ μ1) ∧ (b = false → Δ.nx es δ μ1)
end
theorem passN {X : Cx} : Passes (L2N.CX X.prog X.w) X E0 := fun _ _ _ _ _ _ _ h => by
  obtain ⟨_, _, _, _, _, _, _, _, _, _, _, _, z⟩ := h
  exact z.elim
/-- THE RULE for a def, whatever the air -/
theorem def_okC {CX : CXT} {P : Program} {w : World} {K : Fg} {mg : Str → Option Value} {base : Heap} {x qual : Str} {st : Stmt} {f : Addr} {fd : FuncData} {N ps : List Str} {k : Nat} {c : Con} (F : Fun K x qual st f fd) (Sc : FnScope N ps (defScope st)) (φ : DSt)
    (hl : ∀ ds μ Φ Ψ, c ds μ Φ Ψ → ds.length = ps.length)
    (hb : ∀ (cdv : Value) (A : Around) (outer : List Env) (s : Shared) (H : Hp) (E : XK) (B : Bx K), B.W = (fun cls d _ H => E cls d H) → Room k (A.deeper (PyProof.Rows.envOfC qual (defScope st) s.heap.objs.size f cdv)) →
      ∃ t, PSs (cxOf CX P w K mg base N qual (defScope st) f cdv A outer s H E) (defBody st) t ∧ SS B t φ)
    (hv : ∀ ds μ Φ Ψ, c ds μ Φ Ψ → φ (goalX Ψ) (goalE Φ) (dstart N ds) μ) : FnOk P w K mg base CX (k + 1) f fd ps (spOf K c) := by
  obtain ⟨oc, od, kV, doc, pm, an, cdv, ct, osl, rfl, lk, hcd⟩ := F.ex
  refine fn_of lk hcd Sc (fun vs H Q E h => ?_) (fun A outer s H vs Q E hr h => ?_)
  · obtain ⟨μ, ds, Φ, Ψ, _, r, hc, _⟩ := h
    rw [r.length]
    exact hl ds μ Φ Ψ hc
  · obtain ⟨μ, ds, Φ, Ψ, s0, r, hc, hq, hx⟩ := h
    let B : Bx K := ⟨H, μ, fun cls d _ H => E cls d H, goalX Ψ, fun cls dd σ H' x δ μ' S rx ⟨μ2, hs, q⟩ => hx cls dd H' x μ2 (S.evo.trans hs.evo) (hs.sto S.sto) (rx.mono hs.evo) q⟩
    obtain ⟨t, ht, hs⟩ := hb cdv A outer s H E B rfl hr
    refine ⟨t, ht, hs { nx := fun _ H' => Q .non H', rt := Q } (goalE Φ) (L2.start N vs) H (dstart N ds) μ ⟨fun σ H' δ μ' S ⟨μ2, h2, q⟩ => ?_, fun v H' d μ' σ δ S rv ⟨μ2, h2, q⟩ => ?_, fun _ _ _ _ _ z => z, fun _ _ _ _ _ z => z⟩ ⟨.refl, s0, env_start r⟩ (hv ds μ Φ Ψ hc)⟩
    · exact hq .non H' .non μ2 (S.evo.trans h2.evo) (h2.sto S.sto) (.non .nil) q
    · exact hq v H' d μ2 (S.evo.trans h2.evo) (h2.sto S.sto) (rv.mono h2.evo) q
section
variable {K : Fg} {φ : DE} {ψ : DA} {Ψ : XP} {δ : DEnv} {μ : Sto} {Φ : DK} {ω ζ : DSt} {Δ : DEnds} {ds es : List DW.D} {k : Int} {Γ : GDs} {α β : DGn} {θ : DT} {c : ConG} {cv : Value} {i : Nat} {ξ : Addr → XD → DSt}
theorem u_revT : dRevT φ Ψ δ μ Φ = φ Ψ δ μ fun x μ1 => ∃ ds, x = .tup ds ∧ Φ (.tup ds.reverse) μ1 := rfl
theorem w_repT : oRepT (.tup ds) (.int k) μ Φ = (k ≤ 1000 ∧ -1000000 ≤ k ∧ ds.length ≤ 1000 ∧ Φ (.tup (List.replicate k.toNat ds).flatten) μ) := propext ⟨fun ⟨a, b, e1, e2, q⟩ => by cases e1; cases e2; exact q, fun q => ⟨_, _, rfl, rfl, q⟩⟩
theorem u_tupG : dTupG c ψ Ψ δ μ Φ = ψ Ψ δ μ fun xs μ1 => c xs μ1 fun es μ2 => Φ (.tup es) μ2 := rfl
theorem u_try : dTryAs K cv i ω ξ Ψ Δ δ μ = ω (fun x δ' μ' => ∃ b, (match x with | .mk D _ => PySem.W.exmOne K (.ref D) cv) = some b ∧
  (b = true → ∀ a, μ' a = none → ξ a x Ψ ⟨fun δ2 μ2 => Δ.nx (δ2.set i none) μ2, Δ.rt, fun δ2 μ2 => Δ.bk (δ2.set i none) μ2, fun δ2 μ2 => Δ.ct (δ2.set i none) μ2⟩ (δ'.set i (some (.hd (.ref a)))) μ') ∧ (b = false → Ψ x δ' μ')) Δ δ μ := rfl
theorem u_gPlain : dGPlain ω Ψ Γ es δ μ = ω Ψ ⟨Γ.nx es, Γ.rt es, Γ.bk es, Γ.ct es⟩ δ μ := rfl
theorem u_gThen : dGThen α β Ψ Γ es δ μ = α Ψ ⟨fun es' δ' μ' => β Ψ Γ es' δ' μ', Γ.rt, Γ.bk, Γ.ct⟩ es δ μ := rfl
theorem u_gNil : dGNil Ψ Γ es δ μ = Γ.nx es δ μ := rfl
theorem u_yield : dYield φ Ψ Γ es δ μ = (es.length ≤ 100000 ∧ φ Ψ δ μ fun x μ1 => Γ.nx (es ++ [x]) δ μ1) := rfl
theorem u_gWhile : dGWhile θ α Ψ Γ es δ μ = ∃ W : Nat → List DW.D → DEnv → Sto → Prop, (∃ m, W m es δ μ) ∧ ∀ m es δ μ, W m es δ μ → θ Ψ δ μ fun b μ1 =>
  (b = true → α Ψ ⟨fun es' δ' μ' => ∃ m', m' < m ∧ W m' es' δ' μ', Γ.rt, Γ.nx, fun es' δ' μ' => ∃ m', m' < m ∧ W m' es' δ' μ'⟩ es δ μ1) ∧ (b = false → Γ.nx es δ μ1) := rfl
theorem u_while : dWhile θ ω Ψ Δ δ μ = ∃ W : Nat → DEnv → Sto → Prop, (∃ m, W m δ μ) ∧ ∀ m δ μ, W m δ μ → θ Ψ δ μ fun b μ1 =>
  (b = true → ω Ψ { Δ with nx := fun δ' μ' => ∃ m', m' < m ∧ W m' δ' μ', ct := fun δ' μ' => ∃ m', m' < m ∧ W m' δ' μ', bk := Δ.nx } δ μ1) ∧ (b = false → Δ.nx δ μ1) := rfl
theorem u_isX {a : Addr} {x : XD} {c : V} : cIsX K a x [.hd (.ref a), .hd c] μ Φ = ∃ b, kitD K x c = some b ∧ excOk K x ∧ Φ (.bl b) μ := propext ⟨fun ⟨c', b, e, q⟩ => by cases e; exact ⟨b, q⟩, fun ⟨b, q⟩ => ⟨c, b, rfl, q⟩⟩
theorem u_kitR {C T : Addr} : kitD K (.mk C none) (.ref T) = PySem.W.kitOne K (.ref C) (.ref T) := rfl
theorem u_kitT {C : Addr} {T : String} : kitD K (.mk C none) (.ty T) = PySem.W.kitOne K (.ref C) (.type T) := rfl
theorem u_excOk {C : Addr} : excOk K (.mk C none) = L2.ExcC K C := rfl
theorem w_zipE {P : List DW.D → List DW.D → Prop} : (∃ xs ys, D.tup ds = D.tup xs ∧ D.tup es = D.tup ys ∧ P xs ys) = P ds es := propext ⟨fun ⟨a, b, e1, e2, q⟩ => by cases e1; cases e2; exact q, fun q => ⟨_, _, rfl, rfl, q⟩⟩
theorem u_goalX {G : XD → Sto → Prop} {x : XD} : goalX G x δ μ = ∃ μ2, Sub μ2 μ ∧ G x μ2 := rfl
theorem cut_to (p : Nat) : cutD ds none (some (p : Int)) = ds.take p := by
  unfold cutD
  show (ds.drop 0).take (min (p : Int).toNat ds.length - 0) = _
  rw [List.drop_zero, Nat.sub_zero, Int.toNat_natCast]
  by_cases h : p ≤ ds.length
  · rw [Nat.min_eq_left h]
  · rw [Nat.min_eq_right (by omega), List.take_length, List.take_of_length_le (by omega)]
theorem cut_from (p : Nat) : cutD ds (some (p : Int)) none = ds.drop p := by
  unfold cutD
  show (ds.drop (min (p : Int).toNat ds.length)).take (ds.length - min (p : Int).toNat ds.length) = _
  rw [Int.toNat_natCast]
  by_cases h : p ≤ ds.length
  · rw [Nat.min_eq_left h, List.take_of_length_le (by rw [List.length_drop]; omega)]
  · rw [Nat.min_eq_right (by omega), List.drop_length, List.take_nil, List.drop_eq_nil_of_le (by omega)]
theorem cut_from1 (p : Nat) : cutD ds (some ((p : Int) + 1)) none = ds.drop (p + 1) := cut_from (p + 1)
end
end DW
set_option Elab.async false
set_option linter.all false
set_option maxRecDepth 100000
set_option maxHeartbeats 4000000
namespace DW
open PySem PySem.Spec PyProof.Rows L2
section
variable {K : Fg} {B : Bx K} {te ta tb : TE} {φ φa φb : DE} {tl th : TO} {ol oh : XP → DEnv → Sto → (Option Int → Sto → Prop) → Prop}
def oCatS : DO := fun x y μ Φ => ∃ s t, x = .str s ∧ y = .str t ∧ s.length + t.length ≤ 100000 ∧ Φ (.str (s ++ t)) μ
def oInS (neg : Bool) : DO := fun x y μ Φ => ∃ (c : Nat) (z : Str), x = .str ⟨#[c]⟩ ∧ y = .str z ∧ Φ (.bl (if neg then !decide (c ∈ z.cps.toList) else decide (c ∈ z.cps.toList))) μ
def oIxS : DO := fun x y μ Φ => ∃ z i c, x = .str z ∧ y = .int i ∧ z.length ≤ 100000 ∧ atI z.cps.toList i = some c ∧ Φ (.str ⟨#[c]⟩) μ
def dSlS (φ : DE) (ol oh : XP → DEnv → Sto → (Option Int → Sto → Prop) → Prop) : DE := fun Ψ δ μ Φ => φ Ψ δ μ fun x μ1 => ol Ψ δ μ1 fun lo μ2 => oh Ψ δ μ2 fun hi μ3 => ∃ z, x = .str z ∧ z.length ≤ 100000 ∧ Φ (.str (cutS z lo hi)) μ3
def cStr : DC := fun xs μ Φ => (∃ i, xs = [.int i] ∧ i.natAbs.log2 < 1920 ∧ Φ (.str (toString i)) μ) ∨ ∃ a, xs = [.str a] ∧ Φ (.str a) μ
end
end DW
set_option Elab.async false
set_option linter.all false
set_option maxRecDepth 100000
set_option maxHeartbeats 4000000
namespace DW
open PySem PySem.Spec PyProof.Rows L2
theorem meets_enum1 {v : Value} {o : Obj} {H : Heap → Prop} (B : Begins v o H) :
    Meets (Builtin.«enumerate.__new__» ⟨[.type "enumerate", v], []⟩) (fun _ R s => H s.heap ∧
      R (.ok (.ret (.ref (s.heap.push o).objs.size))) { s with heap := (s.heap.push o).push { cls := .type "enumerate", data := .fields #[.none, .bool false, .ref s.heap.objs.size, rawInt 0, .none, .none] } }) :=
  .of_wp fun prog w A R s h => by
    obtain ⟨hp, g, d, tk, os⟩ := s
    obtain ⟨h1, h⟩ := h
    have hsub := sub_enumerate
    have itr : ∀ {A' : Around} {E : Value → Shared → Prop} {Q : Value → Shared → Prop}, Q (.ref hp.objs.size) ⟨hp.push o, g, d, tk, os⟩ → wpAny (model prog w) A' (pyIter v) Q E ⟨hp, g, d, tk, os⟩ :=
      fun q => B.iter prog w _ _ ⟨hp, g, d, tk, os⟩ _ h1 q
    wp_walk using itr
    refine wpAny_stack_any fun st => wpAny_pure ?_
    split
    · rename_i c _ _ _ _ _
      cases (c == Value.type "enumerate") <;> (wp_walk using itr; exact ⟨_, rfl, h⟩)
    · wp_walk using itr
      exact ⟨_, rfl, h⟩
theorem enum_one {prog : Program} {w : World} {A : Around} {E : Value → Shared → Prop} {s : Shared} {v : Value} {o : Obj} {H : Heap → Prop} {Q : Value → Shared → Prop} (B : Begins v o H) (h1 : H s.heap)
    (h : ∀ h', IsEnum h' (s.heap.objs.size + 1) s.heap.objs.size 0 .none → h'.get? s.heap.objs.size = some o → h'.objs.size = s.heap.objs.size + 2 →
      (∀ b o, s.heap.get? b = some o → h'.get? b = some o) → Q (.ref (s.heap.objs.size + 1)) { s with heap := h' }) :
    wpAny (model prog w) A (call (.type "enumerate") [v]) Q E s := by
  refine callType_new F.called_enumerate (by decide) (F.typeCall_enumerate_1 _) (F.newCall_enumerate_1 _) (fun obj => F.args_object_init_2 obj _) F.entry_enumerate_new (meets_enum1 B) ⟨h1, ?_⟩
  have hz : (s.heap.push o).objs.size = s.heap.objs.size + 1 := Heap.size_push ..
  have he := Heap.get?_push_size (s.heap.push o) (o := { cls := .type "enumerate", data := .fields #[.none, .bool false, .ref s.heap.objs.size, rawInt 0, .none, .none] }) rfl
  rw [hz] at he
  show _ ∧ _
  rw [hz]
  exact ⟨⟨_, he, rfl⟩, h _ he (Heap.get?_push_of_some _ (Heap.get?_push_size _ B.free)) (by rw [Heap.size_push, hz]) fun b o x => Heap.get?_push_of_some _ (Heap.get?_push_of_some _ x)⟩
/-- the tuple at a, counted from c -/
def IteT (K : Fg) (a : Addr) (n : Nat) (c : Int) : It :=
  ⟨fun i H => i < n ∧ ∃ (xs : List V) (x : V), SqT K H a xs ∧ xs[i]? = some x, fun i H v H' => ∃ T x, v = .ref T ∧ H T = none ∧ H' = upd H T (.tup [.int (c + (i : Nat)), x]) ∧ ∀ xs, SqT K H a xs → xs[i]? = some x, fun i H => n ≤ i ∧ ∃ xs : List V, SqT K H a xs ∧ xs.length = n⟩
theorem enum_apart {h : Heap} {e it t : Addr} {c : Int} {i : Nat} {old : Value} {items : Array Value} (he : IsEnum h e it c old) (hi : h.IsTupleIter it t i) (ht : h.IsTuple t items) : t ≠ it ∧ e ∉ [it, t] ∧ e ≠ it := by
  obtain ⟨o1, e1, c1, _⟩ := hi
  obtain ⟨o2, e2, c2, _⟩ := ht
  have n1 : t ≠ it := fun z => by subst z; rw [e1] at e2; cases e2; rw [c1] at c2; exact absurd (Value.type.inj c2) (by decide)
  have n2 : e ≠ it := fun z => by
    subst z
    have q : h.get? e = some _ := he
    rw [e1] at q; cases q; exact absurd (Value.type.inj c1) (by decide)
  have n3 : e ≠ t := fun z => by
    subst z
    have q : h.get? e = some _ := he
    rw [e2] at q; cases q; exact absurd (Value.type.inj c2) (by decide)
  exact ⟨n1, by simp [n2, n3], n2⟩
theorem turn_enumT {P : Program} {w : World} {K : Fg} {elts : List Expr} {kk : Nat} {tpos : Pos} (a e it : Addr) (n : Nat) (c : Int) :
    Turn P w K (.Tuple elts kk tpos) (IteT K a n c) [e, it] e (fun i h => i ≤ n ∧ (∃ old, IsEnum h e it (c + (i : Nat)) old) ∧ h.IsTupleIter it a i ∧ e ≠ it) where
  mem := by simp
  obj := fun i h st b hb => by
    obtain ⟨_, ⟨old, he⟩, ⟨o, ho, hc, hd⟩, _⟩ := st
    rcases (show b = e ∨ b = it by simpa using hb) with z | z
    · rw [z]; exact ⟨_, he, fun v q => nomatch q⟩
    · rw [z]; exact ⟨o, ho, fun v q => by rw [hd] at q; cases q⟩
  keep := fun i h h' st k => by
    obtain ⟨hin, ⟨old, he⟩, ⟨o, ho, r⟩, hne⟩ := st
    exact ⟨hin, ⟨old, k e (by simp) _ he⟩, ⟨o, k it (by simp) o ho, r⟩, hne⟩
  item := by
    intro X hP hw hK hc i pins s σ H E I hf st hg
    subst hP hw hK
    obtain ⟨hin, ⟨old, he⟩, hit, hne⟩ := st
    obtain ⟨hlt, xs, x, hq, hx⟩ := hg
    obtain ⟨its, rv, p, hz⟩ := I.tuple hq
    obtain ⟨u, hu, ru⟩ := rv.get hx
    have pt : s.heap.IsTuple a its.toArray := p
    obtain ⟨n1, n2, n3⟩ := enum_apart he hit pt
    have hel : e < s.heap.objs.size := Heap.lt_size he
    have hil : it < s.heap.objs.size := by obtain ⟨_, q, _⟩ := hit; exact Heap.lt_size q
    have hiu : i < its.toArray.size := by rw [List.size_toArray]; exact (List.getElem?_eq_some_iff.mp hu).1
    refine wpAny_pyNext_enum_itemC (Draws.tuple (A := X.A.in1) (I.ok.hd hc) it a n1 its.toArray) he ⟨hit, pt⟩ hiu n3 n2 fun y h' tk hP ho hst hT hsz hk => ?_
    have hy : y = u := by
      have q : its.toArray[i]? = some y := hP
      have q2 : its.toArray[i]? = some u := by simpa using hu
      rw [q2] at q; exact (Option.some.inj q).symm
    subst hy
    refine ⟨_, rfl, wpAny_letOwnedTupleGo_enum (s := { s with heap := h', toks := tk + 1 }) ho fun h'' he' sb => ?_⟩
    have hT2 := (sb.2 _ (Nat.ne_of_gt hel)).trans hT
    have new : ObjOk X.prog X.w (upd H s.heap.objs.size (.tup [.int (c + (i : Nat)), x])) h'' s.heap.objs.size (.tup [.int (c + (i : Nat)), x]) :=
      ⟨by show 2 ≤ sizeLine; decide, [.int (c + (i : Nat)) tk, y], .cons ⟨_, rfl⟩ (.cons ru .nil), ⟨_, hT2, rfl, _, rfl⟩⟩
    have I1 : Inv X pins σ (upd H s.heap.objs.size (.tup [.int (c + (i : Nat)), x])) { s with heap := h'', toks := tk + 1 } :=
      I.turnedNew (ch := [e, it]) (fun b ob hb q => (sb.2 b (fun z => hb (by simp [z]))).trans (hk b ob (fun z => hb (by simp [z])) (fun z => hb (by simp [z])) q)) hf (Nat.le_refl _) new
    refine ⟨.ref s.heap.objs.size, _, I1, rfl, ⟨_, x, rfl, I.hok.fresh (Nat.le_refl _), rfl, fun ys hy => by rw [I.tuple_inj hy hq]; exact hx⟩, ⟨hlt, ⟨y, ?_⟩, ?_, hne⟩, fun b hb => ?_⟩
    · have e1 : c + ((i + 1 : Nat) : Int) = c + ((i : Nat) : Int) + 1 := by omega
      rw [e1]; exact he'
    · obtain ⟨o, q, r⟩ := hst.1
      exact ⟨o, (sb.2 it (Ne.symm hne)).trans q, r⟩
    · have hb' : b < s.heap.objs.size := by
        rcases (show b = e ∨ b = it by simpa using hb) with z | z <;> (rw [z]; assumption)
      rw [upd_ne (Nat.ne_of_lt hb')]
      exact (hf b hb).1
  done := by
    intro X hP hw hK hc i pins s σ H E I hf st hg
    subst hP hw hK
    obtain ⟨hin, ⟨old, he⟩, hit, hne⟩ := st
    obtain ⟨hle, xs, hq, hx⟩ := hg
    obtain ⟨its, rv, p, hz⟩ := I.tuple hq
    have pt : s.heap.IsTuple a its.toArray := p
    obtain ⟨n1, n2, n3⟩ := enum_apart he hit pt
    obtain ⟨f0, f1, f2, f3, f4, f5⟩ := hf it (by simp)
    have hl := rv.length
    have hi : i = its.toArray.size := by rw [List.size_toArray]; omega
    subst hi
    exact wpAny_pyNext_enum_endD (Draws.tuple (A := X.A.in1) (I.ok.hd hc) it a n1 its.toArray) he ⟨hit, pt⟩ fun h' eb => ⟨rfl, I.turned (t' := s.toks) (fun b o hb q => eb b o hb q) f0 f1 f3 f4 f5⟩
  self := fun A i s Q E st h => let ⟨_, ⟨_, he⟩, _⟩ := st; wpAny_pyIter_enum he h
def iEnumT (K : Fg) (c : Int) (ta : TA) : TI := fun σ H R => ta σ H fun vs H1 => ∃ a xs, vs = [.ref a] ∧ SqT K H1 a xs ∧ R (IteT K a xs.length c) H1
theorem pie_enumT {X : Cx} {pins : List (Addr × Obj)} {σ : L2.St} {H1 : Hp} {s1 : Shared} {h' : Heap} {a : Addr} {xs : List V} {c : Int} {R : It → Hp → Prop} {elts : List Expr} {kk : Nat} {tpos : Pos} (I1 : Inv X pins σ H1 s1) (hq : SqT X.K H1 a xs)
    (he : IsEnum h' (s1.heap.objs.size + 1) s1.heap.objs.size c .none) (ho : h'.get? s1.heap.objs.size = some { cls := .type "tuple_iterator", data := .fields #[.ref a, .int 0 0] })
    (hk : ∀ b o, s1.heap.get? b = some o → h'.get? b = some o) (q : R (IteT X.K a xs.length c) H1) : PIE X pins σ (.Tuple elts kk tpos) R (.ref (s1.heap.objs.size + 1)) { s1 with heap := h' } := by
  refine ⟨s1.heap.objs.size + 1, [s1.heap.objs.size + 1, s1.heap.objs.size], _, _, H1, rfl, I1.kept (t' := s1.toks) hk, turn_enumT a (s1.heap.objs.size + 1) s1.heap.objs.size xs.length c, ⟨Nat.zero_le _, ⟨.none, ?_⟩, ⟨_, ho, rfl, rfl⟩, Nat.succ_ne_self _⟩, fun b hb => ?_, q⟩
  · have e : c + ((0 : Nat) : Int) = c := by omega
    rw [e]; exact he
  · have hle : s1.heap.objs.size ≤ b := by
      rcases (show b = s1.heap.objs.size + 1 ∨ b = s1.heap.objs.size by simpa using hb) with z | z
      · rw [z]; exact Nat.le_succ _
      · rw [z]; exact Nat.le_refl _
    exact I1.fpOk hle (I1.hok.fresh hle)
/-- for i, x in enumerate(t) -/
theorem pi_enumT {X : Cx} {e : Expr} {ta : TA} {p pos tpos : Pos} {elts : List Expr} {kk : Nat} (hg : Gl X "enumerate") (hm : X.mg "enumerate" = none) (ha : PA X [e] ta) (hs : starEach [e] X.env = [(false, eval e X.env)] := by rfl) :
    PI X (.Tuple elts kk tpos) (.Call (.Name "enumerate" p) [e] [] pos) (iEnumT X.K 0 ta) := by
  refine ⟨fun pins s σ H R I h => ?_⟩
  refine Call_ (ld_blt I hg hm boot_enumerate (PyProof.Rows.callWith_type1 (thn (ha.run pos pins s σ H _ I h) fun us s1 ⟨vs, H1, I1, r1, q1⟩ => ?_) hs rfl))
  obtain ⟨a, xs, rfl, hq, q⟩ := q1
  rw [Vals.ref1 r1]
  obtain ⟨its, rv, p', hz⟩ := I1.tuple hq
  exact enum_one (begins_tuple a its.toArray) p' fun h' he ho hsz hk => wpAny_pyIter_enum he (pie_enumT I1 hq he ho hk q)
def iEnD (φ : DE) (c : Int) : DI := fun Ψ δ μ Φ => φ Ψ δ μ fun x μ1 => ∃ ds, x = .tup ds ∧ Φ ((List.range ds.length).map fun (i : Nat) => .pr [.int (c + (i : Int)), ds.getD i .non]) μ1
theorem siEnumT {K : Fg} {B : Bx K} {te : TE} {φ : DE} {c : Int} (a : SE B te φ) : SI B (iEnumT K c (tCons te tNil)) (iEnD φ c) := fun σ H δ μ Φ R S q k =>
  a σ H δ μ _ _ S q fun v H1 x μ1 S1 e1 r1 q1 => by
    obtain ⟨ds, rfl, q2⟩ := q1
    obtain ⟨p, vs, rfl, h1, h2⟩ := Rep.tup_inv r1
    refine ⟨p, vs, rfl, h1.sq, k _ _ H1 μ1 S1 e1 (fun i H3 μ3 s3 e3 => ?_) q2⟩
    rw [List.length_map, List.length_range]
    have hl := h2.length
    refine ⟨fun hi => ?_, fun hi => ⟨by omega, vs, (h1.mono e3).sq, rfl⟩⟩
    have hv : i < vs.length := by omega
    refine ⟨⟨hv, vs, vs[i], (h1.mono e3).sq, List.getElem?_eq_getElem hv⟩, fun z H' hy => ?_⟩
    obtain ⟨T, u, rfl, hT, rfl, hu⟩ := hy
    obtain ⟨d, hd, rd⟩ := (h2.mono e3).getV (hu vs (h1.mono e3).sq)
    refine ⟨.pr [.int (c + (i : Int)), d], ?_, s3.new hT, .new hT, rep_tup s3 hT (.cons (.int _ .nil) (.cons rd .nil))⟩
    rw [List.getElem?_map, List.getElem?_range hi]
    show some (D.pr [D.int (c + (i : Int)), ds.getD i .non]) = _
    rw [List.getD_eq_getElem?_getD, hd]
    rfl
end DW
set_option Elab.async false
set_option linter.all false
set_option maxRecDepth 100000
set_option maxHeartbeats 4000000
namespace DW
open PySem PySem.Spec PyProof.Rows L2 NdefX PySem.W
/-- a method that may say super(): its body, at its own activation -/
theorem supfn_of {CX : CXT} {P : Program} {w : World} {K : Fg} {mg : Str → Option Value} {base : Heap} {k : Nat} {f C cc cda : Addr} {name qual : Str} {params : Arguments} {body : List Stmt} {scope : Scope} {kV doc pm ct oc cl : Value} {an od cld : Option Addr}
    {osl csl : Array (Option Value)} {N ps : List Str} {sp : Sp} (lk : K.lookup f = some ⟨oc, od, .func (ksFn name qual params body scope .none kV doc pm an (.ref cda) ct cc), osl⟩) (hcd : codeIn K (.ref cda) qual = true) (S : NScope N ps ["__class__"] scope)
    (lcc : K.lookup cc = some ⟨cl, cld, .cell (some (.ref C)), csl⟩)
    (len : ∀ vs H Q E, sp vs H Q E → vs.length = ps.length)
    (hbody : ∀ (A : Around) (outer : List Env) (s s1 : Shared) (H : Hp) (vs : List V) (Q : VK) (E : XK), Room k (A.deeper (envF ⟨name, qual, params, body, scope, [("__class__", cc)], cda⟩ f s.heap.objs.size)) → sp vs H Q E →
      Inv (ncx CX P w K mg base N ⟨name, qual, params, body, scope, [("__class__", cc)], cda⟩ f A outer s H E) [] (startF N vs [none]) H s1 →
      _root_.PySem.wpAt (model P w) (A.deeper (envF ⟨name, qual, params, body, scope, [("__class__", cc)], cda⟩ f s.heap.objs.size)) (.func body (envF ⟨name, qual, params, body, scope, [("__class__", cc)], cda⟩ f s.heap.objs.size)) (execs body (envF ⟨name, qual, params, body, scope, [("__class__", cc)], cda⟩ f s.heap.objs.size))
        (SP (ncx CX P w K mg base N ⟨name, qual, params, body, scope, [("__class__", cc)], cda⟩ f A outer s H E) [] { nx := fun _ H' => Q .non H', rt := Q }) (ncx CX P w K mg base N ⟨name, qual, params, body, scope, [("__class__", cc)], cda⟩ f A outer s H E).xe s1) :
    FnOk P w K mg base CX (k + 1) f (ksFn name qual params body scope .none kV doc pm an (.ref cda) ct cc) ps sp := by
  refine ⟨len, fun A outer s H args us vs Q E hr e0 hb r hsp => ?_⟩
  have hl := len _ _ _ _ hsp
  have KX : K.In s.heap := e0.mod.kin.keeps fun b o e => (e0.bs b o e).1
  have lim : s.heap.NoLimit := e0.mod.nolimit.keeps fun b o e => (e0.bs b o e).1
  refine ks_codeAny_call_defAt (fd := ksFn name qual params body scope .none kV doc pm an (.ref cda) ct cc) (body := body) (binds := ps.zip us) hr.depth (KX _ _ lk) rfl lim (codeRec_of KX hcd) rfl hb S.nocell (fun ⟨n, _⟩ hy => S.par n (List.of_mem_zip hy).1) (fun h₁ hns hk₁ => ?_) S.co S.gen S.kind
  have Cc : CellsAt [("__class__", cc)] ["__class__"] [none] s.heap H := by
    refine ⟨rfl, fun y c e => ?_, fun x y c e1 e2 => ?_, fun i y e => ?_⟩
    · have ec : c = cc := by
        simp only [List.lookup] at e
        split at e <;> simp_all
      subst ec
      exact ⟨(e0.bs _ _ (e0.mod.kin _ _ lcc)).2, _, _, KX _ _ lcc, rfl⟩
    · simp only [List.lookup] at e1 e2
      split at e1 <;> split at e2 <;> simp_all
    · cases i with
      | zero => cases e; exact ⟨cc, rfl, fun v z => by cases z⟩
      | succ i => cases i <;> cases e
  have I := inv_startN (CX := CX) (P := P) (w := w) (K := K) (mg := mg) (base := base) (F := ⟨name, qual, params, body, scope, [("__class__", cc)], cda⟩) (f := f) (E := E) (tk := s.toks + (ps.zip us).length) S hr.hd e0 hl r Cc hns hk₁
  refine ks_wpAt_mono (hbody A outer s _ H vs Q E (hr.deeper _) hsp I) (fun fl s' hs => ?_) fun e s' hs => hs
  have fin : ∀ {σ' : L2.St} {H' : Hp} {v : V} {u : Value}, Inv (ncx CX P w K mg base N ⟨name, qual, params, body, scope, [("__class__", cc)], cda⟩ f A outer s H E) [] σ' H' s' → L2.RelV v u → Q v H' → CE outer P w H s Q u s' :=
    fun {σ' H' v u} J rv q => ⟨v, H', J.os, J.bare, J.base, J.hok, rv, q⟩
  cases fl with
  | ret u =>
    obtain ⟨v, σ', H', J, rv, q⟩ := hs
    exact fin J rv q
  | next =>
    obtain ⟨σ', H', J, q⟩ := hs
    exact fin (v := V.non) (u := Value.none) J rfl q
  | brk =>
    obtain ⟨_, _, _, q⟩ := hs
    exact False.elim q
  | cont =>
    obtain ⟨_, _, _, q⟩ := hs
    exact False.elim q
end DW
set_option Elab.async false
set_option linter.all false
set_option maxRecDepth 100000
set_option maxHeartbeats 4000000
namespace DW
open PySem PySem.Spec PyProof.Rows L2 NdefX PySem.W
/-- the call of the bound __init__ -/
theorem mw_init {X : Cx} {pins : List (Addr × Obj)} {σ : L2.St} {H : Hp} {s : Shared} {a C u : Addr} {us : List Value} {A : Around} {E : Value → Shared → Prop} {Q : Value → Shared → Prop} (T : OexC X.K C) (I : Inv X pins σ H s) (e : H a = some (exo a C none)) (hu : s.heap.get? u = some (kxs_mw "ValueError.__init__" a)) (hl : us.length ≤ sizeLine)
    (h : ∀ s', Inv X pins σ H s' → Q .none s') : wpAny (model X.prog X.w) A (call (.ref u) us) Q E s := by
  obtain ⟨nm, q, N, bs, bm, sn, sub, ab, col, dd, k0, k1, k2, k3, k5, hC, hbm⟩ := T.cls
  obtain ⟨t1, ho⟩ := exo_at I.hok e
  have hC1 := I.kIn _ _ hC
  obtain ⟨hp, g, d, t, os⟩ := s
  have fin : ∀ h', (∀ b o, b ≠ a → hp.get? b = some o → h'.get? b = some o) → h'.get? a = some (excRec (.ref C) hp.objs.size none .none .none (.bool false)) → h'.get? hp.objs.size = some (excTup us) → Q .none ⟨h', g, d, t, os⟩ := fun h' k hx _ => by
    have J := I.write (t' := t) (x := a) (e := a) (o := exo a C none) (by rw [e]; exact True.intro) (.inl rfl) k ⟨_, hx⟩ (exo_ok hx)
    have eu : upd H a (exo a C none) = H := by
      funext b
      by_cases hb : b = a
      · rw [hb, upd_same, e]
      · rw [upd_ne hb]
    rw [eu] at J
    exact h _ J
  refine wpAny_call (codeAny_of_tree ?_)
  show wpAny _ A.in1 (callAny (.ref u) ⟨us, []⟩) _ _ _
  simp only [callAny]
  refine wpAny_bind (wpAny_load hu ?_)
  simp only [kxs_mw, show (Value.type "method-wrapper" == Value.type "method" || Value.type "method-wrapper" == Value.type "builtin_function_or_method" || Value.type "method-wrapper" == Value.type "method-wrapper") = true by decide, if_true]
  refine KFB.if_so (by decide) ?_
  refine wpAny_bind (check_bound_init PySem.F.excBase_ValueError.toExcCallFacts hC1 ho rfl ?_)
  refine wpAny_bind (wpAny_pure (wpAny_pure ?_))
  refine ⟨plainId_quiet PySem.F.excBase_ValueError.init.plain _, codeAny_builtin PySem.F.excBase_ValueError.initEntry ?_⟩
  exact exc_init_tree (cls := .ref C) (t0 := t1) (dv := none) (c2 := .none) (c3 := .none) (b4 := .bool false) ho hl fin
/-- what the written part says of a class whose __init__ says super().__init__(..) -/
structure SupC (K : Fg) (C D cc f cda : Addr) (file : Str) : Prop where
  ox : OexC K C
  cell : ∃ cl cld csl, K.lookup cc = some ⟨cl, cld, .cell (some (.ref D)), csl⟩
  own : isClsIn K D = true
  sub : mroIn K C (.ref D) = some true
  ve : subIn K (.ref C) (.type "ValueError") = some true
  opq : nsIn K cStatics "thirdparty.any" = some none
  sup : ks_superIn K C D "__init__" = some (some (.builtin "ValueError.__init__"))
  code : ∃ ccl cdd vs ccs tf, K.lookup cda = some ⟨ccl, cdd, .fields vs, ccs⟩ ∧ vs[2]? = some (.str file tf)
theorem super_line {X : Cx} {qual : Str} {scope : Scope} {L f cda cc a C D : Addr} {file : Str} {fd : FuncData} {oc : Value} {od : Option Addr} {osl : Array (Option Value)} {body : List Stmt} {p0 p1 p2 p3 p4 : Pos} {e1 : Expr} {te : TE} {σ : L2.St} {H : Hp} {s : Shared} {G : Shared → Prop} {ar : Arg}
    (hX : X.env = ksEnv qual scope L f (.ref cda) cc) (T : SupC X.K C D cc f cda file) (hf : X.K.lookup f = some ⟨oc, od, .func fd, osl⟩) (hp : (fd.params.posonlyargs ++ fd.params.args).head? = some ar)
    (hfile : ((X.prog.main.file : Str) == file) = true) (htop : (X.prog.main.scope.names.lookup ("super" : Str)).isSome = false) (hms : X.mg "super" = none)
    (hks : scope.names.lookup ("super" : Str) = some .globalImplicit) (hkc : scope.names.lookup ("__class__" : Str) = some .free) (hka : scope.names.lookup ar.arg = some .local)
    (I : Inv X [] σ H s) (hN : X.N[0]? = some ar.arg) (h0 : σ[0]? = some (some (.ref a))) (ea : H a = some (exo a C none)) (he : PE X e1 te)
    (hst : starEach [e1] X.env = (false, eval e1 X.env) :: starEach [] X.env) (hpl : (backTo p3 (starEach [] X.env)).any (·.1) = false)
    (hi : interactive X.env = false) (hsw : swapsWith (.Call (.Attribute (.Call (.Name "super" p0) [] [] p1) "__init__" p2) [e1] [] p3) none p4.line X.env = pure false)
    (hev : ∃ pl, eval (.Call (.Attribute (.Call (.Name "super" p0) [] [] p1) "__init__" p2) [e1] [] p3) X.env = (do
      let ov ← attributeBase (.Call (.Name "super" p0) [] [] p1) "__init__" X.env (eval (.Call (.Name "super" p0) [] [] p1) X.env)
      standAt p2.atName
      let (f, first) ← holding [ov] (getMethod ov "__init__" pl)
      callWith p3 f first (backTo p3 (starEach [e1] X.env)) []))
    (h : te σ H fun x H1 => H1 a = some (exo a C none) ∧ ∀ s', Inv X [] σ H1 s' → G s') :
    _root_.PySem.wpAt (model X.prog X.w) X.A (.func body X.env) (exec (.Expr (.Call (.Attribute (.Call (.Name "super" p0) [] [] p1) "__init__" p2) [e1] [] p3) p4) X.env) (fun fl s' => fl = .next ∧ G s') X.xe s := by
  obtain ⟨pl, hev⟩ := hev
  obtain ⟨cl, cld, csl, hcell⟩ := T.cell
  obtain ⟨ccl, cdd, vs, ccs, tf, hcode, hvs⟩ := T.code
  have KX := I.kIn
  refine ks_wpAt_Expr_any (ks_wpAt_MethodCall ?_ hev) hi hsw
  obtain ⟨nm, q, N, bs, bm, sn, sub, ab, col, dd, k0, k1, k2, k3, k5, hC, hbm⟩ := T.ox.cls
  obtain ⟨t1, ho⟩ := exo_at I.hok ea
  obtain ⟨m, hns, hlk⟩ := I.loc
  have hkind := I.ok.kind
  have ksX : X.env.kindOf "super" = some .globalImplicit := by rw [hX]; exact hks
  have kcX : X.env.kindOf "__class__" = some .free := by rw [hX]; exact hkc
  have kaX : X.env.kindOf ar.arg = some .local := by rw [hX]; exact hka
  have ccX : X.env.cells.lookup (("__class__" : Str)) = some cc := by rw [hX]; rfl
  obtain ⟨u0, ru0, lk0⟩ := hlk 0 ar.arg (.ref a) hN h0 (.inl kaX)
  obtain rfl : u0 = Value.ref a := ru0
  have hma : m ar.arg = some (.ref a) := by
    rcases lk0 with ⟨_, q⟩ | ⟨q, _⟩
    · exact q
    · rw [kaX] at q; rcases q with q | q <;> cases q
  obtain ⟨cdD, hcdD⟩ := Option.isSome_iff_exists.mp (show (clsIn X.K D).isSome = true from T.own)
  obtain ⟨oD, hD1, hD2⟩ : ∃ oD, s.heap.get? D = some oD ∧ oD.data = .cls cdD := by
    unfold clsIn at hcdD
    split at hcdD
    · rename_i c d cd' sl ho'
      cases hcdD
      exact ⟨_, KX _ _ ho', rfl⟩
    · cases hcdD
  obtain ⟨cdC, hcdC⟩ : ∃ cd, clsIn X.K C = some cd := by
    have q := T.sub
    unfold mroIn at q
    cases z : clsIn X.K C with
    | none => rw [z] at q; cases q
    | some cd => exact ⟨cd, rfl⟩
  have hsup : alongIn X.K "__init__" ((cdC.mro.dropWhile (· != .ref D)).drop 1) = some (some (.builtin "ValueError.__init__")) := by
    have q := T.sup
    unfold ks_superIn at q
    rw [hcdC] at q
    exact q
  have haC : a ≠ C := fun z => by
    have q := KX _ _ hC
    rw [← z, ho] at q
    cases q
  obtain ⟨mb, hb1, hb2⟩ := I.mod.blt
  obtain ⟨hh, g, d, t, os⟩ := s
  refine ks_wpAt_super_base (f := f) (fd := fd) (ar := ar) ksX kcX (by decide) (by rw [hX]) (KX _ _ hf) rfl hp (by rw [hX]) (KX _ _ hcode) rfl hvs hfile htop ?_
  refine ks_loadName_global hkind ksX (Calls.loadGlobal_builtin (by rw [I.ok.glob]; exact I.mod.glob.keeps I.bk) hms (by rw [I.ok.blt]; exact hb1.keeps I.bk) ((hb2 _ (by decide)).trans (by first | boot_by_name | rfl | kernel_rfl)) ⟨rfl, ?_⟩)
  refine wpAny_loadName_free hkind kcX ccX ⟨_, KX _ _ hcell, rfl⟩ ?_
  refine wpAny_loadName_local hkind kaX hns hma ?_
  refine ks_wpAny_isType_cls hD1 hD2 ⟨rfl, ?_⟩
  refine ks_wpAny_call_super hD1 hD2 ho rfl (fun c z => by cases z) (looks_mroIn KX T.sub) (fun h' e k => ?_)
  have KX' : X.K.In h' := KX.keeps k
  have ho' := k _ _ ho
  have LT : Looks (model X.prog X.w) h' (typeOf (.ref a)) (.ref C) := fun A Q E s k q => wpAny_typeOf_ref (k _ _ ho') q
  refine kxs_getMethod kxs_ValueError e (looks_opaque KX' T.opq) (l₀ := cdC.mro) (fun A Q E s k q => wpAny_bind ((looks_clsIn KX' hcdC) A _ E s k (wpAny_pure q))) rfl KX' hsup (LT.andThen (looks_subIn KX' T.ve)) haC (by decide) ?_
  -- the arguments
  have k2 : ∀ b o, hh.get? b = some o → (h'.push (kxs_mw "ValueError.__init__" a)).get? b = some o := fun b o q => Heap.get?_push_of_some _ (k b o q)
  have I2 : Inv X [] σ H ⟨h'.push (kxs_mw "ValueError.__init__" a), g, d, t + 1, os⟩ := I.kept (t' := t + 1) k2
  have hge : hh.objs.size ≤ h'.objs.size := by
    by_cases z : hh.objs.size = 0
    · omega
    · have hl : hh.objs.size - 1 < hh.objs.size := by omega
      exact Nat.le_of_lt (Heap.lt_size e)
  have I3 : Inv X [(h'.objs.size, kxs_mw "ValueError.__init__" a)] σ H ⟨h'.push (kxs_mw "ValueError.__init__" a), g, d, t + 1, os⟩ := I2.pins_of fun p hp => by
    rw [List.mem_singleton.mp hp]
    refine ⟨Heap.get?_push_size _ rfl, I.hok.fresh hge, ?_, I.nofs hge, fun v z => by cases z⟩
    have := hns.lt
    exact Nat.ne_of_gt (Nat.lt_of_lt_of_le this hge)
  rw [hst]
  refine kxs_callWith (i := "ValueError.__init__") (x := a) (by show (false || (backTo p3 (starEach [] X.env)).any (·.1)) = false; rw [hpl]; rfl) (Calls.evalArgs_plain ?_)
  refine Calls.spliced_cons (thn (he.run _ _ σ H _ I3 h) fun u1 s1 ⟨x1, H1, J1, rx1, ea1, q1⟩ => ?_)
  refine Calls.spliced_nil ?_
  have hu := (J1.pin (h'.objs.size, kxs_mw "ValueError.__init__" a) (List.mem_append_right _ List.mem_cons_self)).1
  refine ⟨hu, mw_init T.ox J1 ea1 hu (by show 1 ≤ sizeLine; decide) fun s' J => ⟨rfl, q1 s' (J.pins_of fun p hp => absurd hp (by simp))⟩⟩
end DW
set_option Elab.async false
set_option linter.all false
set_option maxRecDepth 100000
set_option maxHeartbeats 4000000
namespace DW
open PySem PySem.Spec PyProof.Rows L2 NdefX PySem.W
/-- what __init__(self, f) keeps: self, an error in the making, gets its one field -/
def spInit (K : Fg) (C : Addr) (fld : Str) (okv : V → Hp → Prop) : Sp := fun vs H Q _ => ∃ a v, vs = [.ref a, v] ∧ okv v H ∧ OexC K C ∧ findIn K (.ref C) fld = some none ∧ H a = some (exo a C none) ∧
  ∀ d, H d = none → d ≠ a → Q .non (upd (upd H d (exd d [(fld, v)])) a (exo a C (some d)))
/-- __init__(self, f): super().__init__(text); self.f = f -/
theorem sup_fn {CX : CXT} {P : Program} {w : World} {K : Fg} {mg : Str → Option Value} {base : Heap} {k : Nat} {f C D cc cda : Addr} {name qual fld file : Str} {params : Arguments} {scope : Scope} {kV doc pm ct oc : Value} {an od : Option Addr} {osl : Array (Option Value)} {N : List Str} {okv : V → Hp → Prop}
    {p0 p1 p2 p3 p4 q1 q2 q3 q4 : Pos} {e1 : Expr} {ar : Arg}
    (lk : K.lookup f = some ⟨oc, od, .func (ksFn name qual params [.Expr (.Call (.Attribute (.Call (.Name "super" p0) [] [] p1) "__init__" p2) [e1] [] p3) p4, .Assign [.Attribute (.Name "self" q1) fld q2] (.Name fld q3) q4] scope .none kV doc pm an (.ref cda) ct cc), osl⟩)
    (hcd : codeIn K (.ref cda) qual = true) (S : NScope N ["self", fld] ["__class__"] scope) (T : SupC K C D cc f cda file) (hp : (params.posonlyargs ++ params.args).head? = some ar) (har : ar.arg = "self")
    (hfile : ((P.main.file : Str) == file) = true) (htop : (P.main.scope.names.lookup ("super" : Str)).isSome = false) (hms : mg "super" = none) (hks : scope.names.lookup ("super" : Str) = some .globalImplicit)
    (hdb : (fld == ("__debug__" : Str)) = false)
    (hX : ∀ (X : Cx), X.prog = P → X.w = w → X.K = K → X.N = N → X.env.scope = scope → (∃ L, X.env = ksEnv qual scope L f (.ref cda) cc) → Room k X.A →
      (∃ te, PE X e1 te ∧ ∀ (σ : L2.St) (H : Hp) (v : V), σ[1]? = some (some v) → okv v H → ∀ Q : VK, (∀ x, Q x H) → te σ H Q) ∧
      starEach [e1] X.env = (false, eval e1 X.env) :: starEach [] X.env ∧ (backTo p3 (starEach [] X.env)).any (·.1) = false ∧ interactive X.env = false ∧
      swapsWith (.Call (.Attribute (.Call (.Name "super" p0) [] [] p1) "__init__" p2) [e1] [] p3) none p4.line X.env = pure false ∧
      (∃ pl, eval (.Call (.Attribute (.Call (.Name "super" p0) [] [] p1) "__init__" p2) [e1] [] p3) X.env = (do
        let ov ← attributeBase (.Call (.Name "super" p0) [] [] p1) "__init__" X.env (eval (.Call (.Name "super" p0) [] [] p1) X.env)
        standAt p2.atName
        let (f, first) ← holding [ov] (getMethod ov "__init__" pl)
        callWith p3 f first (backTo p3 (starEach [e1] X.env)) [])) ∧
      swapsWith (.Name fld q3) (some (.Attribute (.Name "self" q1) fld q2)) q4.line X.env = pure false ∧ PE X (.Name "self" q1) (tVar 0) ∧ PE X (.Name fld q3) (tVar 1)) :
    FnOk P w K mg base CX (k + 1) f (ksFn name qual params [.Expr (.Call (.Attribute (.Call (.Name "super" p0) [] [] p1) "__init__" p2) [e1] [] p3) p4, .Assign [.Attribute (.Name "self" q1) fld q2] (.Name fld q3) q4] scope .none kV doc pm an (.ref cda) ct cc) ["self", fld] (spInit K C fld okv) := by
  obtain ⟨cl, cld, csl, lcc⟩ := T.cell
  obtain ⟨_, hC2⟩ : True ∧ True := ⟨trivial, trivial⟩
  refine supfn_of lk hcd S lcc (fun vs H Q E h => ?_) (fun A outer s s1 H vs Q E hr h I => ?_)
  · obtain ⟨a, v, rfl, _⟩ := h; rfl
  obtain ⟨a, v, rfl, hok, hox, hno, ea, hq⟩ := h
  have hlen : N.take 3 = (["self", fld, "__class__"] : List Str) := S.pre
  have hn0 : N[0]? = some ("self" : Str) := by
    have q := congrArg (fun l : List Str => l[0]?) hlen
    rw [List.getElem?_take_of_lt (by decide)] at q
    exact q
  have hl3 : 3 ≤ N.length := by have := congrArg List.length hlen; rw [List.length_take] at this; simp at this; omega
  obtain ⟨⟨te, hte, hmsg⟩, f1, f2, f3, f4, f5, f6, f7, f8⟩ := hX (ncx CX P w K mg base N ⟨name, qual, params, [.Expr (.Call (.Attribute (.Call (.Name "super" p0) [] [] p1) "__init__" p2) [e1] [] p3) p4, .Assign [.Attribute (.Name "self" q1) fld q2] (.Name fld q3) q4], scope, [("__class__", cc)], cda⟩ f A outer s H E) rfl rfl rfl rfl rfl ⟨_, rfl⟩ hr
  have s0 : (startF N [.ref a, v] [none])[0]? = some (some (.ref a)) := rfl
  have s1' : (startF N [.ref a, v] [none])[1]? = some (some v) := rfl
  refine ks_wpAt_execs_cons (ks_wpAt_mono (super_line (X := ncx CX P w K mg base N ⟨name, qual, params, [.Expr (.Call (.Attribute (.Call (.Name "super" p0) [] [] p1) "__init__" p2) [e1] [] p3) p4, .Assign [.Attribute (.Name "self" q1) fld q2] (.Name fld q3) q4], scope, [("__class__", cc)], cda⟩ f A outer s H E) (L := s.heap.objs.size) (σ := startF N [.ref a, v] [none]) (H := H) rfl T lk hp hfile htop hms hks (S.frk _ List.mem_cons_self) (by rw [har]; exact S.par _ List.mem_cons_self) I (by rw [har]; exact hn0) s0 ea hte f1 f2 f3 f4 f5
    (G := fun s' => Inv (ncx CX P w K mg base N ⟨name, qual, params, [.Expr (.Call (.Attribute (.Call (.Name "super" p0) [] [] p1) "__init__" p2) [e1] [] p3) p4, .Assign [.Attribute (.Name "self" q1) fld q2] (.Name fld q3) q4], scope, [("__class__", cc)], cda⟩ f A outer s H E) [] (startF N [.ref a, v] [none]) H s') ?_) (fun fl s' hs => ?_) fun _ _ z => z)
  · exact hmsg _ H v s1' hok _ fun x => ⟨ea, fun s' J => J⟩
  · obtain ⟨rfl, J⟩ := hs
    refine PySem.wpAt_of_wpAny ?_
    refine (pss_one (ps_ost f7 f8 f6)).run [] s' _ H _ J ?_
    refine ⟨v, s1', .ref a, s0, a, C, rfl, hox, hno, .inl ⟨ea, fun dx hd hne => ?_⟩⟩
    exact hq dx hd hne
/-- C(e): an own error made, its context None -/
theorem pmk_sup {CX : CXT} {X : Cx} {x fld : Str} {C fI : Addr} {k : Nat} {fd : FuncData} {ps : List Str} {okv : V → Hp → Prop} {e : Expr} {ta : TA} {p pos : Pos} (T : OexC X.K C) (iC : findIn X.K (.ref C) "__init__" = some (some (.ref fI))) (tI : typeIn X.K (.ref fI) = some (.type "function")) (hno : findIn X.K (.ref C) fld = some none)
    (F1 : FnOk X.prog X.w X.K X.mg X.base CX k fI fd ps (spInit X.K C fld okv)) (hr : Room (k + 1) X.A) (hb : Binds X.K fd ps []) (hx : Passes CX X (fun _ _ _ => False)) (hg : Gl X x) (hm : X.mg x = some (.ref C)) (ha : PA X [e] ta)
    (hdb : (x == ("__debug__" : Str)) = false := by decide) (hst : starEach [e] X.env = (false, eval e X.env) :: starEach [] X.env := by rfl) (hpl : (backTo pos (starEach [] X.env)).any (·.1) = false := by rfl) :
    L2N.PMk X (.Call (.Name x p) [e] [] pos) (fun σ H Q => ta σ H fun vs H1 => ∃ v, vs = [v] ∧ (∀ a, H1 a = none → okv v (upd H1 a (exo a C none))) ∧ ∀ d, H1 d = none → Q (.ref C) (some d) (upd H1 d (.xd [(fld, v)]))) := by
  intro pins s σ H Q I h
  obtain ⟨nm, q, N, bs, bm, sn, sub, ab, col, dd, k0, k1, k2, k3, k5, hC, hbm⟩ := T.cls
  refine wpAny_Call_Name_kw (ld_glob I hg hm ?_ hdb)
  refine callWith_K (h₀ := X.base) I.ok.mod.kin T.kC (thn (ha.run pos pins s σ H _ I h) fun us s1 ⟨vs, H1, I1, r1, v, ev, hok, q1⟩ => ⟨I1.kIn, ?_⟩) hst hpl
  subst ev
  obtain ⟨u1, rfl, rv1⟩ := vals1 r1
  obtain ⟨hp, g, dr, tk, os⟩ := s1
  have hsz : hp.objs.size ≤ hp.objs.size + 1 := Nat.le_succ _
  have hn : H1 (hp.objs.size + 1) = none := I1.hok.fresh hsz
  have kk : ∀ b o, hp.get? b = some o → ((hp.push (kdv_tup [u1])).push (PySem.HandSPX.excO C hp.objs.size)).get? b = some o := fun b o z => Heap.get?_push_of_some _ (Heap.get?_push_of_some _ z)
  have hget : ((hp.push (kdv_tup [u1])).push (PySem.HandSPX.excO C hp.objs.size)).get? (hp.objs.size + 1) = some (PySem.HandSPX.excO C hp.objs.size) := by heap_get
  have I2 : Inv X pins σ (upd H1 (hp.objs.size + 1) (exo (hp.objs.size + 1) C none)) ⟨(hp.push (kdv_tup [u1])).push (PySem.HandSPX.excO C hp.objs.size), g, dr, tk, os⟩ := I1.laid (t' := tk) kk hsz (exo_ok hget)
  have hsp : spInit X.K C fld okv [.ref (hp.objs.size + 1), v] (upd H1 (hp.objs.size + 1) (exo (hp.objs.size + 1) C none)) (fun v' H2 => v' = .non ∧ ∃ d, H2 (hp.objs.size + 1) = some (exo (hp.objs.size + 1) C (some d)) ∧ H2 d = some (exd d [(fld, v)]) ∧ H1 d = none ∧ Q (.ref C) (some d) (upd (L2.del H2 (hp.objs.size + 1)) d (.xd [(fld, v)]))) (fun _ _ _ => False) := by
    refine ⟨_, v, rfl, hok _ hn, T, hno, upd_same, fun d hd hne => ⟨rfl, d, upd_same, ?_, ?_, ?_⟩⟩
    · rw [upd_ne hne, upd_same]
    · rw [upd_ne hne] at hd; exact hd
    · have hd1 : H1 d = none := by rw [upd_ne hne] at hd; exact hd
      have e2 : upd (L2.del (upd (upd (upd H1 (hp.objs.size + 1) (exo (hp.objs.size + 1) C none)) d (exd d [(fld, v)])) (hp.objs.size + 1) (exo (hp.objs.size + 1) C (some d))) (hp.objs.size + 1)) d (.xd [(fld, v)]) = upd H1 d (.xd [(fld, v)]) := by
        funext b
        by_cases h1 : b = d
        · rw [h1, upd_same, upd_same]
        · rw [upd_ne h1, upd_ne h1]
          by_cases h2 : b = hp.objs.size + 1
          · rw [h2, L2.del_same, hn]
          · rw [L2.del_ne h2, upd_ne h2, upd_ne h1, upd_ne h2]
      rw [e2]
      exact q1 d hd1
  have r2 : Vals [V.ref (hp.objs.size + 1), v] [Value.ref (hp.objs.size + 1), u1] := .cons rfl (.cons rv1 .nil)
  have hl : [Value.ref (hp.objs.size + 1), u1].length = ps.length := F1.len _ _ _ _ hsp
  show wpAny _ _ (call (.ref C) [u1]) _ _ _
  refine wpAny_call (PySem.HandSPX.call_own PySem.F.excBase_ValueError (fun Y => PySem.HandSPX.refsVE_contains Y bm hbm) (I1.kIn _ _ hC) (looks_findIn I1.kIn iC) (fun self => bind_fn I1.kIn self tI) (by show 1 ≤ sizeLine; decide)
    (codeAny_mono (F1.run _ X.stack _ _ ⟨[Value.ref (hp.objs.size + 1), u1], []⟩ [Value.ref (hp.objs.size + 1), u1] _ _ (fun _ _ _ => False) (hr.make C [u1] []) (I2.env0.make C [u1] []) (by have := hb _ [Value.ref (hp.objs.size + 1), u1] I2.kIn (by simpa using hl); simpa using this) r2 hsp) fun r s' hq' => ?_))
  cases r with
  | error er => exact hx pins σ _ _ er s' I2 hq'
  | ok fl =>
    cases fl with
    | ret u =>
      obtain ⟨v', H2, os2, bare2, un2, hok2, rv, ev, d, ea, ed, hd1, q2⟩ := hq'
      subst ev
      obtain ⟨h2, g2, d2, t2, os'⟩ := s'
      obtain ⟨t0, G, J, kG, ge, hoe, na⟩ := mk_end0 (d2 := d2) (t2 := t2) I1 hsz kk un2 hok2 os2 bare2 ea ed hd1
      exact ⟨rv, _, _, _, ⟨G, g2, d2, t2, os'⟩, _, .ref C, some d, rfl, J, kG, ge, hoe, ⟨rfl, rfl, fun vs z => by cases z; rfl⟩, rfl, rfl, na, rfl, bare2, raises_own T.exC T.tyC, q2⟩
    | next => exact False.elim hq'
    | brk => exact False.elim hq'
    | cont => exact False.elim hq'
end DW
set_option Elab.async false
set_option linter.all false
set_option maxRecDepth 100000
set_option maxHeartbeats 4000000
namespace DW
open PySem PySem.Spec PyProof.Rows L2
section
variable {K : Fg} {B : Bx K}
def dRaise1 (C : Addr) (fld : Str) (okd : D → Prop) (φ : DE) : DSt := fun Ψ _ δ μ => φ Ψ δ μ fun x μ1 => okd x ∧ Ψ (.mk C (some ([fld], [x]))) δ μ1
theorem sRaise1 {W : WX} {C : Addr} {fld : Str} {okd : D → Prop} {okv : V → Hp → Prop} {te : TE} {φ : DE} (hW : B.W = W) (hok : ∀ (μ : Sto) (H : Hp) (v : V) (d : D), Rep K μ H v d → okd d → okv v H) (a : SE B te φ) :
    SS B (fun _ σ H => (fun (σ : L2.St) (H : Hp) (Q : XK) => tCons te tNil σ H fun vs H1 => ∃ v, vs = [v] ∧ (∀ a, H1 a = none → okv v (upd H1 a (exo a C none))) ∧ ∀ d, H1 d = none → Q (.ref C) (some d) (upd H1 d (.xd [(fld, v)]))) σ H fun cls d H' => W cls d σ H') (dRaise1 C fld okd φ) := fun D Δ σ H δ μ E S q => by
  subst hW
  refine a σ H δ μ _ _ S q fun v H1 x μ1 S1 e1 r1 q1 => ?_
  obtain ⟨q2, q3⟩ := q1
  refine ⟨v, rfl, fun b hb => hok μ1 _ v x (r1.mono (.new hb)) q2, fun d hd => ?_⟩
  have ev : Evo μ1 H1 μ1 (upd H1 d (.xd [(fld, v)])) := .new hd
  exact B.hW _ _ σ _ (.mk C (some ([fld], [x]))) δ μ1 (S1.step ev (S1.sto.new hd)) ⟨rfl, d, [v], rfl, upd_same, .new S1.sto hd, rfl, r1.mono ev⟩ q3
/-- n.f, n the error that a suite holds -/
def dXf (a : Addr) (x : XD) (C : Addr) (f : Str) (φ : DE) : DE := fun Ψ δ μ Φ => φ Ψ δ μ fun y μ1 => y = .hd (.ref a) ∧ ∃ (ns : List Str) (ds : List DW.D) (i : Nat) (d : DW.D), x = .mk C (some (ns, ds)) ∧ ns[i]? = some f ∧ ns.Nodup ∧ ds[i]? = some d ∧ Φ d μ1
theorem zip_lookup : ∀ {ns : List Str} {us : List V} {i : Nat} {f : Str} {v : V}, ns.Nodup → ns[i]? = some f → us[i]? = some v → (ns.zip us).lookup f = some v
  | [], us, i, f, v, _, h, _ => by cases h
  | n :: ns, [], i, f, v, _, _, h => by cases h
  | n :: ns, u :: us, 0, f, v, _, h1, h2 => by
    have e1 := Option.some.inj h1
    have e2 := Option.some.inj h2
    subst e1 e2
    simp [List.lookup]
  | n :: ns, u :: us, i + 1, f, v, hn, h1, h2 => by
    have hne : ¬ (f = n) := fun z => by
      have : f ∈ ns := List.mem_of_getElem? h1
      rw [z] at this
      exact (List.nodup_cons.mp hn).1 this
    have hb : (f == n) = false := by simp [hne]
    show (match f == n with | true => some u | false => (ns.zip us).lookup f) = some v
    rw [hb]
    exact zip_lookup (List.nodup_cons.mp hn).2 h1 h2
def rIsH (K : Fg) (cls : Value) (dd : Option Addr) (a : Addr) : List V → Hp → VK → Prop := fun xs H Q => ∃ C, cls = .ref C ∧ L2.ExcC K C ∧ (dd = none ∨ ∃ p fs, dd = some p ∧ H p = some (.xd fs)) ∧
  ∃ (c : V) (cv : Value) (b : Bool), xs = [.ref a, c] ∧ (∀ u, RelV c u → u = cv) ∧ PySem.W.kitOne K (.ref C) cv = some b ∧ Q (.bl b) H
theorem call_isH {X : Cx} {a : Addr} {cls : Value} {dd : Option Addr} {oe : Obj} {pn : List (Addr × Obj)} (hz : L2N.Zn cls dd oe) (hf : ∃ vs, oe.data = .fields vs) : CallR (X.suite a ((a, oe) :: pn)) (.builtin "isinstance") (rIsH X.K cls dd a) := by
  intro pins s σ H xs us Q I r h
  obtain ⟨C, rfl, hC, hdd, c, cv, b, rfl, hcv, e, q⟩ := h
  obtain ⟨hget, _⟩ := I.pin (a, oe) (List.mem_append.mpr (.inl List.mem_cons_self))
  obtain ⟨vs, hv⟩ := hf
  obtain ⟨u1, u2, rfl, r1, r2⟩ := vals2 r
  obtain rfl : u1 = Value.ref a := r1
  have ec := hcv _ r2
  subst ec
  obtain ⟨od, J⟩ : ∃ od, PySem.W.InstAt s.heap a oe C od := by
    obtain ⟨oc, od, oda, osl⟩ := oe
    obtain ⟨h1, h2, _⟩ := hz
    dsimp only at h1 h2 hv
    subst h1 hv
    rcases hdd with z | ⟨p, fs, z, hp⟩
    · subst z; subst h2; exact ⟨none, hget, rfl, rfl, trivial⟩
    · subst z; subst h2
      obtain ⟨mA, ⟨o, es, ep, ho, _⟩, _⟩ := (I.hok p _ hp)
      exact ⟨some o, hget, rfl, rfl, ho⟩
  have hcl : (PySem.W.clsIn X.K C).isSome = true := by
    obtain ⟨cd, q, _⟩ := PySem.W.any_some hC.hd
    rw [q]; rfl
  exact PySem.W.kia_one (PySem.W.kitx_exc hcl hC.hg hC.hk hC.hs hC.ha hC.hn hC.ht hC.hm) I.kIn J e (fun z => nomatch z) fun tk => ⟨.bl b, H, I.kept (t' := tk) fun _ _ z => z, rfl, q⟩
def kitE (K : Fg) : XD → V → Option Bool
  | .mk C _, .ref T => PySem.W.kitOne K (.ref C) (.ref T)
  | .mk C _, .ty T => PySem.W.kitOne K (.ref C) (.type T)
  | _, _ => none
def excE (K : Fg) : XD → Prop
  | .mk C _ => L2.ExcC K C
def dIsE (K : Fg) (a : Addr) (x : XD) (ψ : DA) : DE := fun Ψ δ μ Φ => ψ Ψ δ μ fun xs μ1 => ∃ c b, xs = [.hd (.ref a), .hd c] ∧ kitE K x c = some b ∧ excE K x ∧ Φ (.bl b) μ1
theorem sIsE {a : Addr} {cls : Value} {dd : Option Addr} {x : XD} {tas : TA} {ψ : DA} (rx : RepX K B.μ0 B.H0 cls dd x) (s : SA B tas ψ) : SE B (tCB (rIsH K cls dd a) tas) (dIsE K a x ψ) := fun σ H δ μ Φ Q S q k =>
  s σ H δ μ _ _ S q fun vs H1 xs μ1 S1 e1 r1 q1 => by
    obtain ⟨c, b, rfl, hk, hx, q2⟩ := q1
    obtain ⟨v, w, rfl, ra, rb⟩ := reps2 r1
    obtain rfl := Rep.hd_inv ra
    obtain rfl := Rep.hd_inv rb
    obtain ⟨C, fs⟩ := x
    have hcd : cls = .ref C ∧ (dd = none ∨ ∃ p fs', dd = some p ∧ H1 p = some (.xd fs')) := by
      cases fs with
      | none => exact ⟨rx.1, .inl rx.2⟩
      | some f =>
        obtain ⟨ns, ds⟩ := f
        obtain ⟨hc, p, us, hp, hH, hn, _⟩ := rx
        exact ⟨hc, .inr ⟨p, _, hp, (S1.evo.st _ _ hH hn).1⟩⟩
    obtain ⟨rfl, hdd⟩ := hcd
    refine ⟨C, rfl, hx, hdd, ?_⟩
    cases w with
    | ref T => exact ⟨_, .ref T, b, rfl, fun u h => by cases h; rfl, hk, k _ H1 _ μ1 S1 e1 (.bl _ .nil) q2⟩
    | ty T => exact ⟨_, .type T, b, rfl, fun u h => by cases h; rfl, hk, k _ H1 _ μ1 S1 e1 (.bl _ .nil) q2⟩
    | _ => cases hk
end
end DW
set_option Elab.async false
set_option linter.all false
set_option maxRecDepth 100000
set_option maxHeartbeats 4000000
namespace DW
open PySem PySem.Spec PyProof.Rows L2
theorem repr_ints {prog : Program} {w : World} : ∀ {l : List Int} {its : List Value}, Vals (l.map V.int) its → (∀ i ∈ l, i.natAbs.log2 < 1920) → ReprAll prog w its (l.map fun i => Str.ofString (toString i))
  | [], _, r, _ => by cases r; exact .nil
  | y :: l, _, r, h => by
    cases r with
    | cons r1 r2 =>
      obtain ⟨t, rfl⟩ := r1
      exact .cons (ReprIs.int t (h y List.mem_cons_self)) (repr_ints r2 fun z hz => h z (List.mem_cons_of_mem _ hz))
theorem piled_ints : ∀ (l : List Int), (∀ i ∈ l, i.natAbs.log2 < 1920) → piled (l.map fun i => Str.ofString (toString i)) ≤ 3000 * l.length
  | [], _ => by simp [piled]
  | y :: l, h => by
    have ih := piled_ints l fun z hz => h z (List.mem_cons_of_mem _ hz)
    have e := int_text_length_le (k := 1920) (by decide) (h y List.mem_cons_self)
    rw [List.map_cons, piled_cons, PySem.ofString_length, List.length_cons]
    omega
def tFmtI (K : Fg) (te : TE) : TE := fun σ H Q => te σ H fun x H1 => ∃ (a : Addr) (l : List Int), x = .ref a ∧ SqT K H1 a (l.map V.int) ∧ (∀ i ∈ l, i.natAbs.log2 < 1920) ∧ l.length ≤ 1000 ∧ ∀ m : Str, m.length ≤ 3000100 → Q (.str m) H1
theorem pe_fmtI {X : Cx} {e : Expr} {te : TE} {pos : Pos} {k : Nat} (hr : Room k X.A) (he : PE X e te) : PE X (.FormattedValue e (-1) none pos) (tFmtI X.K te) := by
  refine ⟨fun pins s σ H Q I h => ?_⟩
  refine wpAny_FormattedValue_plain (thn (he.run pins s σ H _ I h) fun v s1 hv => ?_)
  obtain ⟨x, H1, I1, r1, a, l, rfl, ht, hc, hz, q⟩ := hv
  cases r1
  obtain ⟨its, rv, ⟨o, ho, hcl, n, hd⟩, _⟩ := I1.tuple ht
  have hp := piled_ints l hc
  have htx := fmt_text (l.map fun i => Str.ofString (toString i))
  have hu := hr.units
  exact fmt_tuple (ts := l.map fun i => Str.ofString (toString i)) (by omega) ho hcl hd (repr_ints rv hc) (by rw [sizeLine_eq]; omega) fun m u tk hm => ⟨.str m, H1, I1.tok _, ⟨u, rfl⟩, q m (by omega)⟩
def okPath (K : Fg) : V → Hp → Prop := fun v H => ∃ (a : Addr) (l : List Int), v = .ref a ∧ SqT K H a (l.map V.int) ∧ (∀ i ∈ l, i.natAbs.log2 < 1920) ∧ l.length ≤ 1000
theorem strlen_append (a b : Str) : (a ++ b).length = a.length + b.length := by first | exact PySem.Str.length_append a b | exact StrLaws.length_append a b | exact PySem.StrLaws.length_append a b
/-- f"..{path}.." -/
theorem msg_path {X : Cx} {s1 s2 : Str} {k1 k2 : Nat} {k : Nat} {fld : Str} {q1 q2 q3 q4 q5 : Pos} (hr : Room k X.A) (h1 : s1.length ≤ 1000) (h2 : s2.length ≤ 1000) (hv : PE X (.Name fld q2) (tVar 1)) :
    ∃ te, PE X (.JoinedStr [.Constant (.str s1) k1 q1, .FormattedValue (.Name fld q2) (-1) none q3, .Constant (.str s2) k2 q5] q4) te ∧ ∀ (σ : L2.St) (H : Hp) (v : V), σ[1]? = some (some v) → okPath X.K v H → ∀ Q : VK, (∀ x, Q x H) → te σ H Q :=
  ⟨_, pe_joined (.cons pe_str (.cons (pe_fmtI hr hv) (.cons pe_str .nil))), fun σ H v e ⟨a, l, ev, hs, hi, hl⟩ Q hq => by
    subst ev
    refine ⟨s1, rfl, ?_, .ref a, e, a, l, rfl, hs, hi, hl, fun m hm => ⟨m, rfl, ?_, s2, rfl, ?_, hq _⟩⟩
    · rw [strlen_append, sizeLine_eq]; show 0 + _ ≤ _; omega
    · rw [strlen_append, strlen_append, sizeLine_eq]; show 0 + _ + _ ≤ _; omega
    · rw [strlen_append, strlen_append, strlen_append, sizeLine_eq]; show 0 + _ + _ + _ ≤ _; omega⟩
theorem reps_int_inv {K : Fg} {μ : Sto} {H : Hp} : ∀ {vs : List V} {ns : List Int}, Reps K μ H vs (ns.map D.int) → vs = ns.map V.int
  | [], [], _ => rfl
  | [], _ :: _, r => by have := r.length; simp at this
  | _ :: _, [], r => by have := r.length; simp at this
  | v :: vs, n :: ns, r => by
    rw [List.map_cons] at r ⊢
    rw [Rep.int_inv r.split.1, reps_int_inv r.split.2]
def okdPath : D → Prop := fun d => ∃ l : List Int, d = .tup (l.map .int) ∧ (∀ i ∈ l, i.natAbs.log2 < 1920) ∧ l.length ≤ 1000
theorem okdPath_ok {K : Fg} (μ : Sto) (H : Hp) (v : V) (d : D) (r : Rep K μ H v d) (h : okdPath d) : okPath K v H := by
  obtain ⟨l, rfl, hi, hl⟩ := h
  obtain ⟨a, vs, rfl, ht, hr⟩ := Rep.tup_inv r
  have e := reps_int_inv hr
  subst e
  exact ⟨a, l, rfl, ht.sq, hi, hl⟩
end DW
set_option Elab.async false
set_option linter.all false
set_option maxRecDepth 100000
namespace DW
open PySem PySem.Spec PyProof.Rows L2
section
variable {K : Fg} {μ : Sto} {Φ : DK}
/-- len of a text -/
def cLenStr : DC := fun xs μ Φ => ∃ z, xs = [.str z] ∧ z.length ≤ 100000 ∧ Φ (.int z.length) μ
theorem w_lenStr {s : Str} : cLenStr [.str s] μ Φ = ((TL.tl s).length ≤ 100000 ∧ Φ (.int (TL.tl s).length) μ) := propext ⟨fun ⟨z, e, h1, q⟩ => by cases e; exact ⟨h1, q⟩, fun ⟨h1, q⟩ => ⟨s, rfl, h1, q⟩⟩
theorem w_catStr {s t : Str} : oCatS (.str s) (.str t) μ Φ = ((TL.tl s).length + (TL.tl t).length ≤ 100000 ∧ Φ (.str (s ++ t)) μ) := propext ⟨fun ⟨a, b, e1, e2, h, q⟩ => by cases e1; cases e2; exact ⟨h, q⟩, fun ⟨h, q⟩ => ⟨s, t, rfl, rfl, h, q⟩⟩
theorem w_ixStr {s : Str} {i : Int} : oIxS (.str s) (.int i) μ Φ = ((TL.tl s).length ≤ 100000 ∧ ∃ c, atI (TL.tl s) i = some c ∧ Φ (.str ⟨#[c]⟩) μ) := propext ⟨fun ⟨z, j, c, e1, e2, h, h2, q⟩ => by cases e1; cases e2; exact ⟨h, c, h2, q⟩, fun ⟨h, c, h2, q⟩ => ⟨s, i, c, rfl, rfl, h, h2, q⟩⟩
theorem w_inStr {c : Nat} {z : Str} : oInS false (.str ⟨#[c]⟩) (.str z) μ Φ = Φ (.bl (decide (c ∈ TL.tl z))) μ := propext ⟨fun ⟨c', z', e1, e2, q⟩ => by cases e1; cases e2; exact q, fun q => ⟨c, z, rfl, rfl, q⟩⟩
theorem w_strE {s : Str} {P : Str → Prop} : (∃ z, D.str s = D.str z ∧ P z) = P s := propext ⟨fun ⟨z, e, h⟩ => by cases e; exact h, fun h => ⟨s, rfl, h⟩⟩
theorem w_strI {i : Int} : cStr [.int i] μ Φ = (i.natAbs.log2 < 1920 ∧ Φ (.str (toString i)) μ) := propext ⟨(fun h => by
  rcases h with ⟨j, e, h1, q⟩ | ⟨a, e, q⟩
  · cases e; exact ⟨h1, q⟩
  · cases e), fun ⟨h1, q⟩ => .inl ⟨i, rfl, h1, q⟩⟩
theorem w_strS {s : Str} : cStr [.str s] μ Φ = Φ (.str s) μ := propext ⟨(fun h => by
  rcases h with ⟨j, e, h1, q⟩ | ⟨a, e, q⟩
  · cases e
  · cases e; exact q), fun q => .inr ⟨s, rfl, q⟩⟩
end
end DW
set_option Elab.async false
set_option linter.all false
set_option maxRecDepth 100000
namespace DW
open PySem PySem.Spec PyProof.Rows L2
section
variable {K : Fg} {μ : Sto} {Φ : DK} {Ψ : XP} {δ : DEnv}
theorem u_iEn {φ : DE} {c : Int} {Ls : List D → Sto → Prop} : iEnD φ c Ψ δ μ Ls = φ Ψ δ μ fun x μ1 => ∃ ds, x = .tup ds ∧ Ls ((List.range ds.length).map fun (i : Nat) => .pr [.int (c + (i : Int)), ds.getD i .non]) μ1 := rfl
theorem u_raise1 {C : Addr} {fld : Str} {okd : D → Prop} {φ : DE} {Δ : DEnds} : dRaise1 C fld okd φ Ψ Δ δ μ = φ Ψ δ μ fun x μ1 => okd x ∧ Ψ (.mk C (some ([fld], [x]))) δ μ1 := rfl
theorem u_slS {φ : DE} {ol oh : XP → DEnv → Sto → (Option Int → Sto → Prop) → Prop} : dSlS φ ol oh Ψ δ μ Φ = φ Ψ δ μ fun x μ1 => ol Ψ δ μ1 fun lo μ2 => oh Ψ δ μ2 fun hi μ3 => ∃ z, x = .str z ∧ z.length ≤ 100000 ∧ Φ (.str (cutS z lo hi)) μ3 := rfl
def cListStr : DC := fun xs μ Φ => ∃ z : Str, xs = [.str z] ∧ z.length ≤ 100000 ∧ Φ (.lst (z.cps.toList.map fun c => .str ⟨#[c]⟩)) μ
theorem w_listStr {s : Str} : cListStr [.str s] μ Φ = ((TL.tl s).length ≤ 100000 ∧ Φ (.lst ((TL.tl s).map fun c => .str ⟨#[c]⟩)) μ) := propext ⟨fun ⟨z, e, h1, q⟩ => by cases e; exact ⟨h1, q⟩, fun ⟨h1, q⟩ => ⟨s, rfl, h1, q⟩⟩
end
end DW
set_option Elab.async false
set_option linter.all false
set_option maxRecDepth 100000
namespace DW
open PySem PySem.Spec PyProof.Rows L2
structure Two (μ : Sto) (p st : Addr) (L c : List D) (μ' : Sto) : Prop where
  hp : μ p = none
  ne : st ≠ p
  pL : μ' p = some (.lst L)
  sc : μ' st = some (.lst c)
  ot : ∀ a, a ≠ p → a ≠ st → μ' a = μ a
theorem Two.start {μ : Sto} {p st : Addr} {L c : List D} (hp : μ p = none) (hs : μ st = some (.lst c)) : Two μ p st L c (sset μ p (.lst L)) := by
  have ne : st ≠ p := fun z => by rw [z, hp] at hs; cases hs
  exact ⟨hp, ne, sset_same, by rw [sset_ne ne]; exact hs, fun a h _ => sset_ne h⟩
theorem Two.setS {μ μ' : Sto} {p st : Addr} {L c c2 : List D} (T : Two μ p st L c μ') : Two μ p st L c2 (sset μ' st (.lst c2)) :=
  ⟨T.hp, T.ne, by rw [sset_ne (Ne.symm T.ne)]; exact T.pL, sset_same, fun a h1 h2 => by rw [sset_ne h2]; exact T.ot a h1 h2⟩
theorem Two.setP {μ μ' : Sto} {p st : Addr} {L L2 c : List D} (T : Two μ p st L c μ') : Two μ p st L2 c (sset μ' p (.lst L2)) :=
  ⟨T.hp, T.ne, sset_same, by rw [sset_ne T.ne]; exact T.sc, fun a h1 h2 => by rw [sset_ne h1]; exact T.ot a h1 h2⟩
theorem Two.sub {μ μ' : Sto} {p st : Addr} {L c : List D} (T : Two μ p st L c μ') : Sub (sset μ st (.lst c)) μ' := fun a x e => by
  by_cases h : a = st
  · subst h; rw [sset_same] at e; rw [T.sc]; exact e
  · rw [sset_ne h] at e
    have h1 : a ≠ p := fun z => by rw [z, T.hp] at e; cases e
    rw [T.ot a h1 h]; exact e
theorem Two.del {μ μ' : Sto} {p st : Addr} {L c : List D} (T : Two μ p st L c μ') : sdel μ' p = sset μ st (.lst c) := by
  funext a
  unfold sdel
  by_cases h : a = p
  · subst h; rw [if_pos rfl, sset_ne (Ne.symm T.ne), T.hp]
  · rw [if_neg h]
    by_cases h2 : a = st
    · subst h2; rw [sset_same, T.sc]
    · rw [sset_ne h2]; exact T.ot a h h2
theorem atI_last {xs : List D} {d : D} : atI (xs ++ [d]) (-1) = some d := by
  unfold atI ixN
  rw [if_neg (by omega), if_pos (by rw [List.length_append, List.length_singleton]; omega)]
  show (xs ++ [d])[(-1 + (((xs ++ [d]).length : Nat) : Int)).toNat]? = some d
  have e : (-1 + (((xs ++ [d]).length : Nat) : Int)).toNat = xs.length := by rw [List.length_append, List.length_singleton]; omega
  rw [e, List.getElem?_append_right (Nat.le_refl _), Nat.sub_self]
  rfl
/-- a comprehension whose items are drawn from the state at st -/
theorem lcG_drawN {Ψ : XP} {Φ : DK} {n : Nat} {φ : DE} {δw : DEnv} {μ1 : Sto} {xs : List D} {st : Addr} (Sc : List D → Prop) (Inv : Nat → List D → Prop) {c : List D} (hz : xs.length ≤ 100000)
    (hst : μ1 st = some (.lst c)) (h0 : Sc c) (hI : Inv 0 [])
    (hs : ∀ (i : Nat) (d : D) (μ2 : Sto) (X : DK) (acc c : List D), xs[i]? = some d → μ2 st = some (.lst c) → Sc c → Inv i acc → acc.length = i →
      (∀ y c', Sc c' → Inv (i + 1) (acc ++ [y]) → X y (sset μ2 st (.lst c'))) → φ Ψ (δw.set n (some d)) μ2 X)
    (hd : ∀ acc c, Inv xs.length acc → acc.length = xs.length → Sc c → Φ (.lst acc) (sset μ1 st (.lst c))) : LcG (eName n) dYes φ δw Ψ xs μ1 Φ := fun p hp => by
  refine ⟨fun i μ' => ∃ acc c, Two μ1 p st acc c μ' ∧ Sc c ∧ Inv i acc ∧ acc.length = i, ⟨[], c, .start hp hst, h0, hI, rfl⟩, ?_, ?_⟩
  · rintro i d μ2 hi ⟨acc, c, T, s, I, hl⟩
    have hlt : i < xs.length := (List.getElem?_eq_some_iff.mp hi).1
    refine ⟨fun _ => ?_, fun z => nomatch z⟩
    exact hs i d μ2 _ acc c hi T.sc s I hl fun y c' s' I' => ⟨acc, T.setS.pL, by omega, _, c', T.setS.setP, s', I', by simp [hl]⟩
  · rintro μ2 ⟨acc, c, T, s, I, hl⟩
    exact ⟨acc, T.pL, by rw [T.del]; exact hd acc c I hl s⟩
section
variable {K : Fg} {μ : Sto} {Φ : DK} {Ψ : XP} {δ : DEnv}
theorem u_isE {a : Addr} {x : XD} {ψ : DA} : dIsE K a x ψ Ψ δ μ Φ = ψ Ψ δ μ fun xs μ1 => ∃ c b, xs = [.hd (.ref a), .hd c] ∧ kitE K x c = some b ∧ excE K x ∧ Φ (.bl b) μ1 := rfl
theorem w_isE {a : Addr} {c : V} {P : V → Bool → Prop} : (∃ c' b, [D.hd (.ref a), D.hd c] = [.hd (.ref a), .hd c'] ∧ P c' b) = ∃ b, P c b := propext ⟨fun ⟨c', b, e, q⟩ => by cases e; exact ⟨b, q⟩, fun ⟨b, q⟩ => ⟨c, b, rfl, q⟩⟩
theorem u_kitER {C T : Addr} {f : Option (List Str × List D)} : kitE K (.mk C f) (.ref T) = PySem.W.kitOne K (.ref C) (.ref T) := rfl
theorem u_kitET {C : Addr} {T : String} {f : Option (List Str × List D)} : kitE K (.mk C f) (.ty T) = PySem.W.kitOne K (.ref C) (.type T) := rfl
theorem u_excE {C : Addr} {f : Option (List Str × List D)} : excE K (.mk C f) = L2.ExcC K C := rfl
theorem u_xf {a C : Addr} {x : XD} {f : Str} {φ : DE} : dXf a x C f φ Ψ δ μ Φ = φ Ψ δ μ fun y μ1 => y = .hd (.ref a) ∧ ∃ (ns : List Str) (ds : List D) (i : Nat) (d : D), x = .mk C (some (ns, ds)) ∧ ns[i]? = some f ∧ ns.Nodup ∧ ds[i]? = some d ∧ Φ d μ1 := rfl
theorem w_xf1 {C : Addr} {f : Str} {d : D} {P : D → Prop} : (∃ (ns : List Str) (ds : List D) (i : Nat) (d' : D), XD.mk C (some ([f], [d])) = .mk C (some (ns, ds)) ∧ ns[i]? = some f ∧ ns.Nodup ∧ ds[i]? = some d' ∧ P d') = P d := propext ⟨fun ⟨ns, ds, i, d', e, h1, _, h2, q⟩ => by
  cases e
  cases i with
  | zero => cases h2; exact q
  | succ i => simp at h1, fun q => ⟨[f], [d], 0, d, rfl, rfl, by simp, rfl, q⟩⟩
end
end DW
set_option Elab.async false
set_option linter.all false
set_option maxRecDepth 100000
set_option maxHeartbeats 4000000
namespace DW
open PySem PySem.Spec PyProof.Rows L2
section layer
variable {X : Cx} {CX : CXT} {k : Nat} {f C : Addr} {fd : FuncData} {ps : List Str} {sp : Sp} {E : L2.St → XK} {x m : Str} {p pos apos : Pos} {e o : Expr} {es : List Expr} {ta : TE} {t : TA}
theorem run_makeS {pins : List (Addr × Obj)} {σ : L2.St} {H : Hp} {s : Shared} {Q : VK} {us : List Value} {vs : List V} (M : Mk X.K C f) (F : FnOk X.prog X.w X.K X.mg X.base CX k f fd ps sp) (hr : Room (k + 1) X.A) (hb : Binds X.K fd ps [])
    (hx : ∀ σ, PassesAt CX X σ (E σ)) (I : Inv X pins σ H s) (r : Vals vs us)
    (h : ∀ x dx, H x = none → H dx = none → dx ≠ x → sp (.ref x :: vs) (upd (upd H dx (.own x)) x (.ins C dx [])) (fun v H2 => v = .non ∧ Q (.ref x) H2) (E σ)) :
    wpAny (model X.prog X.w) X.A (call (.ref C) us) (EP X pins σ Q) X.xe s := by
  have hq := h (s.heap.objs.size + 1) s.heap.objs.size (I.hok.fresh (Nat.le_succ _)) (I.hok.fresh (Nat.le_refl _)) (Nat.ne_of_lt (Nat.lt_succ_self _))
  have I2 := Inv.made (C := C) I
  have r2 : Vals (V.ref (s.heap.objs.size + 1) :: vs) (Value.ref (s.heap.objs.size + 1) :: us) := .cons rfl r
  have hl : (Value.ref (s.heap.objs.size + 1) :: us).length = ps.length := by
    have e := r2.length
    rw [F.len _ _ _ _ hq] at e
    exact e.symm
  have hb2 := hb _ (Value.ref (s.heap.objs.size + 1) :: us) I2.kIn (by rw [List.append_nil]; exact hl)
  rw [List.append_nil] at hb2
  refine wpAny_call (make_map (f := f) I.kIn M.makes M.init (beq_iff_eq.mp M.fn) (codeAny_mono (F.run _ X.stack _ _ ⟨Value.ref (s.heap.objs.size + 1) :: us, []⟩ (Value.ref (s.heap.objs.size + 1) :: us) _ _ (E σ) (hr.make C us [])
    (I2.env0.make C us []) hb2 r2 hq) fun r s' hq' => ?_))
  cases r with
  | error e => exact hx σ pins _ _ e s' I2 hq'
  | ok fl =>
    cases fl with
    | ret u =>
      obtain ⟨v, H', I3, rv, ev, q3⟩ := I2.after hq'
      subst ev
      exact ⟨rv, ⟨V.ref (s.heap.objs.size + 1), H', I3, rfl, q3⟩⟩
    | next => exact False.elim hq'
    | brk => exact False.elim hq'
    | cont => exact False.elim hq'
def tMakeS (C : Addr) (sp : Sp) (E : L2.St → XK) (t : TA) : TE := fun σ H Q => t σ H fun vs H1 => ∀ x dx, H1 x = none → H1 dx = none → dx ≠ x → sp (.ref x :: vs) (upd (upd H1 dx (.own x)) x (.ins C dx [])) (fun v H2 => v = .non ∧ Q (.ref x) H2) (E σ)
theorem pe_makeS (M : Mk X.K C f) (F : FnOk X.prog X.w X.K X.mg X.base CX k f fd ps sp) (hr : Room (k + 1) X.A) (hg : Gl X x) (hm : X.mg x = some (.ref C)) (hb : Binds X.K fd ps []) (hx : ∀ σ, PassesAt CX X σ (E σ))
    (ha : PA X (e :: es) t) (hdb : (x == ("__debug__" : Str)) = false := by decide) (he : starEach (e :: es) X.env = (false, eval e X.env) :: starEach es X.env := by rfl) (hpl : (backTo pos (starEach es X.env)).any (·.1) = false := by rfl) :
    PE X (.Call (.Name x p) (e :: es) [] pos) (tMakeS C sp E t) := by
  refine ⟨fun pins s σ H Q I h => ?_⟩
  refine wpAny_Call_Name_kw (ld_glob I hg hm ?_ hdb)
  refine PySem.W.callWith_K (h₀ := X.base) I.ok.mod.kin M.kp (thn (ha.run pos pins s σ H _ I h) fun us s1 ⟨vs, H1, I1, r, q⟩ => ⟨I1.kIn, ?_⟩) he hpl
  exact run_makeS M F hr hb hx I1 r q
def tMethX (C : Addr) (m : Str) (sp : Sp) (E : L2.St → XK) (ta : TE) (t : TA) : TE := fun σ H Q => ta σ H fun x H1 => ∃ a dx fs, x = .ref a ∧ H1 a = some (.ins C dx fs) ∧ fs.lookup m = none ∧ t σ H1 fun vs H2 => sp (x :: vs) H2 Q (E σ)
theorem pe_methX {pl : Sem Bool} (he : PE X o ta) (c : Cls X.K C) (hm : Meth X.K C m f) (F : FnOk X.prog X.w X.K X.mg X.base CX k f fd ps sp) (hr : Room k X.A) (hb : Binds X.K fd ps []) (hx : ∀ σ, PassesAt CX X σ (E σ)) (ha : PA X (e :: es) t)
    (hst : starEach (e :: es) X.env = (false, eval e X.env) :: starEach es X.env := by rfl) (hpl : (backTo pos (starEach es X.env)).any (·.1) = false := by rfl)
    (ht : eval (.Call (.Attribute o m apos) (e :: es) [] pos) X.env = (do
      let ov ← eval o X.env
      standAt apos.atName
      let (f, first) ← holding [ov] (getMethod ov m pl)
      callWith pos f first (backTo pos (starEach (e :: es) X.env)) (backToKw pos (keywordEach [] X.env))) := by rfl) :
    PE X (.Call (.Attribute o m apos) (e :: es) [] pos) (tMethX C m sp E ta t) := by
  refine ⟨fun pins s σ H Q I h => ?_⟩
  refine PySem.W.methodCall_KW (pl := pl) (thn (he.run pins s σ H _ I h) fun u s1 ⟨x, H1, I1, rx, a, dx, fs, ex, ea, l, q⟩ => ?_) ht
  subst ex
  obtain rfl : u = Value.ref a := rx
  refine getmeth_ok I1 ea c hm l ?_
  refine PySem.W.callWith_K (first := [.ref a]) (h₀ := X.base) I.ok.mod.kin hm.kp (thn (ha.run pos pins s1 σ H1 _ I1 q) fun us s2 ⟨vs, H2, I2, r, q2⟩ => ⟨I2.kIn, ?_⟩) hst hpl
  exact run_fnS (us := .ref a :: us) (vs := .ref a :: vs) F hr hb (hx σ) I2 (.cons rfl r) q2
end layer
section
variable {K : Fg} {B : Bx K} {ta tv : TE} {φ φa φv : DE} {tas : TA} {ψ : DA} {μ : Sto} {H : Hp}
theorem Rep.obj_inv {v : V} {C : Addr} {ns : List Str} {ds : List D} (h : Rep K μ H v (.obj C ns ds)) : ∃ a dx us, v = .ref a ∧ H a = some (.ins C dx (ns.zip us)) ∧ NM μ a ∧ us.length = ns.length ∧ Reps K μ H us ds := by
  cases h with
  | obj h1 h2 h3 h4 _ => exact ⟨_, _, _, rfl, h1, h2, h3, h4⟩
/-- C(..), C a class whose __init__ keeps c -/
def dMakeS (C : Addr) (c : Con) (ψ : DA) : DE := fun Ψ δ μ Φ => ψ Ψ δ μ fun ds μ1 => ∀ x, μ1 x = none → c (.hd (.ref x) :: ds) (sset μ1 x (.ins C [] [])) (fun d μ2 => d = .non ∧ ∃ ns es, μ2 x = some (.ins C ns es) ∧ Φ (.obj C ns es) (sdel μ2 x)) (fun y μ2 => Ψ y δ μ2)
theorem sMakeS {C : Addr} {c : Con} (a : SA B tas ψ) : SE B (tMakeS C (spOf K c) (WE B.W) tas) (dMakeS C c ψ) := fun σ H δ μ Φ Q S q k =>
  a σ H δ μ _ _ S q fun vs H1 xs μ1 S1 e1 r1 q1 x dx hx hdx hne => by
    have hx' : upd H1 dx (.own x) x = none := by rw [upd_ne (Ne.symm hne)]; exact hx
    have ev0 : Evo μ1 H1 μ1 (upd H1 dx (.own x)) := .new hdx
    have st0 : StoOk K μ1 (upd H1 dx (.own x)) := S1.sto.new hdx
    have ev1 : Evo μ1 (upd H1 dx (.own x)) (sset μ1 x (.ins C [] [])) (upd (upd H1 dx (.own x)) x (.ins C dx [])) := .newC st0 hx'
    have st1 : StoOk K (sset μ1 x (.ins C [] [])) (upd (upd H1 dx (.own x)) x (.ins C dx [])) := st0.cell ev1 ⟨dx, [], upd_same, rfl, .nil⟩
    have ev := ev0.trans ev1
    refine ⟨sset μ1 x (.ins C [] []), .hd (.ref x) :: xs, _, _, st1, .hd _ (r1.mono ev), q1 x (S1.sto.fresh hx), fun v H' d μ' e s r ⟨hd, ns, es, hc, hq⟩ => ?_, fun cls dd H' y μ' e s rx hΨ => ?_⟩
    · subst hd
      obtain rfl := Rep.non_inv r
      refine ⟨rfl, ?_⟩
      obtain ⟨dx', us, hH, hl, hr⟩ := s x _ hc
      have sb : Sub (sdel μ' x) μ' := sdel_sub
      have e2 : Evo μ' H' (sdel μ' x) H' := sb.evo
      exact k _ H' _ (sdel μ' x) (S1.step (ev.trans (e.trans e2)) (sb.sto s)) (e1.trans (ev.trans (e.trans e2))) (.obj hH (NM.of sdel_same) hl (hr.mono e2) .nil) hq
    · exact B.hW cls dd σ H' y δ μ' (S1.step (ev.trans e) s) rx hΨ
/-- x.f, x an instance at rest -/
def dFld (C : Addr) (NS : List Str) (i : Nat) (φ : DE) : DE := fun Ψ δ μ Φ => φ Ψ δ μ fun x μ1 => ∃ ds d, x = .obj C NS ds ∧ ds[i]? = some d ∧ Φ d μ1
theorem sFldO {C : Addr} {NS : List Str} {f : Str} {i : Nat} (c : Cls K C) (n : NoAttr K C f) (hi : NS[i]? = some f) (hn : NS.Nodup) (a : SE B ta φ) : SE B (tFld K ta f) (dFld C NS i φ) := fun σ H δ μ Φ Q S q k =>
  a σ H δ μ _ _ S q fun v H1 x μ1 S1 e1 r1 q1 => by
    obtain ⟨ds, d, rfl, hd, q⟩ := q1
    obtain ⟨p, dx, us, rfl, hH, hnm, hl, hr⟩ := Rep.obj_inv r1
    obtain ⟨u, hu, ru⟩ := hr.get hd
    exact ⟨p, C, dx, _, u, rfl, hH, c, n, zip_lookup hn hi hu, k u H1 d μ1 S1 e1 ru q⟩
theorem putF_new {f : Str} {v : V} : ∀ {ns : List Str} {us : List V}, f ∉ ns → us.length = ns.length → putF f v (ns.zip us) = (ns ++ [f]).zip (us ++ [v])
  | [], [], _, _ => rfl
  | [], _ :: _, _, h => by simp at h
  | _ :: _, [], _, h => by simp at h
  | n :: ns, u :: us, hf, hl => by
    show (if n = f then (n, v) :: ns.zip us else (n, u) :: putF f v (ns.zip us)) = _
    rw [if_neg (fun e => hf (by rw [e]; exact List.mem_cons_self)), putF_new (fun h => hf (List.mem_cons_of_mem _ h)) (by simpa using hl)]
    rfl
/-- self.f = value, a new field of an instance in the making -/
def dSetF (C : Addr) (f : Str) (φv φa : DE) : DSt := fun Ψ Δ δ μ => φv Ψ δ μ fun y μ1 => φa Ψ δ μ1 fun x μ2 => ∃ a ns ds, x = .hd (.ref a) ∧ μ2 a = some (.ins C ns ds) ∧ f ∉ ns ∧ ns.length < 1000 ∧ Δ.nx δ (sset μ2 a (.ins C (ns ++ [f]) (ds ++ [y])))
theorem sSetF {C : Addr} {f : Str} (c : Cls K C) (n : NoAttr K C f) (b : SE B tv φv) (a : SE B ta φa) : SS B (sFld K ta tv f) (dSetF C f φv φa) := fun D Δ σ H δ μ E S q =>
  b σ H δ μ _ _ S q fun w H1 y μ1 S1 e1 r1 q1 => a σ H1 δ μ1 _ _ S1 q1 fun v H2 x μ2 S2 e2 r2 q2 => by
    obtain ⟨p, ns, ds, rfl, hc, hf, hz, q⟩ := q2
    obtain rfl := Rep.hd_inv r2
    obtain ⟨dx, us, hH, hl, hr⟩ := S2.sto p _ hc
    refine ⟨p, C, dx, _, rfl, hH, c, n, by rw [List.length_zip, hl, Nat.min_self]; exact hz, ?_⟩
    rw [putF_new hf hl]
    have ev : Evo μ2 H2 (sset μ2 p (.ins C (ns ++ [f]) (ds ++ [y]))) (upd H2 p (.ins C dx ((ns ++ [f]).zip (us ++ [w])))) := .cell hc fun h => h.notI hc
    exact E.nx σ _ δ _ (S2.step ev (S2.sto.cell ev ⟨dx, us ++ [w], upd_same, by simp [hl], (hr.append (r1.mono e2)).mono ev⟩)) q
/-- x.m(..), x an instance at rest -/
def dMethX (C : Addr) (NS : List Str) (c : Con) (φ : DE) (ψ : DA) : DE := fun Ψ δ μ Φ => φ Ψ δ μ fun x μ1 => ∃ es, x = .obj C NS es ∧ ψ Ψ δ μ1 fun ds μ2 => c (x :: ds) μ2 Φ fun y μ3 => Ψ y δ μ3
theorem lookup_zip_none {m : Str} : ∀ {ns : List Str} {us : List V}, m ∉ ns → (ns.zip us).lookup m = none
  | [], _, _ => rfl
  | _ :: _, [], _ => rfl
  | n :: ns, u :: us, h => by
    show (match m == n with | true => some u | false => (ns.zip us).lookup m) = none
    have : (m == n) = false := beq_eq_false_iff_ne.mpr fun e => h (by rw [e]; exact List.mem_cons_self)
    rw [this]
    exact lookup_zip_none fun z => h (List.mem_cons_of_mem _ z)
end
end DW
set_option Elab.async false
set_option linter.all false
set_option maxRecDepth 100000
set_option maxHeartbeats 4000000
namespace DW
open PySem PySem.Spec PyProof.Rows L2
section
variable {P : Program} {w : World} {A : Around} {E : Value → Shared → Prop} {s : Shared}
abbrev noneIn (w : World) : Obj := { cls := .type "set", dict := none, data := .set #[] 0 (.fresh 0 0 (!w.params.followText "set-order")) }
/-- what set.__init__ leaves of a list of ints -/
def SetMade (w : World) (s : Shared) (zs : List Int) (s2 : Shared) : Prop := ∃ (hp : Heap) (tk c : Nat), s2 = { s with heap := hp, toks := tk } ∧ SetR w hp s.heap.objs.size (fun j => decide (j ∈ zs)) c ∧ c ≤ zs.length ∧ ∀ b o, s.heap.get? b = some o → hp.get? b = some o
theorem set_init_list {l : Addr} {arr : Array Value} (zs : List Int) (cold : A.handled = none) (isl : s.heap.IsList l arr) (zz : IntsAre arr.toList zs) (few : zs.length + 1 < scanBound) :
    codeAny (model P w) A (.call (.builtin "set.__init__") ⟨[.ref s.heap.objs.size, .ref l], []⟩) (wants (fun r s2 => r = .none ∧ SetMade w s zs s2) E) { s with heap := s.heap.push (noneIn w) } := by
  have many : arr.size = zs.length := by
    have q := IntsAre.length zz
    rw [Array.length_toList] at q
    exact q
  have S0 : (s.heap.push (noneIn w)).get? s.heap.objs.size = some (noneIn w) := Heap.get?_push_size _ rfl
  refine codeAny_call_builtin F.called_set.init.plain F.entry_set_init (check_set_init_1 (s := { s with heap := s.heap.push (noneIn w) }) ⟨_, S0, rfl⟩ ?_)
  have il : (s.heap.push (noneIn w)).IsList l arr := isl.push _
  have ll : l < s.heap.objs.size := by obtain ⟨o, ho, _⟩ := isl; exact Heap.lt_size ho
  obtain ⟨⟨c0, d0, x0, sl0⟩, ho, hc, n0, hd⟩ := id il
  simp only at hc hd
  subst hc hd
  have g1 := F.sub_list_set
  have g2 := F.sub_list_frozenset
  have g3 : (Value.type "list" == Value.type "dict") = false := by decide
  unfold Builtin.«set.__init__» noKeywords Builtin.Frozenset.updateFrom
  generalize hPI : pyIter = PI
  wp_walk
  subst hPI
  refine wpAny_pyIter_list il (wpAny_bind (wpAny_runValue ?_))
  have z1 : (s.heap.push (noneIn w)).objs.size = s.heap.objs.size + 1 := Heap.size_push ..
  have cold3 : A.in1.in1.handled = none := by simp [cold]
  have apart : l ≠ (s.heap.push (noneIn w)).objs.size := by rw [z1]; exact Nat.ne_of_lt (Nat.lt_succ_of_lt ll)
  have apart2 : s.heap.objs.size ∉ [(s.heap.push (noneIn w)).objs.size, l] := by
    rw [z1]
    intro q
    rcases List.mem_cons.1 q with q | q
    · exact absurd q (Nat.ne_of_lt (Nat.lt_succ_self _))
    · exact absurd (List.mem_singleton.1 q) (Nat.ne_of_gt ll)
  have vals : ∀ (i : Nat) (v : Value), arr[i]? = some v → ∃ k t, zs[i]? = some k ∧ v = .int k t := fun i v hv => by
    have lt : i < zs.length := by rw [← many]; exact (Array.getElem?_eq_some_iff.mp hv).1
    obtain ⟨t, e⟩ := zz.int_at i v (by rw [Array.getElem?_toList]; exact hv)
    exact ⟨zs[i], t, List.getElem?_eq_getElem lt, by rw [e, List.getD_eq_getElem?_getD, List.getElem?_eq_getElem lt] <;> rfl⟩
  have start : ((s.heap.push (noneIn w)).push { cls := .type "list_iterator", data := .fields #[.ref l, .int 0 0] }).get? s.heap.objs.size = some (noneIn w) := Heap.get?_push_of_some _ S0
  refine set_update_ints ((Walks.list cold3 _ l apart arr).toS) s.heap.objs.size apart2 zs many few vals (arr.size - 0) 0 { s with heap := (s.heap.push (noneIn w)).push { cls := .type "list_iterator", data := .fields #[.ref l, .int 0 0] } } (by omega) (Nat.zero_le _) ⟨⟨_, Heap.get?_push_size _ rfl, rfl, rfl⟩, il.push _⟩ ?h0 ?hf
  · exact ⟨0, Nat.le_refl 0, setR_new_at start⟩
  intro s2 c mv lc hr
  obtain ⟨hp2, gg, dd, tt, oo⟩ := s2
  obtain rfl : gg = s.gens := mv.gens
  obtain rfl : dd = s.drawn := mv.drawn
  obtain rfl : oo = s.os := mv.os
  rw [many] at lc
  refine wpAny_pure (wpAny_pure ⟨rfl, hp2, tt, c, rfl, hr, lc, fun b o e => ?_⟩)
  have lb : b < s.heap.objs.size := Heap.lt_size e
  refine mv.heap b o (fun q => ?_) (Heap.get?_push_of_some _ (Heap.get?_push_of_some _ e))
  rcases List.mem_cons.1 q with q | q
  · exact absurd q (Nat.ne_of_lt lb)
  · have := List.mem_singleton.1 q; rw [z1] at this; exact absurd this (Nat.ne_of_lt (Nat.lt_succ_of_lt lb))
theorem set_of_list {l : Addr} {arr : Array Value} (zs : List Int) {G : Value → Shared → Prop} (cold : A.handled = none) (isl : s.heap.IsList l arr) (zz : IntsAre arr.toList zs) (few : zs.length + 1 < scanBound)
    (fin : ∀ s2, SetMade w s zs s2 → G (.ref s.heap.objs.size) s2) : wpAny (model P w) A (call (.type "set") [.ref l]) G E s := by
  obtain ⟨c0, t0, m0⟩ := F.called_set.mro
  have a1 := F.called_set.made; have a2 := F.called_set.sub; have a3 := F.called_set.notType; have a4 := F.called_set.canCreate
  have a5 := F.typeCall_set_1 (.ref l)
  refine wpAny_call (codeAny_of_tree (show wpAny _ _ (callAny (.type "set") _) _ _ _ from wpAny_pure ⟨Code.quiet_builtin _ (by decide +kernel), codeAny_builtin F.entry_type_call ?_⟩))
  rw [Around.under_plain (weight_type_call_type "set" [.ref l] []) rfl]
  repeat (any_goals (first | assumption | wp_step))
  refine codeAny_mono (code_set_led1 (.ref l) (E := E) (Q₁ := fun u s1 => u = .ref s.heap.objs.size ∧ s1 = { s with heap := s.heap.push (noneIn w) }) ⟨rfl, rfl⟩) fun r s1 hr => ?_
  match r, hr with
  | .error e, hr => exact hr
  | .ok .next, hr => exact hr.elim
  | .ok .brk, hr => exact hr.elim
  | .ok .cont, hr => exact hr.elim
  | .ok (.ret u), hr =>
    obtain ⟨rfl, rfl⟩ := hr
    have T : Shared.TypeIs { s with heap := s.heap.push (noneIn w) } (.ref s.heap.objs.size) "set" := ⟨_, Heap.get?_push_size _ rfl, rfl⟩
    have a6 := F.called_set.init.lookup; have a7 := F.called_set.init.bind (.ref s.heap.objs.size)
    repeat (any_goals (first | assumption | wp_step))
    refine codeAny_mono (set_init_list zs (A := _) (E := E) (by simp [cold]) isl zz few) fun r2 s2 hr2 => ?_
    match r2, hr2 with
    | .error e, hr2 => exact hr2
    | .ok .next, hr2 => exact hr2.elim
    | .ok .brk, hr2 => exact hr2.elim
    | .ok .cont, hr2 => exact hr2.elim
    | .ok (.ret u), hr2 =>
      obtain ⟨rfl, hm⟩ := hr2
      repeat (any_goals (first | assumption | wp_step))
      exact fin _ hm
end
theorem nodup_le : ∀ {l m : List Int}, l.Nodup → (∀ x ∈ l, x ∈ m) → l.length ≤ m.length
  | [], _, _, _ => Nat.zero_le _
  | x :: l, m, nd, h => by
    have hx := h x List.mem_cons_self
    obtain ⟨n1, n2⟩ := List.nodup_cons.mp nd
    have := nodup_le (m := m.erase x) n2 fun y hy => (List.mem_erase_of_ne (fun (e : y = x) => n1 (by rw [← e]; exact hy))).mpr (h y (List.mem_cons_of_mem _ hy))
    rw [List.length_erase_of_mem hx] at this
    have := List.length_pos_of_mem hx
    rw [List.length_cons]
    omega
theorem SetR.few {w : World} {h : Heap} {a : Addr} {S : Int → Bool} {n : Nat} (R : SetR w h a S n) {m : List Int} (hm : ∀ k, S k = true → k ∈ m) : n ≤ m.length := by
  obtain ⟨o, es, ep, t, ho, hex, hd, g, nd, hs, hb, hf, hn, hr, hl⟩ := R
  have := nodup_le nd (m := m) fun x hx => hm x ((hs x).mpr hx)
  rw [List.length_map, Array.length_toList, hn] at this
  exact this
def tSortSet (K : Fg) (ta : TE) : TE := fun σ H Q => ta σ H fun x H1 => ∃ (l : Addr) (zs : List Int), x = .ref l ∧ (SqL K H1 l (zs.map V.int) ∨ SqT K H1 l (zs.map V.int)) ∧ (zs.length ≤ 1000 ∧ ∃ bd : List Int, bd.length < 64 ∧ ∀ z ∈ zs, z ∈ bd) ∧
  ∀ (ns : List Int) (p : Addr), ns.Pairwise (· < ·) → (∀ k : Int, k ∈ ns ↔ k ∈ zs) → H1 p = none → Q (.ref p) (upd H1 p (.lst (ns.map V.int)))
theorem pe_sortSet {X : Cx} {a : Expr} {ta : TE} {p p2 q pos : Pos} (hg : Gl X "sorted") (hm : X.mg "sorted" = none) (hg2 : Gl X "set") (hm2 : X.mg "set" = none) (ha : PE X a ta) (hc : X.calm = true := by rfl)
    (na : starEach [a] X.env = (false, eval a X.env) :: starEach [] X.env := by rfl) : PE X (.Call (.Name "sorted" p) [.Call (.Name "set" p2) [a] [] q] [] pos) (tSortSet X.K ta) := by
  refine ⟨fun pins s σ H Q I h => Call_ (ld_blt I hg hm boot_sorted (callWith_builtin1 (args_cons (Call_ (ld_blt I hg2 hm2 boot_set ?_)) rfl) rfl rfl))⟩
  refine callWith_type1 (args_cons (thn (ha.run pins s σ H _ I h) fun v s1 ⟨x, H1, I1, r1, l, zs, ex, hq, ⟨h1000, bd, h64, hbd⟩, k⟩ => args_nil ?_) na) na rfl
  subst ex
  cases r1
  have last : ∀ s2, SetMade X.w s1 zs s2 → wpAny (model X.prog X.w) X.A (spliced (backTo pos (starEach [] X.env))) (fun vs s3 => wpAny (model X.prog X.w) X.A (call (.builtin "sorted") (Value.ref s1.heap.objs.size :: vs)) (EP X pins σ Q) X.xe s3) X.xe s2 := by
    rintro s2 ⟨hp, tk, c, es, R0, hcz, kp⟩
    have I2 : Inv X pins σ H1 s2 := by rw [es]; exact I1.kept (t' := tk) kp
    have R : SetR X.w s2.heap s1.heap.objs.size (fun j => decide (j ∈ zs)) c := by rw [es]; exact R0
    refine args_nil (sorted_set (s := s2) R (I2.ok.hd hc) (Nat.lt_of_le_of_lt (SetR.few R fun k hk => hbd k (by simpa using hk)) h64) fun s4 r out c2 ns kk gg oo fresh at4 are asc mem len => ?_)
    have room : (ns.map V.int).length ≤ sizeLine := by rw [List.length_map, len, sizeLine_eq]; omega
    have none4 : H1 r = none := I2.hok.fresh fresh
    have J : Inv X pins σ (upd H1 r (.lst (ns.map V.int))) { s2 with heap := s4.heap, gens := s4.gens, drawn := s4.drawn, toks := s4.toks } :=
      I2.call (ch := []) (Un.laid kk fresh none4) (I2.hok.laid kk fresh ⟨room, out.toList, c2, vals_of_ints are, at4⟩) (by rw [gg]; exact I2.bare) (fun _ z => nomatch z)
    have same : s4 = { s2 with heap := s4.heap, gens := s4.gens, drawn := s4.drawn, toks := s4.toks } := by
      cases s4; cases s2; cases oo; rfl
    rw [same]
    exact ⟨.ref r, _, J, rfl, k ns r asc (fun z => (mem z).trans decide_eq_true_iff) none4⟩
  have small : zs.length + 1 < scanBound := by unfold scanBound; omega
  rcases hq with hq | hq
  · obtain ⟨its, r, pl, hz⟩ := I1.list hq
    exact set_of_list zs (I1.ok.hd hc) pl.isList (by simpa using r.ints) small last
  · obtain ⟨its, r, pl, hz⟩ := I1.tuple hq
    exact call_set_tupI zs (I1.ok.hd hc) pl (by simpa using r.ints) small fun hp tk c R hcz kp => last _ ⟨hp, tk, c, rfl, R, hcz, kp⟩
def dSortSet (φ : DE) : DE := fun Ψ δ μ Φ => φ Ψ δ μ fun x μ1 => ∃ zs : List Int, Items μ1 x (zs.map .int) ∧ (zs.length ≤ 1000 ∧ ∃ bd : List Int, bd.length < 64 ∧ ∀ z ∈ zs, z ∈ bd) ∧ ∀ ns : List Int, ns.Pairwise (· < ·) → (∀ k : Int, k ∈ ns ↔ k ∈ zs) → Φ (.lst (ns.map .int)) μ1
theorem reps_of_ints {K : Fg} {μ : Sto} {H : Hp} : ∀ ns : List Int, Reps K μ H (ns.map V.int) (ns.map D.int)
  | [] => .nil
  | n :: ns => .int n (reps_of_ints ns)
theorem sSortSet {K : Fg} {B : Bx K} {ta : TE} {φ : DE} (a : SE B ta φ) : SE B (tSortSet K ta) (dSortSet φ) := fun σ H δ μ Φ Q S q k =>
  a σ H δ μ _ _ S q fun v H1 x μ1 S1 e1 r1 q1 => by
    obtain ⟨zs, hi, hz, q2⟩ := q1
    obtain ⟨l, us, rfl, h1, h2⟩ := hi.ok S1.sto r1
    have e := reps_int_inv h2
    subst e
    exact ⟨l, zs, rfl, h1, hz, fun ns p asc mem hp => k _ _ _ μ1 (S1.step (.new hp) (S1.sto.new hp)) (e1.trans (.new hp)) (rep_lst S1.sto hp (reps_of_ints ns)) (q2 ns asc mem)⟩
end DW
set_option Elab.async false
set_option linter.all false
set_option maxRecDepth 100000
set_option maxHeartbeats 4000000
namespace DW
open PySem PySem.Spec PyProof.Rows L2
section
variable {K : Fg} {B : Bx K} {ta tb : TE} {φ φ' φa φb : DE} {tas : TA} {ψ : DA}
def cMaxL : DC := fun xs μ Φ => ∃ x ns, xs = [x] ∧ Items μ x (ns.map .int) ∧ isTup x = false ∧ ns ≠ [] ∧ ∀ m, m ∈ ns → (∀ y, y ∈ ns → y ≤ m) → Φ (.int m) μ
def cMinL : DC := fun xs μ Φ => ∃ x ns, xs = [x] ∧ Items μ x (ns.map .int) ∧ isTup x = false ∧ ns ≠ [] ∧ ∀ m, m ∈ ns → (∀ y, y ∈ ns → m ≤ y) → Φ (.int m) μ
theorem rcMaxL : RC K (rMax K) cMaxL := fun H μ vs ds Φ Q s r q k => by
  obtain ⟨x, ns, rfl, hi, ht, hne, q⟩ := q
  obtain ⟨v, rfl, r1⟩ := reps1 r
  obtain ⟨a, us, rfl, h1, h2⟩ := hi.okL s r1 ht
  have e := reps_intsV h2
  subst e
  exact ⟨a, ns, rfl, h1, List.length_pos_iff.2 hne, fun m hm hmax => k _ H _ μ .refl s (.int _ .nil) (q m hm hmax)⟩
theorem rcMinL : RC K (rMin K) cMinL := fun H μ vs ds Φ Q s r q k => by
  obtain ⟨x, ns, rfl, hi, ht, hne, q⟩ := q
  obtain ⟨v, rfl, r1⟩ := reps1 r
  obtain ⟨a, us, rfl, h1, h2⟩ := hi.okL s r1 ht
  have e := reps_intsV h2
  subst e
  exact ⟨a, ns, rfl, h1, List.length_pos_iff.2 hne, fun m hm hmax => k _ H _ μ .refl s (.int _ .nil) (q m hm hmax)⟩
def oRepL : DO := fun x y μ Φ => ∃ ds k, x = .lst ds ∧ y = .int k ∧ k ≤ 100000 ∧ -100000 ≤ k ∧ ds.length * k.toNat ≤ 100000 ∧ Φ (.lst (List.replicate k.toNat ds).flatten) μ
theorem Reps.rep {μ : Sto} {H : Hp} {vs : List V} {ds : List D} (h : Reps K μ H vs ds) : ∀ k : Nat, Reps K μ H (List.replicate k vs).flatten (List.replicate k ds).flatten
  | 0 => .nil
  | k + 1 => by rw [List.replicate_succ, List.replicate_succ, List.flatten_cons, List.flatten_cons]; exact h.append (h.rep k)
theorem roRepL : RO K rRep oRepL := fun H μ v w d e Φ Q s0 r1 r2 h k => by
  obtain ⟨ds, n, rfl, rfl, h1, h2, h3, q⟩ := h
  obtain rfl := Rep.int_inv r2
  obtain ⟨a, vs, rfl, h4, h5⟩ := Rep.lst_inv r1
  refine ⟨a, n, vs, rfl, rfl, h4.1, by omega, by omega, ?_, fun p hp => k _ _ _ μ (.new hp) (s0.new hp) (rep_lst s0 hp (h5.rep _)) q⟩
  rw [h5.length]; exact sz h3
def dLstR1 (φ : DE) : DE := fun Ψ δ μ Φ => φ Ψ δ μ fun x μ1 => ∃ j, x = .int j ∧ 0 ≤ j ∧ j ≤ 100000 ∧ Φ (.lst (rngD 0 j.toNat)) μ1
theorem rgV_reps {μ : Sto} {H : Hp} {b : Int} : Reps K μ H (rgV 0 b) (rngD 0 b.toNat) := by
  have e1 : rgV 0 b = ((List.range b.toNat).map fun i : Nat => (0 : Int) + i).map V.int := by unfold rgV; rw [Int.sub_zero, List.map_map]; rfl
  have e2 : rngD 0 b.toNat = ((List.range b.toNat).map fun i : Nat => (0 : Int) + i).map D.int := by unfold rngD; rw [List.map_map]; rfl
  rw [e1, e2]
  exact reps_of_ints _
theorem sLstR1 (a : SE B ta φ) : SE B (tLstRg (tRg1 ta)) (dLstR1 φ) := fun σ H δ μ Φ Q S q k =>
  a σ H δ μ _ _ S q fun v H1 x μ1 S1 e1 r1 q1 => by
    obtain ⟨j, rfl, h0, h1, q2⟩ := q1
    obtain rfl := Rep.int_inv r1
    exact ⟨j, rfl, .of_le (by omega) (by omega) (by omega) h0, fun p hp => k _ _ _ μ1 (S1.step (.new hp) (S1.sto.new hp)) (e1.trans (.new hp)) (rep_lst S1.sto hp rgV_reps) q2⟩
def iZipL (φ φ' : DE) : DI := fun Ψ δ μ Φ => φ Ψ δ μ fun x μ1 => φ' Ψ δ μ1 fun y μ2 => ∃ xs ys, x = .lst xs ∧ y = .lst ys ∧ Φ ((xs.zip ys).map fun p => .pr [p.1, p.2]) μ2
theorem siZipL {te tf : TE} (a : SE B te φ) (b : SE B tf φ') : SI B (RZ.iZipA K (tCons te (tCons tf tNil))) (iZipL φ φ') := fun σ H δ μ Φ R S q k =>
  a σ H δ μ _ _ S q fun v H1 x μ1 S1 e1 r1 q1 => b σ H1 δ μ1 _ _ S1 q1 fun w H2 y μ2 S2 e2 r2 q2 => by
    obtain ⟨xs, ys, rfl, rfl, q2⟩ := q2
    obtain ⟨p, vs, rfl, h1, h2⟩ := Rep.lst_inv (r1.mono e2)
    obtain ⟨p', us, rfl, h3, h4⟩ := Rep.lst_inv r2
    refine ⟨p, p', vs, us, rfl, .inl ⟨h1.sq, h3.sq, k _ _ H2 μ2 S2 (e1.trans e2) (fun i H3 μ3 s3 e3 => ?_) q2⟩⟩
    rw [List.length_map, List.length_zip]
    have l1 := h2.length
    have l2 := h4.length
    refine ⟨fun hi => ?_, fun hi => ⟨vs, us, (h1.mono e3).sq, (h3.mono e3).sq, by omega⟩⟩
    have hv : i < vs.length := by omega
    have hu : i < us.length := by omega
    refine ⟨⟨vs, us, vs[i], us[i], (h1.mono e3).sq, (h3.mono e3).sq, List.getElem?_eq_getElem hv, List.getElem?_eq_getElem hu⟩, fun z H' ⟨T, v1, v2, ez, hT, eH, hy1, hy2⟩ => ?_⟩
    subst ez eH
    obtain ⟨d1, hd1, rd1⟩ := (h2.mono e3).getV (hy1 vs (h1.mono e3).sq)
    obtain ⟨d2, hd2, rd2⟩ := (h4.mono e3).getV (hy2 us (h3.mono e3).sq)
    refine ⟨.pr [d1, d2], ?_, s3.new hT, .new hT, rep_tup s3 hT (.cons rd1 (.cons rd2 .nil))⟩
    rw [List.getElem?_map, (List.getElem?_zip_eq_some (z := (d1, d2))).mpr ⟨hd1, hd2⟩]
    rfl
def iEnL (φ : DE) : DI := fun Ψ δ μ Φ => φ Ψ δ μ fun x μ1 => ∃ ds, x = .lst ds ∧ Φ ((List.range ds.length).map fun (i : Nat) => .pr [.int (i : Int), ds.getD i .non]) μ1
theorem siEnumL {te : TE} (a : SE B te φ) : SI B (iEnum K (tCons te tNil)) (iEnL φ) := fun σ H δ μ Φ R S q k =>
  a σ H δ μ _ _ S q fun v H1 x μ1 S1 e1 r1 q1 => by
    obtain ⟨ds, rfl, q2⟩ := q1
    obtain ⟨p, vs, rfl, h1, h2⟩ := Rep.lst_inv r1
    refine ⟨p, vs, rfl, h1.sq, k _ _ H1 μ1 S1 e1 (fun i H3 μ3 s3 e3 => ?_) q2⟩
    have hle := h2.length
    rw [List.length_map, List.length_range]
    refine ⟨fun hi => ?_, fun hi => ⟨vs, (h1.mono e3).sq, by omega⟩⟩
    have hi : i < vs.length := by omega
    refine ⟨⟨vs, vs[i], (h1.mono e3).sq, List.getElem?_eq_getElem hi⟩, fun z H' ⟨T, v1, ez, hT, eH, hy⟩ => ?_⟩
    subst ez eH
    obtain ⟨d, hd, rd⟩ := (h2.mono e3).getV (hy vs (h1.mono e3).sq)
    have hl : i < ds.length := by omega
    refine ⟨.pr [.int i, d], ?_, s3.new hT, .new hT, rep_tup s3 hT (.int _ (.cons rd .nil))⟩
    rw [List.getElem?_map, List.getElem?_range hl]
    have : ds.getD i .non = d := by rw [List.getD_eq_getElem?_getD, hd]; rfl
    rw [Option.map_some, this]
/-- xs.index(y), flat -/
def dIdx (φa φb : DE) : DE := fun Ψ δ μ Φ => φa Ψ δ μ fun x μ1 => ∃ ds, x = .lst ds ∧ φb Ψ δ μ1 fun y μ2 => flatD y = true ∧ ds.all flatD = true ∧ ∃ (j : Nat) (z : D), ds[j]? = some z ∧ eqF z y = true ∧ (∀ (m : Nat) (z' : D), m < j → ds[m]? = some z' → eqF z' y = false) ∧ Φ (.int j) μ2
theorem sIdx (a : SE B ta φa) (b : SE B tb φb) : SE B (tBM K "list" (rIndex K) ta (tCons tb tNil)) (dIdx φa φb) := fun σ H δ μ Φ Q S q k =>
  a σ H δ μ _ _ S q fun v H1 x μ1 S1 e1 r1 q1 => by
    obtain ⟨ds, rfl, q1⟩ := q1
    obtain ⟨p, us, rfl, h1, h2⟩ := Rep.lst_inv r1
    refine ⟨.inl ⟨rfl, us, h1.sq⟩, b σ H1 δ μ1 _ _ S1 q1 fun w H2 y μ2 S2 e2 r2 q2 => ?_⟩
    obtain ⟨fy, fd, j, z, hj, hz, hno, q2⟩ := q2
    have h2' := h2.mono e2
    obtain ⟨u, hu, ru⟩ := h2'.get hj
    refine ⟨p, us, w, j, u, rfl, rfl, (h1.mono e2).sq, flatD_ok r2 fy, flatAll_ok h2' fd, hu, ?_, fun m z' hm hz' => ?_, k _ _ _ μ2 S2 (e1.trans e2) (.int _ .nil) q2⟩
    · rw [eqF_ok ru r2 (List.all_eq_true.1 fd z (List.mem_of_getElem? hj)) fy]; exact hz
    · obtain ⟨d', hd', rd'⟩ := h2'.getV hz'
      rw [eqF_ok rd' r2 (List.all_eq_true.1 fd d' (List.mem_of_getElem? hd')) fy]
      exact hno m d' hm hd'
theorem seqIndex_nat {i n : Nat} (h : i < n) : seqIndex? (i : Int) n = some i := by
  unfold seqIndex?
  have h0 : ¬ (i : Int) < 0 := by omega
  simp only [h0, if_false]
  have h1 : (decide (0 ≤ (i : Int)) && decide ((i : Int) < (n : Int))) = true := by simp; omega
  rw [if_pos h1]
  simp
/-- o.pop(i), o a handle -/
def dPopAt (φa φb : DE) : DE := fun Ψ δ μ Φ => φa Ψ δ μ fun x μ1 => ∃ a ds, x = .hd (.ref a) ∧ μ1 a = some (.lst ds) ∧ φb Ψ δ μ1 fun y μ2 => ∃ es, μ2 a = some (.lst es) ∧ es.length ≤ 100000 ∧ ∃ (i : Nat) (d : D), y = .int i ∧ es[i]? = some d ∧ Φ d (sset μ2 a (.lst (es.eraseIdx i)))
theorem Reps.eraseIdx {μ : Sto} {H : Hp} {vs : List V} {ds : List D} (h : Reps K μ H vs ds) (i : Nat) : Reps K μ H (vs.eraseIdx i) (ds.eraseIdx i) := by
  rw [List.eraseIdx_eq_take_drop_succ, List.eraseIdx_eq_take_drop_succ]
  exact (h.take _).append (h.drop _)
theorem sPopAt (a : SE B ta φa) (b : SE B tb φb) : SE B (tBM K "list" rPopAt ta (tCons tb tNil)) (dPopAt φa φb) := fun σ H δ μ Φ Q S q k =>
  a σ H δ μ _ _ S q fun v H1 x μ1 S1 e1 r1 q1 => by
    obtain ⟨p, ds, rfl, hp, q1⟩ := q1
    obtain rfl := Rep.hd_inv r1
    obtain ⟨us, h1, h2⟩ := S1.sto _ _ hp
    refine ⟨.inl ⟨rfl, us, .of h1⟩, b σ H1 δ μ1 _ _ S1 q1 fun w H2 y μ2 S2 e2 r2 q2 => ?_⟩
    obtain ⟨es, hp2, hz, i, d, rfl, hi, q2⟩ := q2
    obtain rfl := Rep.int_inv r2
    obtain ⟨ws, h3, h4⟩ := S2.sto _ _ hp2
    obtain ⟨u, hu, ru⟩ := h4.get hi
    have hl := h4.length
    have hil : i < es.length := (List.getElem?_eq_some_iff.mp hi).1
    have e3 : Evo μ2 H2 (sset μ2 p (.lst (es.eraseIdx i))) (upd H2 p (.lst (ws.eraseIdx i))) := own_evo hp2
    obtain ⟨e4, s4⟩ := own_upd S2.sto hp2 ((h4.eraseIdx i).mono e3)
    refine ⟨p, ws, i, i, u, rfl, rfl, h3, by omega, by omega, seqIndex_nat (by omega), hu, k _ _ _ _ (S2.step e4 s4) ((e1.trans e2).trans e4) (ru.mono e4) q2⟩
end
def rCntT (K : Fg) : V → List V → Hp → VK → Prop := fun x xs H Q => ∃ (p : Addr) (ns : List Int) (k : Int), x = .ref p ∧ xs = [.int k] ∧ SqT K H p (ns.map V.int) ∧ Q (.int (ns.count k : Nat)) H
theorem mt_tcount {X : Cx} : MtR X "tuple.count" (rCntT X.K) := by
  intro pins s σ H x xs v us Q I rx rxs h
  obtain ⟨p, ns, k, rfl, rfl, hs, q⟩ := h
  cases rx
  obtain ⟨u, rfl, t, rfl⟩ := vals1 rxs
  obtain ⟨its, rv, ⟨⟨cls, dd, dt, sl⟩, ho, hc, n, hd⟩, hz⟩ := I.tuple hs
  simp only at hc hd
  subst hc hd
  have zz := ints_of_vals rv
  refine call_meets PySem.F.slot_tuple_count ⟨_, ho, rfl⟩ PySem.F.entry_tuple_count (PySem.F.args_tuple_count_2 _ _) (SeqAt.tuple_countAt p its.toArray n dd sl (.int k t) (eqk k)) ⟨ho, fun y hy => (eqk_gives zz y (by simpa using hy)).at _ _, ?_⟩
  have many : its.toArray.toList.countP (eqk k) = ns.count k := eqk_count zz
  exact ⟨.int (ns.count k : Nat), H, I.tok _, ⟨s.toks, by rw [many]⟩, q⟩
theorem flat_intsV (ns : List Int) : (ns.map V.int).all flatV = true := by
  rw [List.all_map]
  exact List.all_eq_true.mpr fun _ _ => rfl
def rIdxT (K : Fg) : V → List V → Hp → VK → Prop := fun x xs H Q => ∃ (p : Addr) (ns : List Int) (k : Int) (j : Nat), x = .ref p ∧ xs = [.int k] ∧ SqT K H p (ns.map V.int) ∧ ns[j]? = some k ∧ (∀ m, m < j → ns[m]? ≠ some k) ∧ Q (.int (j : Nat)) H
theorem mt_tindex {X : Cx} : MtR X "tuple.index" (rIdxT X.K) := by
  intro pins s σ H x xs v us Q I rx rxs h
  obtain ⟨p, ns, k, j, rfl, rfl, hs, hj, hno, q⟩ := h
  cases rx
  obtain ⟨u, rfl, t, rfl⟩ := vals1 rxs
  obtain ⟨its, rv, ⟨⟨cls, dd, dt, sl⟩, ho, hc, n, hd⟩, hz⟩ := I.tuple hs
  simp only at hc hd
  subst hc hd
  have many : its.toArray.size = ns.length := by rw [List.size_toArray, ← rv.length, List.length_map]
  have jl : j < its.toArray.size := by rw [many]; exact (List.getElem?_eq_some_iff.mp hj).1
  have each : ∀ (m : Nat) (hm : m < its.toArray.size), ∃ y t', ns[m]? = some y ∧ its.toArray[m] = Value.int y t' := fun m hm => by
    have hm' : m < ns.length := by omega
    obtain ⟨w, hw, t', ew⟩ := rv.get (i := m) (x := .int ns[m]) (by simp [hm'])
    have e := (List.getElem?_eq_some_iff.mp hw).2
    exact ⟨ns[m], t', List.getElem?_eq_getElem hm', by rw [← ew, ← e]; simp⟩
  refine call_meets PySem.F.slot_tuple_index ⟨_, ho, rfl⟩ PySem.F.entry_tuple_index (PySem.F.args_tuple_index_2 _ _) (TI.tuple_indexAt p its.toArray n dd sl (.int k t) (eqU (.int k)) j jl ?_ ?_)
    ⟨ho, fun w hw => mem_eqAt (x := .int k) ⟨t, rfl⟩ rfl rv (flat_intsV ns) w (by simpa using hw), ⟨.int (j : Nat), H, I.tok _, ⟨_, rfl⟩, q⟩⟩
  · obtain ⟨y, t', y1, y2⟩ := each j jl
    rw [hj] at y1
    cases y1
    rw [y2]
    show (k == k) = true
    exact beq_self_eq_true k
  · intro m hm hmj
    obtain ⟨y, t', y1, y2⟩ := each m hm
    rw [y2]
    show (y == k) = false
    exact beq_eq_false_iff_ne.mpr fun e => hno m hmj (e ▸ y1)
section
variable {K : Fg} {B : Bx K} {ta tb : TE} {φ φ' φa φb : DE} {tas : TA} {ψ : DA}
/-- a method of a tuple that is known to have no dict -/
def tBMT (K : Fg) (r : V → List V → Hp → VK → Prop) (to : TE) (t : TA) : TE := fun σ H Q => to σ H fun x H1 => (∃ p, x = .ref p ∧ ((∃ (o : Obj) (us : List V), H1 p = some (.frz o (.tup us)) ∧ o.dict = none ∧ o.cls = .type "tuple") ∨ ∃ o, K.lookup p = some o ∧ o.cls = .type "tuple" ∧ o.dict = none)) ∧ t σ H1 fun xs H2 => r x xs H2 Q
theorem pe_bmT {X : Cx} {o e : Expr} {es : List Expr} {to : TE} {t : TA} {name : Str} {apos cpos : Pos} {id : String} {r : V → List V → Hp → VK → Prop} (pa : PlainAttrs "tuple") (slot : Slot "tuple" name id) (hty : typeOf (.builtin id) = pure (.type "method_descriptor"))
    (hm : MtR X id r) (ho : PE X o to) (ha : PA X (e :: es) t) (hbase : attributeBase o name X.env (eval o X.env) = eval o X.env := by rfl)
    (few : ((backTo cpos (starEach (e :: es) X.env)).all (fun x => !x.1) && (backToKw cpos (keywordEach [] X.env)).all (fun x => x.1.isSome) && decide ((e :: es).length + ([] : List Keyword).length + (if ([] : List Keyword).isEmpty then 0 else 1) < 30)) = true := by rfl)
    (line : (apos.endLine == cpos.line) = true := by rfl) (hs : starEach (e :: es) X.env = (false, eval e X.env) :: starEach es X.env := by rfl) (plain : (backTo cpos (starEach es X.env)).any (·.1) = false := by rfl) :
    PE X (.Call (.Attribute o name apos) (e :: es) [] cpos) (tBMT X.K r to t) := by
  refine ⟨fun pins s σ H Q I h => wpAny_Call_method_late hbase few line rfl (thn (ho.run pins s σ H _ I h) fun v s1 ⟨x, H1, I1, r1, ⟨p, ex, hp⟩, q1⟩ => ?_)⟩
  subst ex
  obtain rfl : v = Value.ref p := r1
  have known : ∃ ob, s1.heap.get? p = some ob ∧ ob.cls = .type "tuple" ∧ ob.dict = none := by
    rcases hp with ⟨ob, us, h1, h2, h3⟩ | ⟨ob, h1, h2, h3⟩
    · exact ⟨ob, (I1.hok p _ h1).1, h3, h2⟩
    · exact ⟨ob, I1.kIn p ob h1, h2, h3⟩
  obtain ⟨ob, k1, k2, k3⟩ := known
  refine ⟨"tuple", id, pa, slot, hty, ⟨ob, k1, k2⟩, fun a ea => by cases ea; exact ⟨ob, k1, k3⟩, ?_⟩
  have A := ha.run cpos pins s1 σ H1 _ I1 q1
  rw [hs] at A ⊢
  exact Calls.callWith_builtin (by show (false || (backTo cpos (starEach es X.env)).any (·.1)) = false; rw [plain]; rfl) (Calls.evalArgs_plain (thn A fun us s2 ⟨vs, H2, I2, r2, q2⟩ => hm pins s2 σ H2 (.ref p) vs (.ref p) us Q I2 (show RelV (.ref p) (.ref p) from rfl) r2 q2))
theorem TupAt.bare {μ : Sto} {H : Hp} {a : Addr} {us : List V} (h : TupAt K μ H a us) : (∃ (o : Obj) (us : List V), H a = some (.frz o (.tup us)) ∧ o.dict = none ∧ o.cls = .type "tuple") ∨ ∃ o, K.lookup a = some o ∧ o.cls = .type "tuple" ∧ o.dict = none :=
  h.elim (fun ⟨o, h1, h2, h3, _⟩ => .inl ⟨o, us, h1, h2, h3⟩) fun ⟨o, _, _, h1, h2, h3, _⟩ => .inr ⟨o, h1, h2, h3⟩
def dCntT (φa φb : DE) : DE := fun Ψ δ μ Φ => φa Ψ δ μ fun x μ1 => ∃ ns : List Int, x = .tup (ns.map .int) ∧ φb Ψ δ μ1 fun y μ2 => ∃ k : Int, y = .int k ∧ Φ (.int (ns.count k : Nat)) μ2
theorem sCntT (a : SE B ta φa) (b : SE B tb φb) : SE B (tBMT K (rCntT K) ta (tCons tb tNil)) (dCntT φa φb) := fun σ H δ μ Φ Q S q k =>
  a σ H δ μ _ _ S q fun v H1 x μ1 S1 e1 r1 q1 => by
    obtain ⟨ns, rfl, q1⟩ := q1
    obtain ⟨p, us, rfl, h1, h2⟩ := Rep.tup_inv r1
    have e := reps_intsV h2
    subst e
    refine ⟨⟨p, rfl, h1.bare⟩, b σ H1 δ μ1 _ _ S1 q1 fun w H2 y μ2 S2 e2 r2 q2 => ?_⟩
    obtain ⟨j, rfl, q2⟩ := q2
    obtain rfl := Rep.int_inv r2
    exact ⟨p, ns, j, rfl, rfl, (h1.mono e2).sq, k _ _ _ μ2 S2 (e1.trans e2) (.int _ .nil) q2⟩
def dIdxT (φa φb : DE) : DE := fun Ψ δ μ Φ => φa Ψ δ μ fun x μ1 => ∃ ns : List Int, x = .tup (ns.map .int) ∧ φb Ψ δ μ1 fun y μ2 => ∃ (k : Int) (j : Nat), y = .int k ∧ ns[j]? = some k ∧ (∀ m, m < j → ns[m]? ≠ some k) ∧ Φ (.int j) μ2
theorem sIdxT (a : SE B ta φa) (b : SE B tb φb) : SE B (tBMT K (rIdxT K) ta (tCons tb tNil)) (dIdxT φa φb) := fun σ H δ μ Φ Q S q k =>
  a σ H δ μ _ _ S q fun v H1 x μ1 S1 e1 r1 q1 => by
    obtain ⟨ns, rfl, q1⟩ := q1
    obtain ⟨p, us, rfl, h1, h2⟩ := Rep.tup_inv r1
    have e := reps_intsV h2
    subst e
    refine ⟨⟨p, rfl, h1.bare⟩, b σ H1 δ μ1 _ _ S1 q1 fun w H2 y μ2 S2 e2 r2 q2 => ?_⟩
    obtain ⟨z, j, rfl, hj, hno, q2⟩ := q2
    obtain rfl := Rep.int_inv r2
    exact ⟨p, ns, z, j, rfl, rfl, (h1.mono e2).sq, hj, hno, k _ _ _ μ2 S2 (e1.trans e2) (.int _ .nil) q2⟩
end
end DW
set_option Elab.async false
set_option linter.all false
set_option maxRecDepth 100000
set_option maxHeartbeats 4000000
namespace DW
open PySem PySem.Spec PyProof.Rows L2
section
variable {M : Model} {A : Around} {E : Value → Shared → Prop} {s : Shared}
theorem callWith_tyKw {pos : Pos} {T : String} {x : Sem Value} {rest : List (Bool × Sem Value)} {kws : List (Option Str × Sem Value)} {Q : Value → Shared → Prop} (plain : ((false, x) :: rest).any (·.1) = false) (named : kws.any (·.1.isNone) = false) (all : kws.all (·.1.isSome) = true)
    (h : wpAny M A (spliced ((false, x) :: rest)) (fun vs s1 => wpAny M A (evalAll (kws.map (·.2))) (fun ks s2 => wpAny M A (call (.type T) vs ((kws.filterMap (·.1)).zip ks)) Q E s2) E s1) E s) :
    wpAny M A (callWith pos (.type T) [] ((false, x) :: rest) kws) Q E s := by
  have h2 : wpAny M A (evalArgs (.type T) true ((false, x) :: rest) kws) (fun a s1 => wpAny M A (call (.type T) ([] ++ a.pos) a.kw) Q E s1) E s := evalArgs_kwB all h
  unfold callWith
  refine wpAny_bind (wpAny_holding (wpAny_mono h2 (fun a s1 h1 => wpAny_bind (wpAny_standAt ?_)) fun _ _ z => z))
  simp only [plain, named, Bool.or_false]
  exact wpAny_bind (wpAny_pure (wpAny_bind (wpAny_mono h1 (fun r s2 hr => wpAny_bind (wpAny_holding (wpAny_point (wpAny_pure hr)))) fun _ _ z => z)))
end
theorem pi_enumTk {X : Cx} {e : Expr} {ta : TA} {p p2 kp pos tpos : Pos} {j kk : Nat} {n : Int} {elts : List Expr} (hg : Gl X "enumerate") (hm : X.mg "enumerate" = none) (ha : PA X [e] ta) (h0 : -(2 ^ 63) ≤ n) (h1 : n < 2 ^ 63)
    (hs : starEach [e] X.env = [(false, eval e X.env)] := by rfl) :
    PI X (.Tuple elts kk tpos) (.Call (.Name "enumerate" p) [e] [⟨some "start", .Constant (.int n) j p2, kp⟩] pos) (iEnumT X.K n ta) := by
  refine ⟨fun pins s σ H R I h => ?_⟩
  refine wpAny_Call_Name_kw (ld_blt I hg hm boot_enumerate ?_)
  have A := ha.run pos pins s σ H _ I h
  rw [hs] at A ⊢
  refine callWith_tyKw rfl rfl rfl (thn A fun us s1 ⟨vs, H1, I1, r1, q1⟩ => kws_cons ?_)
  obtain ⟨a, xs, rfl, hq, q⟩ := q1
  rw [Vals.ref1 r1]
  obtain ⟨its, rv, p', hz⟩ := I1.tuple hq
  refine thn ((pe_int (X := X) (i := n)).run pins s1 σ H1 (fun v H2 => v = .int n ∧ H2 = H1) I1 ⟨rfl, rfl⟩) fun u s2 ⟨v, H2, I2, r2, ev, eh⟩ => kws_nil ?_
  subst ev
  rw [eh] at I2
  obtain ⟨t, rfl⟩ := r2
  obtain ⟨its2, rv2, p2', hz2⟩ := I2.tuple hq
  exact enum_begins_start (begins_tuple a its2.toArray) p2' h0 h1 fun h' he ho hsz hk => wpAny_pyIter_enum he (pie_enumT I2 hq he ho hk q)
structure DictOk (K : Fg) (w : World) (d : Addr) (tbl : List (Str × D)) : Prop where
  kd : ∃ es n, KDict K w d es n
  at_ : ∀ z v, tbl.lookup z = some v → ∃ (u' : V) (u : Value), PySem.W.nsIn K d z = some (some u) ∧ RelV u' u ∧ ∀ μ H, Rep K μ H u' v
  no_ : ∀ z, tbl.lookup z = none → PySem.W.nsIn K d z = some none
section
variable {K : Fg} {B : Bx K} {ta tb : TE} {φa φb : DE} {w : World} {d : Addr} {tbl : List (Str × D)}
/-- d[z] -/
def oIxD (d : Addr) (tbl : List (Str × D)) : DO := fun x y μ Φ => x = .hd (.ref d) ∧ ∃ z v, y = .str z ∧ tbl.lookup z = some v ∧ Φ v μ
theorem roIxD (T : DictOk K w d tbl) : RO K (rIxD K w) (oIxD d tbl) := fun H μ v y e f Φ Q s r1 r2 q k => by
  obtain ⟨rfl, z, c, rfl, hl, q⟩ := q
  obtain rfl := Rep.hd_inv r1
  obtain rfl := Rep.str_inv r2
  obtain ⟨es, n, D0⟩ := T.kd
  obtain ⟨u', u, h1, h2, h3⟩ := T.at_ z c hl
  exact ⟨d, z, u', rfl, rfl, ⟨es, n, u, D0.at_, D0.lit, h1, h2⟩, k _ H _ μ .refl s (h3 μ H) q⟩
/-- z in d -/
def rInKd (K : Fg) (d : Addr) (neg : Bool) : R2 := fun x y H Q => ∃ (z : Str) (r : Option Value), x = .str z ∧ y = .ref d ∧ PySem.W.nsIn K d z = some r ∧ Q (.bl (if neg then !r.isSome else r.isSome)) H
theorem op_notInKd {X : Cx} (h : ∃ es n, KDict X.K X.w d es n) : OpR X (compareOp .NotIn) (rInKd X.K d true) := by
  obtain ⟨es, n, D0⟩ := h
  exact op_notIn_kd D0
def oInD (d : Addr) (tbl : List (Str × D)) (neg : Bool) : DO := fun x y μ Φ => y = .hd (.ref d) ∧ ∃ z, x = .str z ∧ Φ (.bl (if neg then !(tbl.lookup z).isSome else (tbl.lookup z).isSome)) μ
theorem roInD {neg : Bool} (T : DictOk K w d tbl) : RO K (rInKd K d neg) (oInD d tbl neg) := fun H μ v y e f Φ Q s r1 r2 q k => by
  obtain ⟨rfl, z, rfl, q⟩ := q
  obtain rfl := Rep.str_inv r1
  obtain rfl := Rep.hd_inv r2
  cases hl : tbl.lookup z with
  | some c =>
    obtain ⟨u', u, h1, h2, h3⟩ := T.at_ z c hl
    rw [hl] at q
    exact ⟨z, _, rfl, rfl, h1, k _ H _ μ .refl s (.bl _ .nil) q⟩
  | none =>
    rw [hl] at q
    exact ⟨z, _, rfl, rfl, T.no_ z hl, k _ H _ μ .refl s (.bl _ .nil) q⟩
end
def tCallF (i : Nat) (F : Addr → Sp → Prop) (E : L2.St → XK) (t : TA) : TE := fun σ H Q => ∃ f sp, F f sp ∧ σ[i]? = some (some (.ref f)) ∧ t σ H fun vs H1 => sp vs H1 Q (E σ)
theorem pe_callF {X : Cx} {CX : CXT} {k i : Nat} {F : Addr → Sp → Prop} {E : L2.St → XK} {x : Str} {e : Expr} {es : List Expr} {t : TA} {p pos : Pos} {ps : List Str}
    (hF : ∀ f sp, F f sp → ∃ fd, FnOk X.prog X.w X.K X.mg X.base CX k f fd ps sp ∧ PySem.W.keepIn X.K (.ref f) = true ∧ Binds X.K fd ps []) (hr : Room k X.A) (hx : ∀ σ, PassesAt CX X σ (E σ)) (hN : X.N[i]? = some x) (hv : Vis X.env.scope x) (ha : PA X (e :: es) t)
    (hd : (x == ("__debug__" : Str)) = false := by decide) (hcd : (x == ("__classdict__" : Str)) = false := by decide)
    (he : starEach (e :: es) X.env = (false, eval e X.env) :: starEach es X.env := by rfl) (hpl : (backTo pos (starEach es X.env)).any (·.1) = false := by rfl) : PE X (.Call (.Name x p) (e :: es) [] pos) (tCallF i F E t) := by
  refine ⟨fun pins s σ H Q I ⟨f, sp, hf, hs, h⟩ => ?_⟩
  obtain ⟨fd, ok, hk, hb⟩ := hF f sp hf
  refine wpAny_Call_Name_kw (thn ((pe_var (pos := p) (i := i) hN hv hd hcd).run pins s σ H (fun v H1 => v = .ref f ∧ H1 = H) I ⟨.ref f, hs, rfl, rfl⟩) fun u s1 ⟨v, H1, I1, r1, ev, eH⟩ => ?_)
  subst ev
  rw [eH] at I1
  cases r1
  refine PySem.W.callWith_K (h₀ := X.base) I.ok.mod.kin hk (thn (ha.run pos pins s1 σ H _ I1 h) fun us s2 ⟨vs, H2, I2, r, q⟩ => ⟨I2.kIn, ?_⟩) he hpl
  exact run_fnS ok hr hb (hx σ) I2 r q
section
variable {K : Fg} {B : Bx K} {tas : TA} {ψ : DA}
def dCallF (i : Nat) (F : Addr → Con → Prop) (ψ : DA) : DE := fun Ψ δ μ Φ => ∃ f c, F f c ∧ δ[i]? = some (some (.hd (.ref f))) ∧ ψ Ψ δ μ fun ds μ1 => c ds μ1 Φ fun y μ2 => Ψ y δ μ2
theorem sCallF {i : Nat} {F : Addr → Con → Prop} (a : SA B tas ψ) : SE B (tCallF i (fun f sp => ∃ c, F f c ∧ sp = spOf K c) (WE B.W) tas) (dCallF i F ψ) := fun σ H δ μ Φ Q S q k => by
  obtain ⟨f, c, hF, hi, q⟩ := q
  obtain ⟨v, ev, r⟩ := S.env.at_ i _ hi
  obtain rfl := Rep.hd_inv r
  refine ⟨f, _, ⟨c, hF, rfl⟩, ev, a σ H δ μ _ _ S q fun vs H1 ds μ1 S1 e1 r1 q1 => ?_⟩
  exact ⟨μ1, ds, Φ, fun y μ2 => B.Ψ y δ μ2, S1.sto, r1, q1, fun v H2 d μ2 e2 s2 r2 q2 => k v H2 d μ2 (S1.step e2 s2) (e1.trans e2) r2 q2, fun cls dd H2 y μ2 e2 s2 rx q2 => B.hW cls dd σ H2 y δ μ2 (S1.step e2 s2) rx q2⟩
end
end DW
set_option Elab.async false
set_option linter.all false
set_option maxRecDepth 100000
set_option maxHeartbeats 4000000
namespace DW
open PySem PySem.Spec PyProof.Rows L2
section
variable {K : Fg} {B : Bx K} {ta : TE} {tas : TA} {φ φ' φa φb φv : DE} {ψ : DA} {W : WX} {C : Addr} {NS : List Str} {m : Str} {c : Con}
theorem sMakeSW (hW : B.W = W) (a : SA B tas ψ) : SE B (tMakeS C (spOf K c) (WE W) tas) (dMakeS C c ψ) := by
  subst hW
  exact sMakeS a
theorem sCallFW {i : Nat} {F : Addr → Con → Prop} (hW : B.W = W) (a : SA B tas ψ) : SE B (tCallF i (fun f sp => ∃ c, F f c ∧ sp = spOf K c) (WE W) tas) (dCallF i F ψ) := by
  subst hW
  exact sCallF a
end
/-- a statement of a class's suite -/
def clsS : Stmt → Nat → Stmt
  | .ClassDef _ _ _ b _ _ _ _ _ _ _, j => b.getD j (.Pass ⟨0, 0, 0, 0⟩)
  | s, _ => s
section
variable {K : Fg} {φ φ' φa φb φv : DE} {ψ : DA} {Ψ : XP} {δ : DEnv} {μ : Sto} {Φ : DK} {Δ : DEnds} {C d : Addr} {NS : List Str} {i j : Nat} {c : Con} {f z : Str} {F : Addr → Con → Prop} {ds es : List D} {k : Int} {tbl : List (Str × D)} {n : Bool} {x : D}
theorem u_fld : dFld C NS i φ Ψ δ μ Φ = φ Ψ δ μ fun x μ1 => ∃ ds d, x = .obj C NS ds ∧ ds[i]? = some d ∧ Φ d μ1 := rfl
theorem w_fld {P : D → Prop} : (∃ es d, D.obj C NS ds = .obj C NS es ∧ es[i]? = some d ∧ P d) = ∃ d, ds[i]? = some d ∧ P d := propext ⟨fun ⟨es, d, e, h, q⟩ => by cases e; exact ⟨d, h, q⟩, fun ⟨d, h, q⟩ => ⟨_, d, rfl, h, q⟩⟩
theorem w_someE {y : D} {P : D → Prop} : (∃ d, some y = some d ∧ P d) = P y := propext ⟨fun ⟨_, e, q⟩ => by cases e; exact q, fun q => ⟨_, rfl, q⟩⟩
theorem u_setF : dSetF C f φv φa Ψ Δ δ μ = φv Ψ δ μ fun y μ1 => φa Ψ δ μ1 fun x μ2 => ∃ a ns ds, x = .hd (.ref a) ∧ μ2 a = some (.ins C ns ds) ∧ f ∉ ns ∧ ns.length < 1000 ∧ Δ.nx δ (sset μ2 a (.ins C (ns ++ [f]) (ds ++ [y]))) := rfl
theorem u_methX : dMethX C NS c φ ψ Ψ δ μ Φ = φ Ψ δ μ fun x μ1 => ∃ es, x = .obj C NS es ∧ ψ Ψ δ μ1 fun ds μ2 => c (x :: ds) μ2 Φ fun y μ3 => Ψ y δ μ3 := rfl
theorem w_objE {P : List D → Prop} : (∃ es, D.obj C NS ds = .obj C NS es ∧ P es) = P ds := propext ⟨fun ⟨_, e, q⟩ => by cases e; exact q, fun q => ⟨_, rfl, q⟩⟩
theorem u_makeS : dMakeS C c ψ Ψ δ μ Φ = ψ Ψ δ μ fun ds μ1 => ∀ x, μ1 x = none → c (.hd (.ref x) :: ds) (sset μ1 x (.ins C [] [])) (fun d μ2 => d = .non ∧ ∃ ns es, μ2 x = some (.ins C ns es) ∧ Φ (.obj C ns es) (sdel μ2 x)) (fun y μ2 => Ψ y δ μ2) := rfl
theorem u_sortSet : dSortSet φ Ψ δ μ Φ = φ Ψ δ μ fun x μ1 => ∃ zs : List Int, Items μ1 x (zs.map .int) ∧ (zs.length ≤ 1000 ∧ ∃ bd : List Int, bd.length < 64 ∧ ∀ z ∈ zs, z ∈ bd) ∧ ∀ ns : List Int, ns.Pairwise (· < ·) → (∀ k : Int, k ∈ ns ↔ k ∈ zs) → Φ (.lst (ns.map .int)) μ1 := rfl
theorem u_lstR1 : dLstR1 φ Ψ δ μ Φ = φ Ψ δ μ fun x μ1 => ∃ j, x = .int j ∧ 0 ≤ j ∧ j ≤ 100000 ∧ Φ (.lst (rngD 0 j.toNat)) μ1 := rfl
theorem u_iZipL {Φ : List D → Sto → Prop} : iZipL φ φ' Ψ δ μ Φ = φ Ψ δ μ fun x μ1 => φ' Ψ δ μ1 fun y μ2 => ∃ xs ys, x = .lst xs ∧ y = .lst ys ∧ Φ ((xs.zip ys).map fun p => D.pr [p.1, p.2]) μ2 := rfl
theorem u_iEnL {Φ : List D → Sto → Prop} : iEnL φ Ψ δ μ Φ = φ Ψ δ μ fun x μ1 => ∃ ds, x = .lst ds ∧ Φ ((List.range ds.length).map fun (i : Nat) => D.pr [.int (i : Int), ds.getD i .non]) μ1 := rfl
theorem u_idx : dIdx φa φb Ψ δ μ Φ = φa Ψ δ μ fun x μ1 => ∃ ds, x = .lst ds ∧ φb Ψ δ μ1 fun y μ2 => flatD y = true ∧ ds.all flatD = true ∧ ∃ (j : Nat) (z : D), ds[j]? = some z ∧ eqF z y = true ∧ (∀ (m : Nat) (z' : D), m < j → ds[m]? = some z' → eqF z' y = false) ∧ Φ (.int j) μ2 := rfl
theorem u_popAt : dPopAt φa φb Ψ δ μ Φ = φa Ψ δ μ fun x μ1 => ∃ a ds, x = .hd (.ref a) ∧ μ1 a = some (.lst ds) ∧ φb Ψ δ μ1 fun y μ2 => ∃ es, μ2 a = some (.lst es) ∧ es.length ≤ 100000 ∧ ∃ (i : Nat) (d : D), y = .int i ∧ es[i]? = some d ∧ Φ d (sset μ2 a (.lst (es.eraseIdx i))) := rfl
theorem u_cntT : dCntT φa φb Ψ δ μ Φ = φa Ψ δ μ fun x μ1 => ∃ ns : List Int, x = .tup (ns.map .int) ∧ φb Ψ δ μ1 fun y μ2 => ∃ k : Int, y = .int k ∧ Φ (.int (ns.count k : Nat)) μ2 := rfl
theorem u_idxT : dIdxT φa φb Ψ δ μ Φ = φa Ψ δ μ fun x μ1 => ∃ ns : List Int, x = .tup (ns.map .int) ∧ φb Ψ δ μ1 fun y μ2 => ∃ (k : Int) (j : Nat), y = .int k ∧ ns[j]? = some k ∧ (∀ m, m < j → ns[m]? ≠ some k) ∧ Φ (.int j) μ2 := rfl
theorem u_callF : dCallF i F ψ Ψ δ μ Φ = ∃ f c, F f c ∧ δ[i]? = some (some (.hd (.ref f))) ∧ ψ Ψ δ μ fun ds μ1 => c ds μ1 Φ fun y μ2 => Ψ y δ μ2 := rfl
theorem w_maxL : cMaxL [x] μ Φ = ∃ ns, Items μ x (ns.map .int) ∧ isTup x = false ∧ ns ≠ [] ∧ ∀ m, m ∈ ns → (∀ y, y ∈ ns → y ≤ m) → Φ (.int m) μ := propext ⟨fun ⟨_, ns, e, q⟩ => by cases e; exact ⟨ns, q⟩, fun ⟨ns, q⟩ => ⟨_, ns, rfl, q⟩⟩
theorem w_minL : cMinL [x] μ Φ = ∃ ns, Items μ x (ns.map .int) ∧ isTup x = false ∧ ns ≠ [] ∧ ∀ m, m ∈ ns → (∀ y, y ∈ ns → m ≤ y) → Φ (.int m) μ := propext ⟨fun ⟨_, ns, e, q⟩ => by cases e; exact ⟨ns, q⟩, fun ⟨ns, q⟩ => ⟨_, ns, rfl, q⟩⟩
theorem w_ixDc : oIxD d tbl (.hd (.ref d)) (.str z) μ Φ = ∃ v, tbl.lookup z = some v ∧ Φ v μ := propext ⟨fun ⟨_, _, v, e, h, q⟩ => by cases e; exact ⟨v, h, q⟩, fun ⟨v, h, q⟩ => ⟨rfl, _, v, rfl, h, q⟩⟩
theorem w_inDc : oInD d tbl n (.str z) (.hd (.ref d)) μ Φ = Φ (.bl (if n then !(tbl.lookup z).isSome else (tbl.lookup z).isSome)) μ := propext ⟨fun ⟨_, _, e, q⟩ => by cases e; exact q, fun q => ⟨rfl, _, rfl, q⟩⟩
theorem w_repL : oRepL (.lst ds) (.int k) μ Φ = (k ≤ 100000 ∧ -100000 ≤ k ∧ ds.length * k.toNat ≤ 100000 ∧ Φ (.lst (List.replicate k.toNat ds).flatten) μ) := propext ⟨fun ⟨_, _, e1, e2, q⟩ => by cases e1; cases e2; exact q, fun q => ⟨_, _, rfl, rfl, q⟩⟩
theorem w_listLs {P : List D → List D → Prop} : (∃ xs ys, D.lst ds = .lst xs ∧ D.lst es = .lst ys ∧ P xs ys) = P ds es := propext ⟨fun ⟨_, _, e1, e2, q⟩ => by cases e1; cases e2; exact q, fun q => ⟨_, _, rfl, rfl, q⟩⟩
end
end DW
set_option Elab.async false
set_option linter.all false
set_option maxRecDepth 100000
namespace DW
open PySem PySem.Spec PyProof.Rows L2
/-- items and tests drawn from the state at st -/
theorem lcG_drawG {Ψ : XP} {Φ : DK} {γ : DG} {θ : DT} {φ : DE} {δw : DEnv} {μ1 : Sto} {xs : List D} {st : Addr} (Sc : List D → Prop) (Inv : Nat → List D → Prop) {c : List D} (hz : xs.length ≤ 100000)
    (hst : μ1 st = some (.lst c)) (h0 : Sc c) (hI : Inv 0 [])
    (hs : ∀ (i : Nat) (d : D) (μ2 : Sto) (X : DK) (Y : Sto → Prop) (acc c : List D), xs[i]? = some d → μ2 st = some (.lst c) → Sc c → Inv i acc → acc.length ≤ i →
      (∀ y c', Sc c' → Inv (i + 1) (acc ++ [y]) → X y (sset μ2 st (.lst c'))) → (∀ c', Sc c' → Inv (i + 1) acc → Y (sset μ2 st (.lst c'))) →
      γ d δw μ2 fun δ3 μ3 => θ Ψ δ3 μ3 fun b μ4 => (b = true → φ Ψ δ3 μ4 X) ∧ (b = false → Y μ4))
    (hd : ∀ acc c, Inv xs.length acc → acc.length ≤ xs.length → Sc c → Φ (.lst acc) (sset μ1 st (.lst c))) : LcG γ θ φ δw Ψ xs μ1 Φ := fun p hp => by
  refine ⟨fun i μ' => ∃ acc c, Two μ1 p st acc c μ' ∧ Sc c ∧ Inv i acc ∧ acc.length ≤ i, ⟨[], c, .start hp hst, h0, hI, Nat.le_refl _⟩, ?_, ?_⟩
  · rintro i d μ2 hi ⟨acc, c, T, s, I, hl⟩
    have hlt : i < xs.length := (List.getElem?_eq_some_iff.mp hi).1
    refine hs i d μ2 _ _ acc c hi T.sc s I hl (fun y c' s' I' => ⟨acc, T.setS.pL, by omega, _, c', T.setS.setP, s', I', by simp; omega⟩) fun c' s' I' => ⟨acc, c', T.setS, s', I', by omega⟩
  · rintro μ2 ⟨acc, c, T, s, I, hl⟩
    exact ⟨acc, T.pL, by rw [T.del]; exact hd acc c I hl s⟩
theorem sset_comm {μ : Sto} {a b : Addr} {x y : Cell} (h : a ≠ b) : sset (sset μ a x) b y = sset (sset μ b y) a x := by
  funext e
  unfold sset
  by_cases h1 : e = a
  · subst h1; rw [if_neg h, if_pos rfl, if_pos rfl]
  · rw [if_neg h1, if_neg h1]
/-- the store changes in any way beside the list that grows -/
theorem lcG_sto {Ψ : XP} {Φ : DK} {γ : DG} {θ : DT} {φ : DE} {δw : DEnv} {μ1 : Sto} {xs : List D} (Inv : Nat → List D → Sto → Prop) (hz : xs.length ≤ 100000) (h0 : Inv 0 [] μ1)
    (hs : ∀ (i : Nat) (d : D) (ν : Sto) (p : Addr) (X : DK) (Y : Sto → Prop) (acc : List D), xs[i]? = some d → ν p = none → Inv i acc ν → acc.length ≤ i →
      (∀ y ν', ν' p = none → Inv (i + 1) (acc ++ [y]) ν' → X y (sset ν' p (.lst acc))) → (∀ ν', ν' p = none → Inv (i + 1) acc ν' → Y (sset ν' p (.lst acc))) →
      γ d δw (sset ν p (.lst acc)) fun δ3 μ3 => θ Ψ δ3 μ3 fun b μ4 => (b = true → φ Ψ δ3 μ4 X) ∧ (b = false → Y μ4))
    (hd : ∀ acc ν, Inv xs.length acc ν → acc.length ≤ xs.length → Φ (.lst acc) ν) : LcG γ θ φ δw Ψ xs μ1 Φ := fun p hp => by
  refine ⟨fun i μ' => ∃ acc ν, ν p = none ∧ μ' = sset ν p (.lst acc) ∧ Inv i acc ν ∧ acc.length ≤ i, ⟨[], μ1, hp, rfl, h0, Nat.le_refl _⟩, ?_, ?_⟩
  · rintro i d μ2 hi ⟨acc, ν, hν, rfl, I, hl⟩
    have hlt : i < xs.length := (List.getElem?_eq_some_iff.mp hi).1
    exact hs i d ν p _ _ acc hi hν I hl (fun y ν' h' I' => ⟨acc, sset_same, by omega, _, ν', h', sset_sset, I', by simp; omega⟩) fun ν' h' I' => ⟨acc, ν', h', rfl, I', by omega⟩
  · rintro μ2 ⟨acc, ν, hν, rfl, I, hl⟩
    exact ⟨acc, sset_same, by rw [show sdel (sset ν p (.lst acc)) p = ν from by first | exact sdel_sset hν | exact sdel_sset (h := hν) | (rw [sdel_sset]; exact hν)]; exact hd acc ν I hl⟩
/-- list(range(n)), a list that will change -/
def dLstR1O (φ : DE) : DE := fun Ψ δ μ Φ => φ Ψ δ μ fun x μ1 => ∃ j, x = .int j ∧ 0 ≤ j ∧ j ≤ 100000 ∧ ∀ p, μ1 p = none → Φ (.hd (.ref p)) (sset μ1 p (.lst (rngD 0 j.toNat)))
theorem sLstR1O {K : Fg} {B : Bx K} {ta : TE} {φ : DE} (a : SE B ta φ) : SE B (tLstRg (tRg1 ta)) (dLstR1O φ) := fun σ H δ μ Φ Q S q k =>
  a σ H δ μ _ _ S q fun v H1 x μ1 S1 e1 r1 q1 => by
    obtain ⟨j, rfl, h0, h1, q2⟩ := q1
    obtain rfl := Rep.int_inv r1
    exact ⟨j, rfl, .of_le (by omega) (by omega) (by omega) h0, fun p hp => k _ _ _ _ (S1.step (.newC S1.sto hp) (sto_own S1.sto hp rgV_reps)) (e1.trans (.newC S1.sto hp)) (.hd _ .nil) (q2 p (S1.sto.fresh hp))⟩
theorem u_lstR1O {φ : DE} {Ψ : XP} {δ : DEnv} {μ : Sto} {Φ : DK} : dLstR1O φ Ψ δ μ Φ = φ Ψ δ μ fun x μ1 => ∃ j, x = .int j ∧ 0 ≤ j ∧ j ≤ 100000 ∧ ∀ p, μ1 p = none → Φ (.hd (.ref p)) (sset μ1 p (.lst (rngD 0 j.toNat))) := rfl
end DW
set_option Elab.async false
set_option linter.all false
set_option maxRecDepth 100000
namespace DW
open PySem PySem.Spec PyProof.Rows L2
/-- xs.count(k), xs a list of ints -/
def dCntL (φa φb : DE) : DE := fun Ψ δ μ Φ => φa Ψ δ μ fun x μ1 => ∃ ns : List Int, x = .lst (ns.map .int) ∧ φb Ψ δ μ1 fun y μ2 => ∃ k : Int, y = .int k ∧ Φ (.int (ns.count k : Nat)) μ2
theorem sCntL {K : Fg} {B : Bx K} {ta tb : TE} {φa φb : DE} (a : SE B ta φa) (b : SE B tb φb) : SE B (tBM K "list" (rCntI K) ta (tCons tb tNil)) (dCntL φa φb) := fun σ H δ μ Φ Q S q k =>
  a σ H δ μ _ _ S q fun v H1 x μ1 S1 e1 r1 q1 => by
    obtain ⟨ns, rfl, q1⟩ := q1
    obtain ⟨p, us, rfl, h1, h2⟩ := Rep.lst_inv r1
    have e := reps_intsV h2
    subst e
    refine ⟨.inl ⟨rfl, _, h1.sq⟩, b σ H1 δ μ1 _ _ S1 q1 fun w H2 y μ2 S2 e2 r2 q2 => ?_⟩
    obtain ⟨j, rfl, q2⟩ := q2
    obtain rfl := Rep.int_inv r2
    exact ⟨p, ns, j, rfl, rfl, (h1.mono e2).sq, k _ _ _ μ2 S2 (e1.trans e2) (.int _ .nil) q2⟩
theorem u_cntL {φa φb : DE} {Ψ : XP} {δ : DEnv} {μ : Sto} {Φ : DK} : dCntL φa φb Ψ δ μ Φ = φa Ψ δ μ fun x μ1 => ∃ ns : List Int, x = .lst (ns.map .int) ∧ φb Ψ δ μ1 fun y μ2 => ∃ k : Int, y = .int k ∧ Φ (.int (ns.count k : Nat)) μ2 := rfl
end DW
set_option Elab.async false
set_option linter.all false
set_option maxRecDepth 100000
namespace DW
open PySem PySem.Spec PyProof.Rows L2
def keyS (e : DictEntry) : Option Str := match e.key with
  | .str x _ => some x
  | _ => none
theorem lookup_mem {tbl : List (Str × D)} {z : Str} {v : D} (h : tbl.lookup z = some v) : (z, v) ∈ tbl := by
  induction tbl with
  | nil => cases h
  | cons p r ih =>
    obtain ⟨x, y⟩ := p
    rw [List.lookup_cons] at h
    cases e : z == x with
    | true =>
      rw [e] at h
      cases h
      rw [beq_iff_eq] at e
      subst e
      exact List.mem_cons_self
    | false =>
      rw [e] at h
      exact List.mem_cons_of_mem _ (ih h)
theorem lookup_no {tbl : List (Str × D)} {z : Str} (h : tbl.lookup z = none) : ∀ p ∈ tbl, p.1 ≠ z := by
  induction tbl with
  | nil => intro p hp; cases hp
  | cons p r ih =>
    obtain ⟨x, y⟩ := p
    rw [List.lookup_cons] at h
    cases e : z == x with
    | true => rw [e] at h; cases h
    | false =>
      rw [e] at h
      intro p hp
      rcases List.mem_cons.mp hp with q | q
      · rw [q]; intro q2; have q3 : x = z := q2; rw [q3] at e; simp at e
      · exact ih h p q
/-- an entry's value -/
def EntOk (K : Fg) (d : Addr) (p : Str × D) : Prop := ∃ (u' : V) (u : Value), PySem.W.nsIn K d p.1 = some (some u) ∧ RelV u' u ∧ ∀ μ H, Rep K μ H u' p.2
theorem dictOk_by {K : Fg} {w : World} {d : Addr} {tbl : List (Str × D)} {es : Array DictEntry} {n : Nat} (ld : K.lookup d = some ⟨.type "dict", none, .dict es n, #[]⟩)
    (kl : PySem.W.KeysLit w.params es.toList) (kn : es.toList.map keyS = tbl.map fun p => some p.1) (low : (d == sysModules) = false) (hv : ∀ p ∈ tbl, EntOk K d p) : DictOk K w d tbl where
  kd := ⟨es, n, ld, kl, low⟩
  at_ := fun z v h => hv (z, v) (lookup_mem h)
  no_ := fun z h => by
    unfold PySem.W.nsIn
    rw [ld]
    have no := lookup_no h
    have fn : es.toList.find? (fun e => e.key.isStr z) = none := by
      rw [List.find?_eq_none]
      intro e he hz
      have hk : keyS e ∈ tbl.map fun p => some p.1 := by rw [← kn]; exact List.mem_map_of_mem he
      obtain ⟨p, hp, ep⟩ := List.mem_map.mp hk
      have : keyS e = some z := by
        unfold keyS
        cases q : e.key with
        | str x t =>
          rw [q] at hz
          have : (x == z) = true := hz
          rw [beq_iff_eq] at this
          rw [this]
        | _ => rw [q] at hz; exact absurd hz Bool.false_ne_true
      rw [this] at ep
      exact no p hp (Option.some.inj ep)
    have nr : es.toList.any (fun e => e.refKey) = false := by
      rw [List.any_eq_false]
      intro e he hr
      obtain ⟨x, t, e1, _⟩ := kl.all e he
      unfold DictEntry.refKey at hr
      rw [e1] at hr
      exact absurd hr Bool.false_ne_true
    show (match es.toList.find? (fun e => e.key.isStr z) with
      | some e => some (some e.val)
      | none => if es.toList.any (fun e => e.refKey) then none else some none) = some none
    rw [fn, nr]
    rfl
theorem ent_def {K : Fg} {d f : Addr} {x : Str} (h : PySem.W.nsIn K d x = some (some (.ref f))) : EntOk K d (x, .hd (.ref f)) := ⟨.ref f, _, h, rfl, fun _ _ => .hd _ .nil⟩
theorem strs_rep {K : Fg} {μ : Sto} {H : Hp} : ∀ ss : List Str, Reps K μ H (ss.map V.str) (ss.map D.str)
  | [] => .nil
  | s :: ss => .str s (strs_rep ss)
theorem ent_tup {K : Fg} {d t : Addr} {x : Str} {ss : List Str} {its : Array Value} {n : Nat} {sl : Array (Option Value)} (h : PySem.W.nsIn K d x = some (some (.ref t))) (lt : K.lookup t = some ⟨.type "tuple", none, .seq its n, sl⟩)
    (hv : Vals (ss.map V.str) its.toList) (hz : its.size ≤ sizeLine) : EntOk K d (x, .tup (ss.map D.str)) :=
  ⟨.ref t, _, h, rfl, fun _ _ => .tup (.inr ⟨_, its, n, lt, rfl, rfl, rfl, hz, hv⟩) (strs_rep ss) .nil⟩
end DW
set_option Elab.async false
set_option linter.all false
set_option maxRecDepth 100000
namespace DW
open PySem PySem.Spec PyProof.Rows L2
section
variable {K : Fg} {B : Bx K}
def dLc2 (ι : DI) (γ : DG) (θ : DT) (ι1 : DI) (γ1 : DG) (θ1 : DT) (φ : DE) (vs vs1 : List Nat) : DE := fun Ψ δ μ Φ => ι Ψ δ μ fun xs μ1 => ∀ p, μ1 p = none → ∃ W : Nat → Sto → Prop, W 0 (sset μ1 p (.lst [])) ∧
  (∀ i d μ2, xs[i]? = some d → W i μ2 → γ d (dwipe δ vs) μ2 fun δ3 μ3 => θ Ψ δ3 μ3 fun b μ4 =>
    (b = true → ι1 Ψ δ3 μ4 fun xs1 μ5 => ∃ W1 : Nat → Sto → Prop, W1 0 μ5 ∧
      (∀ j d1 μ6, xs1[j]? = some d1 → W1 j μ6 → γ1 d1 (dwipe δ3 vs1) μ6 fun δ7 μ7 => θ1 Ψ δ7 μ7 fun b1 μ8 =>
        (b1 = true → φ Ψ δ7 μ8 fun y μ9 => ∃ acc, μ9 p = some (.lst acc) ∧ acc.length ≤ 100000 ∧ W1 (j + 1) (sset μ9 p (.lst (acc ++ [y])))) ∧ (b1 = false → W1 (j + 1) μ8)) ∧
      ∀ μ6, W1 xs1.length μ6 → W (i + 1) μ6) ∧ (b = false → W (i + 1) μ4)) ∧
  ∀ μ2, W xs.length μ2 → ∃ acc, μ2 p = some (.lst acc) ∧ Φ (.lst acc) (sdel μ2 p)
theorem sLc2 {wi wi1 : TI} {g g1 : TG} {tt tt1 : TT} {te : TE} {vs vs1 : List Nat} {ι ι1 : DI} {γ γ1 : DG} {θ θ1 : DT} {φ : DE} (a : SI B wi ι) (w : GW vs g) (w1 : GW vs1 g1) (b : ∀ H1 μ1 e, SG (B.re H1 μ1 e) g γ) (c : ∀ H1 μ1 e, ST (B.re H1 μ1 e) tt θ)
    (a1 : ∀ H1 μ1 e, SI (B.re H1 μ1 e) wi1 ι1) (b1 : ∀ H1 μ1 e, SG (B.re H1 μ1 e) g1 γ1) (c1 : ∀ H1 μ1 e, ST (B.re H1 μ1 e) tt1 θ1) (d : ∀ H1 μ1 e, SE (B.re H1 μ1 e) te φ) :
    SE B (tLc2 wi g tt wi1 g1 tt1 te vs vs1) (dLc2 ι γ θ ι1 γ1 θ1 φ vs vs1) := fun σ H δ μ Φ Q S q k =>
  a σ H δ μ _ _ S q fun xs J H1 μ1 S1 e1 it q1 => fun p hp => by
    have hμp : μ1 p = none := S1.sto.fresh hp
    obtain ⟨W, w0, ws, wd⟩ := q1 p hμp
    refine ⟨fun i m H' => m = xs.length - i ∧ i ≤ xs.length ∧ ∃ μ', Evo μ1 H1 μ' H' ∧ StoOk K μ' H' ∧ W i μ', ⟨xs.length, by simp, Nat.zero_le _, _, .newC S1.sto hp, sto_own S1.sto hp .nil, w0⟩, ?_⟩
    rintro i m H' ⟨rfl, hi, μ', e', s', wi'⟩
    by_cases hlt : i < xs.length
    · obtain ⟨hgo, hy⟩ := (it i H' μ' s' e').1 hlt
      refine .inr ⟨hgo, fun H2 => ∃ μ2, Evo μ1 H1 μ2 H2 ∧ StoOk K μ2 H2 ∧ W (i + 1) μ2, fun H2 ⟨μ2, e2, s2, w2⟩ => ⟨xs.length - (i + 1), by omega, rfl, by omega, μ2, e2, s2, w2⟩, fun x H2 y => ?_⟩
      obtain ⟨dd, hd, s2, e2, r2⟩ := hy x H2 y
      have S2 : (B.re H1 μ1 S1.evo).S (L2.wipe σ vs) H2 (dwipe δ vs) μ' := ⟨e'.trans e2, s2, ((S1.env.mono e').mono e2).wipe vs⟩
      refine w x (L2.wipe σ vs) (L2.wipe σ vs) H2 _ wipe_wipe ?_
      refine b H1 μ1 S1.evo x dd (L2.wipe σ vs) H2 (dwipe δ vs) μ' _ _ S2 r2 (ws i dd μ' hd wi') fun σ3 H3 δ3 μ3 S3 e3 q3 => ?_
      refine c H1 μ1 S1.evo σ3 H3 δ3 μ3 _ _ S3 q3 fun b4 H4 μ4 S4 e4 q4 => ?_
      cases b4 with
      | true =>
        rw [if_pos rfl]
        refine a1 H1 μ1 S1.evo σ3 H4 δ3 μ4 _ _ S4 (q4.1 rfl) fun xs1 J1 H5 μ5 S5 e5 it1 q5 => ?_
        obtain ⟨W1, w10, ws1, wd1⟩ := q5
        refine ⟨fun j m H' => m = xs1.length - j ∧ j ≤ xs1.length ∧ ∃ μ', Evo μ5 H5 μ' H' ∧ StoOk K μ' H' ∧ W1 j μ', ⟨xs1.length, by simp, Nat.zero_le _, μ5, .refl, S5.sto, w10⟩, ?_⟩
        rintro j m H6 ⟨rfl, hj, μ6, e6, s6, w16⟩
        by_cases hlt1 : j < xs1.length
        · obtain ⟨hgo1, hy1⟩ := (it1 j H6 μ6 s6 e6).1 hlt1
          refine .inr ⟨hgo1, fun H7 => ∃ μ7, Evo μ5 H5 μ7 H7 ∧ StoOk K μ7 H7 ∧ W1 (j + 1) μ7, fun H7 ⟨μ7, e7, s7, w7⟩ => ⟨xs1.length - (j + 1), by omega, rfl, by omega, μ7, e7, s7, w7⟩, fun x1 H7 y1 => ?_⟩
          obtain ⟨d1, hd1, s7, e7, r7⟩ := hy1 x1 H7 y1
          have S7 : (B.re H1 μ1 S1.evo).S (L2.wipe σ3 vs1) H7 (dwipe δ3 vs1) μ6 := ⟨(S5.evo.trans e6).trans e7, s7, ((S5.env.mono e6).mono e7).wipe vs1⟩
          refine w1 x1 (L2.wipe σ3 vs1) (L2.wipe σ3 vs1) H7 _ wipe_wipe ?_
          refine b1 H1 μ1 S1.evo x1 d1 (L2.wipe σ3 vs1) H7 (dwipe δ3 vs1) μ6 _ _ S7 r7 (ws1 j d1 μ6 hd1 w16) fun σ8 H8 δ8 μ8 S8 e8 q8 => ?_
          have E8 : Evo μ5 H5 μ8 H8 := (e6.trans e7).trans e8
          refine c1 H1 μ1 S1.evo σ8 H8 δ8 μ8 _ _ S8 q8 fun b9 H9 μ9 S9 e9 q9 => ?_
          have E9 : Evo μ5 H5 μ9 H9 := E8.trans e9
          cases b9 with
          | true =>
            rw [if_pos rfl]
            refine d H1 μ1 S1.evo σ8 H9 δ8 μ9 _ _ S9 (q9.1 rfl) fun v10 H10 y10 μ10 S10 e10 r10 q10 => ?_
            obtain ⟨acc, hacc, hz, w11⟩ := q10
            obtain ⟨us, h10, hr10⟩ := S10.sto _ _ hacc
            have e11 : Evo μ10 H10 (sset μ10 p (.lst (acc ++ [y10]))) (upd H10 p (.lst (us ++ [v10]))) := own_evo hacc
            obtain ⟨e12, s12⟩ := own_upd S10.sto hacc ((hr10.append r10).mono e11)
            exact ⟨us, h10, Nat.lt_of_le_of_lt (by rw [hr10.length]; exact hz) (by decide), _, (E9.trans e10).trans e12, s12, w11⟩
          | false =>
            rw [if_neg Bool.false_ne_true]
            exact ⟨μ9, E9, S9.sto, q9.2 rfl⟩
        · have e : j = xs1.length := by omega
          subst e
          exact .inl ⟨(it1 _ H6 μ6 s6 e6).2 (Nat.le_refl _), μ6, S5.evo.trans e6, s6, wd1 μ6 w16⟩
      | false =>
        rw [if_neg Bool.false_ne_true]
        exact ⟨μ4, S4.evo, S4.sto, q4.2 rfl⟩
    · have e : i = xs.length := by omega
      subst e
      obtain ⟨acc, hacc, q2⟩ := wd μ' wi'
      obtain ⟨us, h5, hr5⟩ := s' _ _ hacc
      refine .inl ⟨(it _ H' μ' s' e').2 (Nat.le_refl _), ?_⟩
      have e8 : Evo μ1 H1 (sdel μ' p) H' := e'.trans sdel_sub.evo
      exact k (.ref p) H' (.lst acc) (sdel μ' p) (S1.step e8 (sdel_sub.sto s')) (e1.trans e8) (.lst ⟨h5, .of sdel_same⟩ (hr5.mono sdel_sub.evo) .nil) q2
end
def LcG2 (γ : DG) (θ : DT) (ι1 : DI) (γ1 : DG) (θ1 : DT) (φ : DE) (δw : DEnv) (vs1 : List Nat) (Ψ : XP) (xs : List D) (μ1 : Sto) (Φ : DK) : Prop := ∀ p, μ1 p = none → ∃ W : Nat → Sto → Prop, W 0 (sset μ1 p (.lst [])) ∧
  (∀ i d μ2, xs[i]? = some d → W i μ2 → γ d δw μ2 fun δ3 μ3 => θ Ψ δ3 μ3 fun b μ4 =>
    (b = true → ι1 Ψ δ3 μ4 fun xs1 μ5 => ∃ W1 : Nat → Sto → Prop, W1 0 μ5 ∧
      (∀ j d1 μ6, xs1[j]? = some d1 → W1 j μ6 → γ1 d1 (dwipe δ3 vs1) μ6 fun δ7 μ7 => θ1 Ψ δ7 μ7 fun b1 μ8 =>
        (b1 = true → φ Ψ δ7 μ8 fun y μ9 => ∃ acc, μ9 p = some (.lst acc) ∧ acc.length ≤ 100000 ∧ W1 (j + 1) (sset μ9 p (.lst (acc ++ [y])))) ∧ (b1 = false → W1 (j + 1) μ8)) ∧
      ∀ μ6, W1 xs1.length μ6 → W (i + 1) μ6) ∧ (b = false → W (i + 1) μ4)) ∧
  ∀ μ2, W xs.length μ2 → ∃ acc, μ2 p = some (.lst acc) ∧ Φ (.lst acc) (sdel μ2 p)
section
variable {Ψ : XP} {Φ : DK} {δ : DEnv} {μ : Sto}
theorem u_lc2 {ι : DI} {γ : DG} {θ : DT} {ι1 : DI} {γ1 : DG} {θ1 : DT} {φ : DE} {vs vs1 : List Nat} : dLc2 ι γ θ ι1 γ1 θ1 φ vs vs1 Ψ δ μ Φ = ι Ψ δ μ fun xs μ1 => LcG2 γ θ ι1 γ1 θ1 φ (dwipe δ vs) vs1 Ψ xs μ1 Φ := rfl
/-- plain names, no tests, nothing changes -/
theorem lcG2_pure {n n1 : Nat} {ι1 : DI} {φ : DE} {δw : DEnv} {μ1 : Sto} {xs : List D} (cols : Nat → List D) (v : Nat → Nat → D) (hz : ∀ i, i ≤ xs.length → ((List.range i).flatMap fun i => (List.range (cols i).length).map (v i)).length ≤ 50000)
    (hc : ∀ i, (cols i).length ≤ 50000)
    (hi : ∀ (i : Nat) (d : D) (μ2 : Sto) (X : List D → Sto → Prop), xs[i]? = some d → Sub μ1 μ2 → X (cols i) μ2 → ι1 Ψ (δw.set n (some d)) μ2 X)
    (hs : ∀ (i : Nat) (d : D) (j : Nat) (d1 : D) (μ2 : Sto) (X : DK), xs[i]? = some d → (cols i)[j]? = some d1 → Sub μ1 μ2 → X (v i j) μ2 → φ Ψ (((δw.set n (some d)).set n1 none).set n1 (some d1)) μ2 X)
    (hd : Φ (.lst ((List.range xs.length).flatMap fun i => (List.range (cols i).length).map (v i))) μ1) : LcG2 (eName n) dYes ι1 (eName n1) dYes φ δw [n1] Ψ xs μ1 Φ := fun p hp => by
  refine ⟨fun i μ' => μ' = sset μ1 p (.lst ((List.range i).flatMap fun i => (List.range (cols i).length).map (v i))), rfl, fun i d μ2 hi2 e => ?_, fun μ2 e => ?_⟩
  · subst e
    refine ⟨fun _ => hi i d _ _ hi2 (.set Sub.refl hp) ⟨fun j μ' => j ≤ (cols i).length ∧ μ' = sset μ1 p (.lst (((List.range i).flatMap fun i => (List.range (cols i).length).map (v i)) ++ (List.range j).map (v i))), ⟨Nat.zero_le _, by rw [List.range_zero, List.map_nil, List.append_nil]⟩, fun j d1 μ6 hj hw => ?_, fun μ6 hw => ?_⟩, fun z => by cases z⟩
    · obtain ⟨hjl, rfl⟩ := hw
      have hj2 := (List.getElem?_eq_some_iff.mp hj).1
      refine ⟨fun _ => hs i d j d1 _ _ hi2 hj (.set Sub.refl hp) ⟨_, sset_same, ?_, ?_⟩, fun z => by cases z⟩
      · have h1 := hz i (Nat.le_of_lt (List.getElem?_eq_some_iff.mp hi2).1)
        have h2 := hc i
        rw [List.length_append, List.length_map, List.length_range]
        omega
      · refine ⟨hj2, ?_⟩
        rw [sset_sset, List.range_succ, List.map_append, List.append_assoc]
        rfl
    · obtain ⟨_, rfl⟩ := hw
      rw [List.range_succ, List.flatMap_append]
      simp
  · subst e
    refine ⟨_, sset_same, ?_⟩
    rw [sdel_sset hp]
    exact hd
end
end DW
set_option Elab.async false
set_option linter.all false
set_option maxRecDepth 100000
set_option maxHeartbeats 4000000
namespace DW
open PySem PySem.Spec PyProof.Rows L2
def SqK (K : Fg) : Bool → Hp → Addr → List V → Prop
  | true => SqT K
  | false => SqL K
def ItK : Bool → Heap → Addr → Addr → Nat → Prop
  | true => fun h it a i => h.IsTupleIter it a i
  | false => fun h it a i => h.IsListIter it a i
def IsK : Bool → Heap → Addr → Array Value → Prop
  | true => fun h a its => h.IsTuple a its
  | false => fun h a its => h.IsList a its
def itO : Bool → Addr → Obj
  | true => fun a => { cls := .type "tuple_iterator", data := .fields #[.ref a, .int 0 0] }
  | false => fun a => { cls := .type "list_iterator", data := .fields #[.ref a, .int 0 0] }
theorem draws_k {prog : Program} {w : World} {A : Around} (b : Bool) (hh : A.handled = none) (it l : Addr) (hne : l ≠ it) (items : Array Value) : Draws prog w A it [it, l] items.size (fun i v => items[i]? = some v) (fun i h => ItK b h it l i ∧ IsK b h l items) := by
  cases b
  · exact Draws.list hh it l hne items
  · exact Draws.tuple hh it l hne items
theorem begins_k (b : Bool) (a : Addr) (items : Array Value) : Begins (.ref a) (itO b a) fun h => IsK b h a items := by
  cases b
  · exact begins_list a items
  · exact begins_tuple a items
theorem it_new {b : Bool} {h : Heap} {it a : Addr} (e : h.get? it = some (itO b a)) : ItK b h it a 0 := by
  cases b
  · exact ⟨_, e, rfl, rfl⟩
  · exact ⟨_, e, rfl, rfl⟩
theorem it_at {b : Bool} {h h' : Heap} {it a : Addr} {i : Nat} (x : ItK b h it a i) (k : ∀ o, h.get? it = some o → h'.get? it = some o) : ItK b h' it a i := by
  cases b <;> (obtain ⟨o, e, r⟩ := x; exact ⟨o, k o e, r⟩)
theorem it_obj {b : Bool} {h : Heap} {it a : Addr} {i : Nat} (x : ItK b h it a i) : ∃ o, h.get? it = some o ∧ ∀ v, o.data = .cell v → False := by
  cases b <;> (obtain ⟨o, e, _, d⟩ := x; exact ⟨o, e, fun v q => by rw [d] at q; cases q⟩)
theorem it_lt {b : Bool} {h : Heap} {it a : Addr} {i : Nat} (x : ItK b h it a i) : it < h.objs.size := by
  obtain ⟨o, e, _⟩ := it_obj x
  exact Heap.lt_size e
theorem is_lt {b : Bool} {h : Heap} {a : Addr} {its : Array Value} (x : IsK b h a its) : a < h.objs.size := by
  cases b <;> (obtain ⟨o, e, _⟩ := x; exact Heap.lt_size e)
section
variable {X : Cx} {pins : List (Addr × Obj)} {σ : L2.St} {H : Hp} {s : Shared} {a : Addr} {xs ys : List V}
theorem seq_k {b : Bool} (I : Inv X pins σ H s) (h : SqK X.K b H a xs) : ∃ its : List Value, Vals xs its ∧ IsK b s.heap a its.toArray := by
  cases b
  · obtain ⟨its, r, p, _⟩ := I.list h
    exact ⟨its, r, p.isList⟩
  · obtain ⟨its, r, p, _⟩ := I.tuple h
    exact ⟨its, r, p⟩
theorem inj_k {b : Bool} (I : Inv X pins σ H s) (h : SqK X.K b H a xs) (h' : SqK X.K b H a ys) : xs = ys := by
  cases b
  · exact I.list_inj h h'
  · exact I.tuple_inj h h'
end
def ItzM (K : Fg) (b1 b2 : Bool) (a b : Addr) (n1 n2 : Nat) : It :=
  ⟨fun i H => i < n1 ∧ i < n2 ∧ ∃ (xs ys : List V) (x y : V), SqK K b1 H a xs ∧ SqK K b2 H b ys ∧ xs[i]? = some x ∧ ys[i]? = some y,
    fun i H v H' => ∃ T x y, v = .ref T ∧ H T = none ∧ H' = upd H T (.tup [x, y]) ∧ (∀ xs, SqK K b1 H a xs → xs[i]? = some x) ∧ ∀ ys, SqK K b2 H b ys → ys[i]? = some y,
    fun i H => (n1 ≤ i ∨ n2 ≤ i) ∧ ∃ xs ys : List V, SqK K b1 H a xs ∧ SqK K b2 H b ys ∧ xs.length = n1 ∧ ys.length = n2⟩
theorem turn_zipM {P : Program} {w : World} {K : Fg} {elts : List Expr} {kk : Nat} {tpos : Pos} {b1 b2 : Bool} {a b z TI TO i1 i2 : Addr} {n1 n2 : Nat} (D : ZipSep2 z TI TO i1 i2 [i1, a] [i2, b]) :
    Turn P w K (.Tuple elts kk tpos) (ItzM K b1 b2 a b n1 n2) [z, TI, TO, i1, i2] z (fun i h => (i ≤ n1 ∧ i ≤ n2) ∧ IsZip h z TI TO .none ∧ IsTupOf2 h TI (.ref i1) (.ref i2) ∧ (∃ x y, IsTupOf2 h TO x y) ∧ ItK b1 h i1 a i ∧ ItK b2 h i2 b i) where
  mem := by simp
  obj := fun i h st c hc => by
    obtain ⟨_, hz, hTI, ⟨x, y, hTO⟩, h1, h2⟩ := st
    obtain ⟨o1, e1, d1⟩ := it_obj h1
    obtain ⟨o2, e2, d2⟩ := it_obj h2
    have e' : c = z ∨ c = TI ∨ c = TO ∨ c = i1 ∨ c = i2 := by simpa using hc
    rcases e' with q | q | q | q | q
    · rw [q]; exact ⟨_, hz, fun v q => nomatch q⟩
    · rw [q]; exact ⟨_, hTI, fun v q => nomatch q⟩
    · rw [q]; exact ⟨_, hTO, fun v q => nomatch q⟩
    · rw [q]; exact ⟨o1, e1, d1⟩
    · rw [q]; exact ⟨o2, e2, d2⟩
  keep := fun i h h' st k => by
    obtain ⟨hn, hz, hTI, ⟨x, y, hTO⟩, h1, h2⟩ := st
    exact ⟨hn, k z (by simp) _ hz, k TI (by simp) _ hTI, ⟨x, y, k TO (by simp) _ hTO⟩, it_at h1 fun o q => k i1 (by simp) o q, it_at h2 fun o q => k i2 (by simp) o q⟩
  item := by
    intro X hP hw hK hc i pins s σ H E I hf st hg
    subst hP hw hK
    obtain ⟨hn, hz, hTI, ⟨x0, y0, hTO⟩, h1, h2⟩ := st
    obtain ⟨g1, g2, xs, ys, x, y, hqx, hqy, hx, hy⟩ := hg
    obtain ⟨its, rv, p⟩ := seq_k I hqx
    obtain ⟨its2, rv2, p2⟩ := seq_k I hqy
    obtain ⟨u, hu, ru⟩ := rv.get hx
    obtain ⟨u2, hu2, ru2⟩ := rv2.get hy
    have hzl : z < s.heap.objs.size := Heap.lt_size hz
    have ne1 : a ≠ i1 := fun e => by
      subst e
      cases b1 <;> (obtain ⟨o, e1, c1, _⟩ := h1; obtain ⟨o', e2, c2, _⟩ := p; rw [e1] at e2; cases e2; rw [c1] at c2; exact absurd (Value.type.inj c2) (by decide))
    have ne2 : b ≠ i2 := fun e => by
      subst e
      cases b2 <;> (obtain ⟨o, e1, c1, _⟩ := h2; obtain ⟨o', e2, c2, _⟩ := p2; rw [e1] at e2; cases e2; rw [c1] at c2; exact absurd (Value.type.inj c2) (by decide))
    have hu' : its.toArray[i]? = some u := by simpa using hu
    have hu2' : its2.toArray[i]? = some u2 := by simpa using hu2
    refine wpAny_pyNext_zipD2_item D (draws_k (A := X.A.in1) b1 (I.ok.hd hc) i1 a ne1 its.toArray) (draws_k (A := X.A.in1) b2 (I.ok.hd hc) i2 b ne2 its2.toArray) hz hTI hTO ⟨h1, p⟩ ⟨h2, p2⟩ (Array.getElem?_eq_some_iff.mp hu').1 (Array.getElem?_eq_some_iff.mp hu2').1 fun v1 v2 h' tk q1 q2 z' TO' st1 st2 hT hsz hk => ?_
    have ev1 : v1 = u := by have q : its.toArray[i]? = some v1 := q1; rw [hu'] at q; exact (Option.some.inj q).symm
    have ev2 : v2 = u2 := by have q : its2.toArray[i]? = some v2 := q2; rw [hu2'] at q; exact (Option.some.inj q).symm
    subst ev1 ev2
    refine ⟨_, rfl, wpAny_letOwnedTupleGo_zip (s := { s with heap := h', toks := tk }) z' fun h'' z'' sb => ?_⟩
    have hT2 : h''.get? s.heap.objs.size = some { cls := .type "tuple", data := .seq #[v1, v2] } := (sb.2 _ (Nat.ne_of_gt hzl)).trans hT
    have new : ObjOk X.prog X.w (upd H s.heap.objs.size (.tup [x, y])) h'' s.heap.objs.size (.tup [x, y]) :=
      ⟨by show 2 ≤ sizeLine; decide, [v1, v2], .cons ru (.cons ru2 .nil), ⟨_, hT2, rfl, _, rfl⟩⟩
    have I1 : Inv X pins σ (upd H s.heap.objs.size (.tup [x, y])) { s with heap := h'', toks := tk } :=
      I.turnedNew (ch := [z, TI, TO, i1, i2]) (fun c o hb q => (sb.2 c (fun q' => hb (by simp [q']))).trans (hk c o (fun q' => hb (by simp [q'])) (fun q' => hb (by simp [q'])) (fun q' => hb (by simp [q'])) (fun q' => hb (by simp [q'])) q)) hf (Nat.le_refl _) new
    refine ⟨.ref s.heap.objs.size, _, I1, rfl, ⟨_, x, y, rfl, I.hok.fresh (Nat.le_refl _), rfl, fun l hl => by rw [inj_k I hl hqx]; exact hx, fun l hl => by rw [inj_k I hl hqy]; exact hy⟩, ⟨⟨g1, g2⟩, z'', ?_, ⟨v1, v2, ?_⟩, ?_, ?_⟩, fun c hcm => ?_⟩
    · exact (sb.2 _ D.TIz).trans (hk _ _ D.TIz D.TITO D.TIi1 D.TIi2 hTI)
    · exact (sb.2 _ D.TOz).trans TO'
    · exact it_at st1.1 fun o q => (sb.2 _ D.zi1.symm).trans q
    · exact it_at st2.1 fun o q => (sb.2 _ D.zi2.symm).trans q
    · have hlt : c < s.heap.objs.size := by
        have e' : c = z ∨ c = TI ∨ c = TO ∨ c = i1 ∨ c = i2 := by simpa using hcm
        rcases e' with q | q | q | q | q
        · rw [q]; exact hzl
        · rw [q]; exact Heap.lt_size hTI
        · rw [q]; exact Heap.lt_size hTO
        · rw [q]; exact it_lt h1
        · rw [q]; exact it_lt h2
      rw [upd_ne (Nat.ne_of_lt hlt)]
      exact (hf c hcm).1
  done := by
    intro X hP hw hK hc i pins s σ H E I hf st hg
    subst hP hw hK
    obtain ⟨hn, hz, hTI, ⟨x0, y0, hTO⟩, h1, h2⟩ := st
    obtain ⟨hend, xs, ys, hqx, hqy, hx, hy⟩ := hg
    obtain ⟨its, rv, p⟩ := seq_k I hqx
    obtain ⟨its2, rv2, p2⟩ := seq_k I hqy
    have l1 := rv.length
    have l2 := rv2.length
    have ne1 : a ≠ i1 := fun e => by
      subst e
      cases b1 <;> (obtain ⟨o, e1, c1, _⟩ := h1; obtain ⟨o', e2, c2, _⟩ := p; rw [e1] at e2; cases e2; rw [c1] at c2; exact absurd (Value.type.inj c2) (by decide))
    have ne2 : b ≠ i2 := fun e => by
      subst e
      cases b2 <;> (obtain ⟨o, e1, c1, _⟩ := h2; obtain ⟨o', e2, c2, _⟩ := p2; rw [e1] at e2; cases e2; rw [c1] at c2; exact absurd (Value.type.inj c2) (by decide))
    exact wpAny_pyNext_zipD2_end D (draws_k (A := X.A.in1) b1 (I.ok.hd hc) i1 a ne1 its.toArray) (draws_k (A := X.A.in1) b2 (I.ok.hd hc) i2 b ne2 its2.toArray) hz hTI hTO ⟨h1, p⟩ ⟨h2, p2⟩ (by simp; omega) (by simp; omega) (by simp; omega) fun h' tk hk => ⟨rfl, I.turnedL (ch := [z, TI, TO, i1, i2]) (fun c o hb q =>
      hk c o (fun q' => hb (by simp [q'])) (fun q' => hb (by simp [q'])) (fun q' => hb (by simp [q'])) (fun q' => hb (by simp [q'])) q) hf⟩
  self := fun A i s Q E st h => wpAny_pyIter_zip st.2.1 h
def iZipM (K : Fg) (b1 b2 : Bool) (ta : TA) : TI := fun σ H R => ta σ H fun vs H1 => ∃ a b xs ys, vs = [.ref a, .ref b] ∧ SqK K b1 H1 a xs ∧ SqK K b2 H1 b ys ∧ R (ItzM K b1 b2 a b xs.length ys.length) H1
theorem pi_zipM {X : Cx} {b1 b2 : Bool} {e e2 : Expr} {ta : TA} {p pos tpos : Pos} {elts : List Expr} {kk : Nat} (hg : Gl X "zip") (hm : X.mg "zip" = none) (ha : PA X [e, e2] ta)
    (hs : starEach [e, e2] X.env = (false, eval e X.env) :: starEach [e2] X.env := by rfl) (hpl : (backTo pos (starEach [e2] X.env)).any (·.1) = false := by rfl) :
    PI X (.Tuple elts kk tpos) (.Call (.Name "zip" p) [e, e2] [] pos) (iZipM X.K b1 b2 ta) := by
  refine ⟨fun pins s σ H R I h => ?_⟩
  refine Call_ (ld_blt I hg hm PyProof.Rows.boot_zip (PyProof.Rows.callWith_type1 (thn (ha.run pos pins s σ H _ I h) fun us s1 ⟨vs, H1, I1, r1, q1⟩ => ?_) hs hpl))
  obtain ⟨a, b, xs, ys, ex, hqx, hqy, q⟩ := q1
  subst ex
  cases r1 with
  | cons r rr =>
    cases rr with
    | cons r' rr =>
      cases rr
      cases r
      cases r'
      have fresh5 : ∀ c, c ∈ [s1.heap.objs.size + 4, s1.heap.objs.size + 2, s1.heap.objs.size + 3, s1.heap.objs.size, s1.heap.objs.size + 1] → FpOk X pins H1 c := fun c hcm => by
        have e' : c = s1.heap.objs.size + 4 ∨ c = s1.heap.objs.size + 2 ∨ c = s1.heap.objs.size + 3 ∨ c = s1.heap.objs.size ∨ c = s1.heap.objs.size + 1 := by simpa using hcm
        have hle : s1.heap.objs.size ≤ c := by
          rcases e' with z | z | z | z | z
          · rw [z]; exact Nat.le_add_right _ _
          · rw [z]; exact Nat.le_add_right _ _
          · rw [z]; exact Nat.le_add_right _ _
          · rw [z]; exact Nat.le_refl _
          · rw [z]; exact Nat.le_add_right _ _
        exact I1.fpOk hle (I1.hok.fresh hle)
      obtain ⟨its, rv, p1⟩ := seq_k I1 hqx
      obtain ⟨its2, rv2, p2⟩ := seq_k I1 hqy
      refine zip_begins2 (begins_k b1 a its.toArray) (begins_k b2 b its2.toArray) p1 p2 fun h' hz hTI hTO h1 h2 hsz hk => wpAny_pyIter_zip hz ?_
      have I2 : Inv X pins σ H1 { s1 with heap := h' } := I1.kept (t' := s1.toks) hk
      exact ⟨s1.heap.objs.size + 4, [s1.heap.objs.size + 4, s1.heap.objs.size + 2, s1.heap.objs.size + 3, s1.heap.objs.size, s1.heap.objs.size + 1], _, _, H1, rfl, I2, turn_zipM (zip_sep2 (fp1 := [a]) (fp2 := [b]) (fun c hc => by rw [List.mem_singleton.mp hc]; exact is_lt p1) (fun c hc => by rw [List.mem_singleton.mp hc]; exact is_lt p2)), ⟨⟨Nat.zero_le _, Nat.zero_le _⟩, hz, hTI, ⟨_, _, hTO⟩, it_new h1, it_new h2⟩, fresh5, q⟩
def wrap : Bool → List D → D
  | true => .tup
  | false => .lst
theorem Rep.wrap_inv {K : Fg} {μ : Sto} {H : Hp} {v : V} {b : Bool} {ds : List D} (h : Rep K μ H v (wrap b ds)) : ∃ a vs, v = .ref a ∧ (∀ {μ' : Sto} {H' : Hp}, Evo μ H μ' H' → SqK K b H' a vs) ∧ Reps K μ H vs ds := by
  cases b
  · obtain ⟨a, vs, rfl, h1, h2⟩ := Rep.lst_inv h
    exact ⟨a, vs, rfl, fun e => (h1.mono e).sq, h2⟩
  · obtain ⟨a, vs, rfl, h1, h2⟩ := Rep.tup_inv h
    exact ⟨a, vs, rfl, fun e => (h1.mono e).sq, h2⟩
def iZM (b1 b2 : Bool) (φ φ' : DE) : DI := fun Ψ δ μ Φ => φ Ψ δ μ fun x μ1 => φ' Ψ δ μ1 fun y μ2 => ∃ xs ys, x = wrap b1 xs ∧ y = wrap b2 ys ∧ Φ ((xs.zip ys).map fun p => .pr [p.1, p.2]) μ2
theorem siZipM {K : Fg} {B : Bx K} {b1 b2 : Bool} {te tf : TE} {φ φ' : DE} (a : SE B te φ) (b : SE B tf φ') : SI B (iZipM K b1 b2 (tCons te (tCons tf tNil))) (iZM b1 b2 φ φ') := fun σ H δ μ Φ R S q k =>
  a σ H δ μ _ _ S q fun v H1 x μ1 S1 e1 r1 q1 => b σ H1 δ μ1 _ _ S1 q1 fun w H2 y μ2 S2 e2 r2 q2 => by
    obtain ⟨xs, ys, rfl, rfl, q2⟩ := q2
    obtain ⟨p, vs, rfl, h1, h2⟩ := Rep.wrap_inv (r1.mono e2)
    obtain ⟨p', us, rfl, h3, h4⟩ := Rep.wrap_inv r2
    refine ⟨p, p', vs, us, rfl, h1 .refl, h3 .refl, k _ _ H2 μ2 S2 (e1.trans e2) (fun i H3 μ3 s3 e3 => ?_) q2⟩
    rw [List.length_map, List.length_zip]
    have l1 := h2.length
    have l2 := h4.length
    refine ⟨fun hi => ?_, fun hi => ⟨?_, vs, us, h1 e3, h3 e3, rfl, rfl⟩⟩
    · have hv : i < vs.length := by omega
      have hu : i < us.length := by omega
      refine ⟨⟨hv, hu, vs, us, vs[i], us[i], h1 e3, h3 e3, List.getElem?_eq_getElem hv, List.getElem?_eq_getElem hu⟩, fun z H' ⟨T, v1, v2, ez, hT, eH, hy1, hy2⟩ => ?_⟩
      subst ez eH
      obtain ⟨d1, hd1, rd1⟩ := (h2.mono e3).getV (hy1 vs (h1 e3))
      obtain ⟨d2, hd2, rd2⟩ := (h4.mono e3).getV (hy2 us (h3 e3))
      refine ⟨.pr [d1, d2], ?_, s3.new hT, .new hT, rep_tup s3 hT (.cons rd1 (.cons rd2 .nil))⟩
      rw [List.getElem?_map, (List.getElem?_zip_eq_some (z := (d1, d2))).mpr ⟨hd1, hd2⟩]
      rfl
    · omega
theorem u_iZM {b1 b2 : Bool} {φ φ' : DE} {Ψ : XP} {δ : DEnv} {μ : Sto} {Φ : List D → Sto → Prop} : iZM b1 b2 φ φ' Ψ δ μ Φ = φ Ψ δ μ fun x μ1 => φ' Ψ δ μ1 fun y μ2 => ∃ xs ys, x = wrap b1 xs ∧ y = wrap b2 ys ∧ Φ ((xs.zip ys).map fun p => .pr [p.1, p.2]) μ2 := rfl
theorem w_zipLT {l t : List D} {P : List D → List D → Prop} : (∃ xs ys, D.lst l = wrap false xs ∧ D.tup t = wrap true ys ∧ P xs ys) = P l t := propext ⟨fun ⟨_, _, e1, e2, q⟩ => by cases e1; cases e2; exact q, fun q => ⟨_, _, rfl, rfl, q⟩⟩
theorem w_zipTL {l t : List D} {P : List D → List D → Prop} : (∃ xs ys, D.tup l = wrap true xs ∧ D.lst t = wrap false ys ∧ P xs ys) = P l t := propext ⟨fun ⟨_, _, e1, e2, q⟩ => by cases e1; cases e2; exact q, fun q => ⟨_, _, rfl, rfl, q⟩⟩
end DW
set_option Elab.async false
set_option linter.all false
set_option maxRecDepth 100000
set_option maxHeartbeats 4000000
namespace DW
open PySem PySem.Spec PyProof.Rows L2
section
variable {X : Cx} {e : Expr} {te : L2.St → Hp → (Int → Int → Hp → Prop) → Prop}
def tTupRgN (te : L2.St → Hp → (Int → Int → Hp → Prop) → Prop) : TE := fun σ H Q => te σ H fun a b H1 => RgOk a b ∧ NewT H1 (rgV a b) Q
theorem pe_tupRgN {p pos : Pos} (hc : X.calm = true) (hg : Gl X "tuple") (hm : X.mg "tuple" = none) (he : PRg X e te) (na : starEach [e] X.env = (false, eval e X.env) :: starEach [] X.env := by rfl) : PE X (.Call (.Name "tuple" p) [e] [] pos) (tTupRgN te) := by
  refine ⟨fun pins s σ H Q I h => ?_⟩
  refine Call_ (ld_blt I hg hm boot_tuple (PyProof.Rows.callWith_type1 (args_cons (thn (he pins s σ H _ I h) fun x s1 ⟨r, a, b, t, u, v, H1, ex, hr, I1, ok, q⟩ => args_nil ?_) na) na))
  subst ex
  obtain ⟨b1, b2, b3, b4, b5⟩ := ok
  refine call_tuple_range (n := (b - a).toNat) (I1.ok.hd hc) hr (small_one b1 b2 b3 b4) (rangeSize_nat a b) b5 fun h' tk acc hk hi => ?_
  have I2 : Inv X pins σ H1 { s1 with heap := h', toks := tk } := I1.kept hk
  have r := new_tup (its := acc.toList) I2 (by rw [rgV_length, sizeLine_eq]; omega) (vals_rg hi) q
  rw [show tupObj acc.toList = { cls := .type "tuple", data := .seq acc } by unfold tupObj; simp] at r
  exact r
end
section
variable {K : Fg} {B : Bx K} {ta : TE} {φ : DE} {Ψ : XP} {δ : DEnv} {μ : Sto} {Φ : DK}
def dTupR1 (φ : DE) : DE := fun Ψ δ μ Φ => φ Ψ δ μ fun x μ1 => ∃ j, x = .int j ∧ 0 ≤ j ∧ j ≤ 100000 ∧ Φ (.tup (rngD 0 j.toNat)) μ1
theorem sTupR1 (a : SE B ta φ) : SE B (tTupRgN (tRg1 ta)) (dTupR1 φ) := fun σ H δ μ Φ Q S q k =>
  a σ H δ μ _ _ S q fun v H1 x μ1 S1 e1 r1 q1 => by
    obtain ⟨j, rfl, h0, h1, q2⟩ := q1
    obtain rfl := Rep.int_inv r1
    exact ⟨j, rfl, .of_le (by omega) (by omega) (by omega) h0, fun p o ho hc hp => k _ _ _ μ1 (S1.step (.new hp) (S1.sto.new hp)) (e1.trans (.new hp)) (rep_tupN S1.sto hp ho hc rgV_reps) q2⟩
theorem u_tupR1 : dTupR1 φ Ψ δ μ Φ = φ Ψ δ μ fun x μ1 => ∃ j, x = .int j ∧ 0 ≤ j ∧ j ≤ 100000 ∧ Φ (.tup (rngD 0 j.toNat)) μ1 := rfl
end
end DW
set_option Elab.async false
set_option linter.all false
set_option maxRecDepth 100000
set_option maxHeartbeats 4000000
namespace DW
open PySem PySem.Spec PyProof.Rows L2
mutual
def toPy : D → PyData
  | .bl b => .bool b
  | .int i => .int i
  | .str s => .str s
  | .tup ds => .tuple (toPys ds)
  | .lst ds => .list (toPys ds)
  | _ => .none
def toPys : List D → List PyData
  | [] => []
  | d :: ds => toPy d :: toPys ds
end
mutual
/-- what can be compared -/
def eqOk : D → Bool
  | .non => true
  | .bl _ => true
  | .int _ => true
  | .str s => PyData.strOk s
  | .tup ds => eqOks ds
  | .lst ds => eqOks ds
  | _ => false
def eqOks : List D → Bool
  | [] => true
  | d :: ds => eqOk d && eqOks ds
end
mutual
def dpt : D → Nat
  | .tup ds => dpts ds + 1
  | .lst ds => dpts ds + 1
  | _ => 0
def dpts : List D → Nat
  | [] => 0
  | d :: ds => max (dpt d) (dpts ds)
end
mutual
theorem eqOk_lay : ∀ d : D, eqOk d = true → (toPy d).canLay0 = true
  | .non, _ => rfl
  | .bl _, _ => rfl
  | .int _, _ => rfl
  | .str s, h => by simpa [eqOk, toPy, PyData.canLay0] using h
  | .tup ds, h => by simp only [toPy, PyData.canLay0]; exact eqOks_lay ds (by simpa [eqOk] using h)
  | .lst ds, h => by simp only [toPy, PyData.canLay0]; exact eqOks_lay ds (by simpa [eqOk] using h)
  | .pr _, h => by simp [eqOk] at h
  | .obj _ _ _, h => by simp [eqOk] at h
  | .hd _, h => by simp [eqOk] at h
  | .scr _, h => by simp [eqOk] at h
theorem eqOks_lay : ∀ ds : List D, eqOks ds = true → PyData.canLayAll0 (toPys ds) = true
  | [], _ => rfl
  | d :: ds, h => by
    simp only [eqOks, Bool.and_eq_true] at h
    simp only [toPys, PyData.canLayAll0, eqOk_lay d h.1, eqOks_lay ds h.2, Bool.and_self]
end
mutual
theorem dpt_py : ∀ d : D, (toPy d).depth ≤ dpt d + 1
  | .non => by simp [toPy, PyData.depth]
  | .bl _ => by simp [toPy, PyData.depth]
  | .int _ => by simp [toPy, PyData.depth]
  | .str s => by simp [toPy, PyData.depth]
  | .tup ds => by simp only [toPy, PyData.depth, dpt]; have := dpts_py ds; omega
  | .lst ds => by simp only [toPy, PyData.depth, dpt]; have := dpts_py ds; omega
  | .pr _ => by simp [toPy, PyData.depth]
  | .obj _ _ _ => by simp [toPy, PyData.depth]
  | .hd _ => by simp [toPy, PyData.depth]
  | .scr _ => by simp [toPy, PyData.depth]
theorem dpts_py : ∀ ds : List D, PyData.depthAll (toPys ds) ≤ dpts ds + 1
  | [] => by simp [toPys, PyData.depthAll]
  | d :: ds => by
    simp only [toPys, PyData.depthAll, dpts]
    have h1 := dpt_py d
    have h2 := dpts_py ds
    omega
end
theorem shaped_of {d : D} (h : eqOk d = true) (hd : dpt d ≤ 60) : SeqAt.shaped (toPy d) = true := by
  unfold SeqAt.shaped
  rw [eqOk_lay d h, Bool.true_and]
  exact decide_eq_true (by have := dpt_py d; omega)
theorem dp_all {K : Fg} {μ : Sto} {H : Hp} {vs : List V} {ds : List D} (r : Reps K μ H vs ds) : eqOks ds = true → DpAll K H vs (toPys ds) := by
  induction r with
  | nil => intro _; exact .nil
  | non _ ih => intro h; simp only [eqOks, eqOk, Bool.true_and] at h; exact .cons .non (ih h)
  | bl b _ ih => intro h; simp only [eqOks, eqOk, Bool.true_and] at h; exact .cons (.bl b) (ih h)
  | int b _ ih => intro h; simp only [eqOks, eqOk, Bool.true_and] at h; exact .cons (.int b) (ih h)
  | str b _ ih => intro h; simp only [eqOks, Bool.and_eq_true] at h; exact .cons (.str b) (ih h.2)
  | hd v _ ih => intro h; simp [eqOks, eqOk] at h
  | tup h1 _ _ i1 i2 => intro h; simp only [eqOks, eqOk, Bool.and_eq_true] at h; exact .cons (.tup h1.sq (i1 h.1)) (i2 h.2)
  | pr _ _ _ _ _ => intro h; simp [eqOks, eqOk] at h
  | scr _ _ _ => intro h; simp [eqOks, eqOk] at h
  | lst h1 _ _ i1 i2 => intro h; simp only [eqOks, eqOk, Bool.and_eq_true] at h; exact .cons (.lst h1.sq (i1 h.1)) (i2 h.2)
  | obj _ _ _ _ _ _ _ => intro h; simp [eqOks, eqOk] at h
theorem dp_one {K : Fg} {μ : Sto} {H : Hp} {v : V} {d : D} (r : Rep K μ H v d) (h : eqOk d = true) : Dp K H v (toPy d) := by
  have q := dp_all r (by simp only [eqOks, h, Bool.and_self])
  cases q with
  | cons a b => exact a
def eqD (a b : D) : Bool := PyData.eqv (toPy a) (toPy b)
def EqSide (d : D) : Prop := eqOk d = true ∧ dpt d ≤ 60
def oEqD : DO := fun x y μ Φ => EqSide x ∧ EqSide y ∧ Φ (.bl (eqD x y)) μ
def oNeD : DO := fun x y μ Φ => EqSide x ∧ EqSide y ∧ Φ (.bl (!eqD x y)) μ
theorem roEqD {K : Fg} : RO K (rEqD K) oEqD := fun H μ v w x y Φ Q s r1 r2 q k => by
  obtain ⟨h1, h2, q⟩ := q
  exact ⟨_, _, dp_one r1 h1.1, dp_one r2 h2.1, shaped_of h1.1 h1.2, shaped_of h2.1 h2.2, k _ H _ μ .refl s (.bl _ .nil) q⟩
theorem roNeD {K : Fg} : RO K (rNeD K) oNeD := fun H μ v w x y Φ Q s r1 r2 q k => by
  obtain ⟨h1, h2, q⟩ := q
  exact ⟨_, _, dp_one r1 h1.1, dp_one r2 h2.1, shaped_of h1.1 h1.2, shaped_of h2.1 h2.2, k _ H _ μ .refl s (.bl _ .nil) q⟩
theorem eqOks_all : ∀ {ds : List D}, (∀ d ∈ ds, eqOk d = true) → eqOks ds = true
  | [], _ => rfl
  | d :: ds, h => by
    simp only [eqOks, Bool.and_eq_true]
    exact ⟨h d List.mem_cons_self, eqOks_all fun x hx => h x (List.mem_cons_of_mem _ hx)⟩
theorem dpts_all {m : Nat} : ∀ {ds : List D}, (∀ d ∈ ds, dpt d ≤ m) → dpts ds ≤ m
  | [], _ => Nat.zero_le _
  | d :: ds, h => by
    simp only [dpts]
    have h1 := h d List.mem_cons_self
    have h2 := dpts_all fun x hx => h x (List.mem_cons_of_mem _ hx)
    omega
theorem eqvAll_map {α : Type} {f : α → D} (hf : ∀ a b, PyData.eqv (toPy (f a)) (toPy (f b)) = true ↔ a = b) : ∀ l m : List α, PyData.eqvAll (toPys (l.map f)) (toPys (m.map f)) = true ↔ l = m
  | [], [] => by simp [toPys, PyData.eqvAll]
  | [], _ :: _ => by simp [toPys, PyData.eqvAll]
  | _ :: _, [] => by simp [toPys, PyData.eqvAll]
  | a :: l, b :: m => by
    simp only [List.map_cons, toPys, PyData.eqvAll, Bool.and_eq_true, hf a b, eqvAll_map hf l m, List.cons.injEq]
theorem eqv_int (a b : Int) : PyData.eqv (toPy (.int a)) (toPy (.int b)) = true ↔ a = b := by simp [toPy, PyData.eqv]
theorem eqv_ints (l m : List Int) : PyData.eqv (toPy (.tup (l.map .int))) (toPy (.tup (m.map .int))) = true ↔ l = m := by
  simp only [toPy, PyData.eqv]
  exact eqvAll_map eqv_int l m
theorem eqD_ints (l m : List Int) : eqD (.tup (l.map .int)) (.tup (m.map .int)) = decide (l = m) := by
  rw [Bool.eq_iff_iff, decide_eq_true_eq]
  exact eqv_ints l m
theorem eqD_rows (l m : List (List Int)) : eqD (.tup (l.map fun r => .tup (r.map .int))) (.tup (m.map fun r => .tup (r.map .int))) = decide (l = m) := by
  rw [Bool.eq_iff_iff, decide_eq_true_eq]
  show PyData.eqv (toPy _) (toPy _) = true ↔ _
  simp only [toPy, PyData.eqv]
  exact eqvAll_map eqv_ints l m
theorem side_ints (l : List Int) : EqSide (.tup (l.map .int)) := ⟨by
  simp only [eqOk]
  exact eqOks_all fun d hd => by obtain ⟨z, _, rfl⟩ := List.mem_map.mp hd; rfl, by
  simp only [dpt]
  have := dpts_all (m := 0) (ds := l.map D.int) fun d hd => by obtain ⟨z, _, rfl⟩ := List.mem_map.mp hd; exact Nat.le_refl _
  omega⟩
theorem dpt_ints (l : List Int) : dpt (.tup (l.map .int)) ≤ 1 := by
  simp only [dpt]
  have := dpts_all (m := 0) (ds := l.map D.int) fun d hd => by obtain ⟨z, _, rfl⟩ := List.mem_map.mp hd; exact Nat.le_refl _
  omega
theorem side_rows (l : List (List Int)) : EqSide (.tup (l.map fun r => .tup (r.map .int))) := ⟨by
  simp only [eqOk]
  exact eqOks_all fun d hd => by obtain ⟨z, _, rfl⟩ := List.mem_map.mp hd; exact (side_ints z).1, by
  simp only [dpt]
  have := dpts_all (m := 1) (ds := l.map fun r => D.tup (r.map .int)) fun d hd => by obtain ⟨z, _, rfl⟩ := List.mem_map.mp hd; exact dpt_ints z
  omega⟩
end DW
set_option Elab.async false
set_option linter.all false
set_option maxRecDepth 100000
set_option maxHeartbeats 4000000
namespace DW
open PySem PySem.Spec PyProof.Rows L2
abbrev WN : WX := fun _ _ _ _ => False
theorem passAtN {X : Cx} {P : Program} {w : World} (σ : L2.St) : PassesAt (L2N.CX P w) X σ (WE WN σ) := fun _ _ _ _ _ _ h => by
  obtain ⟨_, _, _, _, _, _, _, _, _, _, _, _, z⟩ := h
  exact z.elim
section
variable {K : Fg} {B : Bx K} {ta : TE} {φ : DE} {tas : TA} {ψ : DA} {Ψ : XP} {δ : DEnv} {μ : Sto} {Φ : DK}
def dMethXN (C : Addr) (NS : List Str) (c : Con) (φ : DE) (ψ : DA) : DE := fun Ψ δ μ Φ => φ Ψ δ μ fun x μ1 => ∃ es, x = .obj C NS es ∧ ψ Ψ δ μ1 fun ds μ2 => c (x :: ds) μ2 Φ fun _ _ => False
theorem sMethXN {C : Addr} {NS : List Str} {m : Str} {c : Con} (hm : m ∉ NS) (a : SE B ta φ) (b : SA B tas ψ) : SE B (tMethX C m (spOf K c) (WE WN) ta tas) (dMethXN C NS c φ ψ) := fun σ H δ μ Φ Q S q k =>
  a σ H δ μ _ _ S q fun v H1 x μ1 S1 e1 r1 q1 => by
    obtain ⟨es, rfl, q2⟩ := q1
    obtain ⟨p, dx, us, rfl, hH, hnm, hl, hr⟩ := Rep.obj_inv r1
    refine ⟨p, dx, _, rfl, hH, lookup_zip_none hm, b σ H1 δ μ1 _ _ S1 q2 fun vs H2 ds μ2 S2 e2 r2 q3 => ?_⟩
    exact ⟨μ2, _, Φ, fun _ _ => False, S2.sto, .cons (r1.mono e2) r2, q3, fun v H3 d μ3 e3 s3 r3 q4 => k v H3 d μ3 (S2.step e3 s3) ((e1.trans e2).trans e3) r3 q4, fun cls dd H3 y μ3 e3 s3 rx q4 => q4.elim⟩
def dMakeSN (C : Addr) (c : Con) (ψ : DA) : DE := fun Ψ δ μ Φ => ψ Ψ δ μ fun ds μ1 => ∀ x, μ1 x = none → c (.hd (.ref x) :: ds) (sset μ1 x (.ins C [] [])) (fun d μ2 => d = .non ∧ ∃ ns es, μ2 x = some (.ins C ns es) ∧ Φ (.obj C ns es) (sdel μ2 x)) (fun _ _ => False)
theorem u_methXN {C : Addr} {NS : List Str} {c : Con} : dMethXN C NS c φ ψ Ψ δ μ Φ = φ Ψ δ μ fun x μ1 => ∃ es, x = .obj C NS es ∧ ψ Ψ δ μ1 fun ds μ2 => c (x :: ds) μ2 Φ fun _ _ => False := rfl
theorem u_makeSN {C : Addr} {c : Con} : dMakeSN C c ψ Ψ δ μ Φ = ψ Ψ δ μ fun ds μ1 => ∀ x, μ1 x = none → c (.hd (.ref x) :: ds) (sset μ1 x (.ins C [] [])) (fun d μ2 => d = .non ∧ ∃ ns es, μ2 x = some (.ins C ns es) ∧ Φ (.obj C ns es) (sdel μ2 x)) (fun _ _ => False) := rfl
end
theorem w_neB {b c : Bool} {μ : Sto} {Φ : DK} : oNe (.bl b) (.bl c) μ Φ = Φ (.bl (!decide (b = c))) μ := w_someb
end DW
set_option Elab.async false
set_option linter.all false
set_option maxRecDepth 100000
set_option maxHeartbeats 4000000
namespace DW
open PySem PySem.Spec PyProof.Rows L2
section
variable {X : Cx} {CX : CXT} {k : Nat} {f C a b dx dy : Addr} {fd : FuncData} {ps : List Str} {sp : Sp} {E : L2.St → XK} {σ : L2.St} {H : Hp} {s : Shared} {Q : VK} {pins : List (Addr × Obj)} {fs gs : List (Str × V)} {ta tb : TE} {ea eb : Expr}
theorem ep_back {u : Value} {s' : Shared} (h : EP X pins σ (fun v H' => (∃ r, v = .ref r) ∧ Q v H') u s') : PySem.W.CmpBack (EP X pins σ Q) u s' := by
  obtain ⟨v, H', I, r, ⟨z, rfl⟩, q⟩ := h
  obtain rfl : u = Value.ref z := r
  show EP X pins σ Q (.ref z) s'
  exact ⟨.ref z, H', I, rfl, q⟩
/-- x op y, both of the class -/
def tBinX (C : Addr) (sp : Sp) (E : L2.St → XK) (ta tb : TE) : TE := fun σ H Q => ta σ H fun x H1 => tb σ H1 fun y H2 => ∃ a dx fs b dy gs, x = .ref a ∧ y = .ref b ∧ H2 a = some (.ins C dx fs) ∧ H2 b = some (.ins C dy gs) ∧ sp [x, y] H2 (fun v H' => (∃ r, v = .ref r) ∧ Q v H') (E σ)
theorem pe_binX {op : Operator} (hc : PySem.W.selfFirst X.K C = true) (hm : Meth X.K C (PySem.dunder op.info.2) f) (F : FnOk X.prog X.w X.K X.mg X.base CX k f fd ps sp) (hr : Room k X.A) (hb : Binds X.K fd ps []) (hx : ∀ σ, PassesAt CX X σ (E σ)) (ha : PE X ea ta) (hbb : PE X eb tb) :
    PE X (.BinOp ea op eb pos) (tBinX C sp E ta tb) := by
  refine ⟨fun pins s σ H Q I h => ?_⟩
  refine wpAny_BinOp (binT ha hbb I h fun v u s2 x y H2 I2 rx ry q => ?_)
  obtain ⟨a, dx, fs, b, dy, gs, rfl, rfl, h1, h2, q⟩ := q
  obtain rfl : v = Value.ref a := rx
  obtain rfl : u = Value.ref b := ry
  obtain ⟨mA, J, _⟩ := ins_get I2.hok h1
  obtain ⟨mB, J', _⟩ := ins_get I2.hok h2
  obtain ⟨od, J, _⟩ := J.look
  obtain ⟨od', J', _⟩ := J'.look
  obtain ⟨m, hF⟩ := I2.fr
  refine PySem.W.binop_K hF I2.ok.mod.kin J J'.type hc hm.at_ hm.fn ?_
  exact wpAny_mono (run_fnS (us := [.ref a, .ref b]) (vs := [.ref a, .ref b]) F hr hb (hx σ) I2 (.cons rfl (.cons rfl .nil)) q) (fun u s' h => ep_back h) fun _ _ z => z
/-- ~x -/
def tInvX (C : Addr) (sp : Sp) (E : L2.St → XK) (ta : TE) : TE := fun σ H Q => ta σ H fun x H1 => ∃ a dx fs, x = .ref a ∧ H1 a = some (.ins C dx fs) ∧ sp [x] H1 Q (E σ)
theorem pe_invX (hm : Meth X.K C "__invert__" f) (F : FnOk X.prog X.w X.K X.mg X.base CX k f fd ps sp) (hr : Room k X.A) (hb : Binds X.K fd ps []) (hx : ∀ σ, PassesAt CX X σ (E σ)) (ha : PE X ea ta) :
    PE X (.UnaryOp .Invert ea pos) (tInvX C sp E ta) := by
  refine ⟨fun pins s σ H Q I h => ?_⟩
  refine UnaryOp_ (thn (ha.run pins s σ H _ I h) fun v s1 ⟨x, H1, I1, r1, a, dx, fs, e, h1, q⟩ => ?_)
  subst e
  obtain rfl : v = Value.ref a := r1
  obtain ⟨mA, J, _⟩ := ins_get I1.hok h1
  obtain ⟨od, J, _⟩ := J.look
  obtain ⟨m, hF⟩ := I1.fr
  refine PySem.W.ksp_inv hF I1.ok.mod.kin J hm.at_ hm.fn ?_
  exact run_fnS (us := [.ref a]) (vs := [.ref a]) F hr hb (hx σ) I1 (.cons rfl .nil) q
end
section
variable {K : Fg} {B : Bx K} {ta tb : TE} {φ φ2 : DE} {Ψ : XP} {δ : DEnv} {μ : Sto} {Φ : DK} {W : WX}
def dBinX (C : Addr) (NS : List Str) (c : Con) (φ φ2 : DE) : DE := fun Ψ δ μ Φ => φ Ψ δ μ fun x μ1 => φ2 Ψ δ μ1 fun y μ2 => ∃ es fs, x = .obj C NS es ∧ y = .obj C NS fs ∧ c [x, y] μ2 (fun d μ3 => (∃ C' NS' es', d = .obj C' NS' es') ∧ Φ d μ3) fun z μ3 => Ψ z δ μ3
theorem sBinX {C : Addr} {NS : List Str} {c : Con} (hW : B.W = W) (a : SE B ta φ) (b : SE B tb φ2) : SE B (tBinX C (spOf K c) (WE W) ta tb) (dBinX C NS c φ φ2) := by
  subst hW
  exact fun σ H δ μ Φ Q S q k => a σ H δ μ _ _ S q fun v H1 x μ1 S1 e1 r1 q1 => b σ H1 δ μ1 _ _ S1 q1 fun u H2 y μ2 S2 e2 r2 q2 => by
    obtain ⟨es, fs, rfl, rfl, q3⟩ := q2
    obtain ⟨p, dx, us, rfl, hH, hnm, hl, hr⟩ := Rep.obj_inv (r1.mono e2)
    obtain ⟨p', dx', us', rfl, hH', hnm', hl', hr'⟩ := Rep.obj_inv r2
    refine ⟨p, dx, _, p', dx', _, rfl, rfl, hH, hH', ?_⟩
    refine ⟨μ2, _, _, fun y μ3 => B.Ψ y δ μ3, S2.sto, .cons (r1.mono e2) (.cons r2 .nil), q3, fun v H3 d μ3 e3 s3 r3 q4 => ?_, fun cls dd H3 y μ3 e3 s3 rx q4 => B.hW cls dd σ H3 y δ μ3 (S2.step e3 s3) rx q4⟩
    obtain ⟨⟨C', NS', es', rfl⟩, q5⟩ := q4
    obtain ⟨p3, _, _, e3', _⟩ := Rep.obj_inv r3
    exact ⟨⟨p3, e3'⟩, k v H3 _ μ3 (S2.step e3 s3) ((e1.trans e2).trans e3) r3 q5⟩
def dInvX (C : Addr) (NS : List Str) (c : Con) (φ : DE) : DE := fun Ψ δ μ Φ => φ Ψ δ μ fun x μ1 => ∃ es, x = .obj C NS es ∧ c [x] μ1 Φ fun z μ3 => Ψ z δ μ3
theorem sInvX {C : Addr} {NS : List Str} {c : Con} (hW : B.W = W) (a : SE B ta φ) : SE B (tInvX C (spOf K c) (WE W) ta) (dInvX C NS c φ) := by
  subst hW
  exact fun σ H δ μ Φ Q S q k => a σ H δ μ _ _ S q fun v H1 x μ1 S1 e1 r1 q1 => by
    obtain ⟨es, rfl, q3⟩ := q1
    obtain ⟨p, dx, us, rfl, hH, hnm, hl, hr⟩ := Rep.obj_inv r1
    exact ⟨p, dx, _, rfl, hH, ⟨μ1, _, Φ, fun y μ3 => B.Ψ y δ μ3, S1.sto, .cons r1 .nil, q3, fun v H3 d μ3 e3 s3 r3 q4 => k v H3 d μ3 (S1.step e3 s3) (e1.trans e3) r3 q4, fun cls dd H3 y μ3 e3 s3 rx q4 => B.hW cls dd σ H3 y δ μ3 (S1.step e3 s3) rx q4⟩⟩
theorem u_binX {C : Addr} {NS : List Str} {c : Con} : dBinX C NS c φ φ2 Ψ δ μ Φ = φ Ψ δ μ fun x μ1 => φ2 Ψ δ μ1 fun y μ2 => ∃ es fs, x = .obj C NS es ∧ y = .obj C NS fs ∧ c [x, y] μ2 (fun d μ3 => (∃ C' NS' es', d = .obj C' NS' es') ∧ Φ d μ3) fun z μ3 => Ψ z δ μ3 := rfl
theorem u_invX {C : Addr} {NS : List Str} {c : Con} : dInvX C NS c φ Ψ δ μ Φ = φ Ψ δ μ fun x μ1 => ∃ es, x = .obj C NS es ∧ c [x] μ1 Φ fun z μ3 => Ψ z δ μ3 := rfl
end
end DW
set_option Elab.async false
set_option linter.all false
set_option maxRecDepth 100000
namespace LW
open PySem PySem.Spec L2 DW
def prodI (ws : List Int) : Int := ws.foldl (· * ·) 1
theorem prodI_snoc (ws : List Int) (z : Int) : prodI (ws ++ [z]) = prodI ws * z := by unfold prodI; rw [List.foldl_append]; rfl
theorem prod_snoc {ws : List Int} {i : Nat} {z : Int} (h : ws[i]? = some z) : prodI (ws.take (i + 1)) = prodI (ws.take i) * z := by
  rw [List.take_add_one, h]; exact prodI_snoc _ _
def prodR : List Int → Int
  | [] => 1
  | w :: r => prodR r * w
theorem prodI_rev : ∀ r : List Int, prodI r.reverse = prodR r
  | [] => rfl
  | w :: r => by rw [List.reverse_cons, prodI_snoc, prodI_rev r]; rfl
abbrev Pos (ws : List Int) : Prop := ∀ w ∈ ws, (0 : Int) < w
theorem Pos.rev {ws : List Int} (h : Pos ws) : Pos ws.reverse := fun w hw => h w (List.mem_reverse.mp hw)
theorem prodR_pos : ∀ {r : List Int}, Pos r → 0 < prodR r
  | [], _ => by decide
  | w :: r, h => Int.mul_pos (prodR_pos fun x hx => h x (List.mem_cons_of_mem _ hx)) (h w List.mem_cons_self)
/-- the number of a choice -/
def idxU : Int → List Int → List Int → Option Int
  | a, w :: ws, c :: cs => if 0 ≤ c ∧ c < w then idxU (a * w + c) ws cs else none
  | a, _, _ => some a
/-- widths as they are drawn -/
structure WB (ws : List Int) : Prop where
  len : ws.length ≤ 1000
  lo : ∀ w ∈ ws, (0 : Int) ≤ w
  hi : ∀ w ∈ ws, w < 2 ^ 100
  pr : ∀ j, 0 ≤ prodI (ws.take j) ∧ prodI (ws.take j) < 2 ^ 200
theorem WB.mul {ws : List Int} (h : WB ws) {i : Nat} {z : Int} (e : ws[i]? = some z) : CMulX (prodI (ws.take i)) z := by
  have h1 := h.pr i
  have h2 := h.lo z (List.mem_of_getElem? e)
  have h3 := h.hi z (List.mem_of_getElem? e)
  exact mulx 200 100 (by omega) (by omega) (by decide)
end LW
set_option Elab.async false
set_option linter.all false
set_option maxRecDepth 100000
namespace LW
open PySem PySem.Spec L2 DW
/-- two lists that change: the state and one's own -/
structure Two (μ : Sto) (p st : Addr) (L c : List D) (μ' : Sto) : Prop where
  hp : μ p = none
  ne : st ≠ p
  pL : μ' p = some (.lst L)
  sc : μ' st = some (.lst c)
  ot : ∀ a, a ≠ p → a ≠ st → μ' a = μ a
theorem Two.start {μ : Sto} {p st : Addr} {L c : List D} (hp : μ p = none) (hs : μ st = some (.lst c)) : Two μ p st L c (sset μ p (.lst L)) := by
  have ne : st ≠ p := fun z => by rw [z, hp] at hs; cases hs
  exact ⟨hp, ne, sset_same, by rw [sset_ne ne]; exact hs, fun a h _ => sset_ne h⟩
theorem Two.setS {μ μ' : Sto} {p st : Addr} {L c c2 : List D} (T : Two μ p st L c μ') : Two μ p st L c2 (sset μ' st (.lst c2)) :=
  ⟨T.hp, T.ne, by rw [sset_ne (Ne.symm T.ne)]; exact T.pL, sset_same, fun a h1 h2 => by rw [sset_ne h2]; exact T.ot a h1 h2⟩
theorem Two.setP {μ μ' : Sto} {p st : Addr} {L L2 c : List D} (T : Two μ p st L c μ') : Two μ p st L2 c (sset μ' p (.lst L2)) :=
  ⟨T.hp, T.ne, sset_same, by rw [sset_ne T.ne]; exact T.sc, fun a h1 h2 => by rw [sset_ne h1]; exact T.ot a h1 h2⟩
theorem Two.sub {μ μ' : Sto} {p st : Addr} {L c : List D} (T : Two μ p st L c μ') : Sub (sset μ st (.lst c)) μ' := fun a x e => by
  by_cases h : a = st
  · subst h; rw [sset_same] at e; rw [T.sc]; exact e
  · rw [sset_ne h] at e
    have h1 : a ≠ p := fun z => by rw [z, T.hp] at e; cases e
    rw [T.ot a h1 h]; exact e
theorem Two.del {μ μ' : Sto} {p st : Addr} {L c : List D} (T : Two μ p st L c μ') : sdel μ' p = sset μ st (.lst c) := by
  funext a
  unfold sdel
  by_cases h : a = p
  · subst h; rw [if_pos rfl, sset_ne (Ne.symm T.ne), T.hp]
  · rw [if_neg h]
    by_cases h2 : a = st
    · subst h2; rw [sset_same, T.sc]
    · rw [sset_ne h2]; exact T.ot a h h2
theorem atI_last {xs : List D} {d : D} : atI (xs ++ [d]) (-1) = some d := by
  unfold atI ixN
  rw [if_neg (by omega), if_pos (by rw [List.length_append, List.length_singleton]; omega)]
  show (xs ++ [d])[(-1 + (((xs ++ [d]).length : Nat) : Int)).toNat]? = some d
  have e : (-1 + (((xs ++ [d]).length : Nat) : Int)).toNat = xs.length := by rw [List.length_append, List.length_singleton]; omega
  rw [e, List.getElem?_append_right (Nat.le_refl _), Nat.sub_self]
  rfl
theorem prodI_eqR (ws : List Int) : prodI ws = prodR ws.reverse := by
  have e := prodI_rev ws.reverse
  rw [List.reverse_reverse] at e
  exact e
theorem prodI_pos0 {ws : List Int} (h : Pos ws) : 0 < prodI ws := by rw [prodI_eqR]; exact prodR_pos h.rev
theorem Pos.take {ws : List Int} (h : Pos ws) (j : Nat) : Pos (ws.take j) := fun w hw => h w (List.mem_of_mem_take hw)
/-- a product of a front is no greater -/
theorem prod_take_le {ws : List Int} (h : Pos ws) : ∀ j, prodI (ws.take j) ≤ prodI ws := by
  have step : ∀ j, prodI (ws.take j) ≤ prodI (ws.take (j + 1)) := fun j => by
    cases e : ws[j]? with
    | none =>
      have hl : ws.length ≤ j := by rw [List.getElem?_eq_none_iff] at e; exact e
      rw [List.take_of_length_le hl, List.take_of_length_le (by omega)]; exact Int.le_refl _
    | some z =>
      rw [LW.prod_snoc e]
      have h1 := prodI_pos0 (h.take j)
      have h2 := h z (List.mem_of_getElem? e)
      have : prodI (ws.take j) * 1 ≤ prodI (ws.take j) * z := Int.mul_le_mul_of_nonneg_left (by omega) (by omega)
      omega
  have far : ∀ k j, prodI (ws.take j) ≤ prodI (ws.take (j + k)) := fun k => by
    induction k with
    | zero => intro j; exact Int.le_refl _
    | succ k ih => intro j; exact Int.le_trans (ih j) (step (j + k))
  intro j
  have := far ws.length j
  rw [List.take_of_length_le (by omega : ws.length ≤ j + ws.length)] at this
  exact this
theorem WB.of {ws : List Int} (hl : ws.length ≤ 1000) (hp : Pos ws) (hh : ∀ w ∈ ws, w < 2 ^ 100) (hb : prodI ws < 2 ^ 200) : WB ws :=
  ⟨hl, fun w hw => by have := hp w hw; omega, hh, fun j => ⟨by have := prodI_pos0 (hp.take j); omega, by have := prod_take_le hp j; omega⟩⟩
end LW
set_option Elab.async false
set_option linter.all false
set_option maxRecDepth 100000
namespace LW
open PySem PySem.Spec L2 DW
inductive Am where
  | any | best (r : List Int) | second (r : List Int) | most | fewest | fixed | like (i : Nat) | unlike (i : Nat) | among (l : List Int) | only (l : List Int) | table (rows : List (List Int))
  | either (a b : Am) | both (a b : Am) | els (a b : Am) | not (a : Am) | first (a : Am) | recode (m : List Int) (a : Am) | reorder (p : List Int) (a : Am)
namespace Am
def iT (l : List Int) : D := .tup (l.map .int)
def d : Am → D
  | any => .tup [.str "any"]
  | best r => .tup [.str "best", iT r]
  | second r => .tup [.str "second", iT r]
  | most => .tup [.str "most"]
  | fewest => .tup [.str "fewest"]
  | fixed => .tup [.str "fixed"]
  | like i => .tup [.str "like", .int i]
  | unlike i => .tup [.str "unlike", .int i]
  | among l => .tup [.str "among", iT l]
  | only l => .tup [.str "only", iT l]
  | table rows => .tup [.str "table", .tup (rows.map iT)]
  | either a b => .tup [.str "either", a.d, b.d]
  | both a b => .tup [.str "both", a.d, b.d]
  | els a b => .tup [.str "else", a.d, b.d]
  | not a => .tup [.str "not", a.d]
  | first a => .tup [.str "first", a.d]
  | recode m a => .tup [.str "recode", iT m, a.d]
  | reorder p a => .tup [.str "reorder", iT p, a.d]
def dep : Am → Nat
  | either a b => max a.dep b.dep + 1
  | both a b => max a.dep b.dep + 1
  | els a b => max a.dep b.dep + 1
  | not a => a.dep + 1
  | first a => a.dep + 1
  | recode _ a => a.dep + 1
  | reorder _ a => a.dep + 1
  | _ => 1
end Am
/-- ascending numbers from lo on, below hi -/
def Asc (hi : Int) : Int → List Int → Prop
  | _, [] => True
  | lo, x :: r => lo ≤ x ∧ x < hi ∧ Asc hi (x + 1) r
structure CtxOk (n k : Nat) (c : List Int) : Prop where
  len : c.length = n
  lo : ∀ r ∈ c, 0 ≤ r
  hi : ∀ r ∈ c, r < k
  n1 : 1 ≤ n
  n64 : n ≤ 64
  k1 : 1 ≤ k
  k4 : k ≤ 4
def NumOk (len lim : Nat) (r : List Int) : Prop := r.length = len ∧ ∀ x ∈ r, 0 ≤ x ∧ x < (lim : Int)
def AmOk (n k : Nat) : Am → Prop
  | .any => True
  | .best r => NumOk k 10 r
  | .second r => NumOk k 10 r
  | .most => True
  | .fewest => True
  | .fixed => True
  | .like i => i < n
  | .unlike i => i < n
  | .among l => Asc k 0 l
  | .only l => Asc n 0 l
  | .table rows => n ≤ 8 ∧ k ^ n ≤ 256 ∧ rows.length = k ^ n ∧ ∀ l ∈ rows, Asc n 0 l
  | .either a b => AmOk n k a ∧ AmOk n k b
  | .both a b => AmOk n k a ∧ AmOk n k b
  | .els a b => AmOk n k a ∧ AmOk n k b
  | .not a => AmOk n k a
  | .first a => AmOk n k a
  | .recode m a => NumOk k k m ∧ AmOk n k a
  | .reorder p a => NumOk n n p ∧ p.Nodup ∧ AmOk n k a
def at' (l : List Int) (i : Int) : Int := l.getD i.toNat 0
/-- the number of a context -/
def ctxIx (k : Nat) (c : List Int) : Int := c.foldl (fun s r => s * k + r) 0
def someI (n : Nat) (p : Nat → Bool) : Bool := (List.range n).any p
def isG (k : Nat) : Am → List Int → Nat → Bool
  | .any, _, _ => true
  | .best r, c, x => c.all fun s => decide (at' r s ≤ at' r (c.getD x 0))
  | .second r, c, x => let m := at' r (c.getD x 0); c.all (fun s => m == at' r s) || (let ab := (c.map (at' r)).filter (fun s => decide (m < s)); decide (0 < ab.length) && ab.all (· == ab.getD 0 0))
  | .most, c, x => c.all fun s => decide (c.count s ≤ c.count (c.getD x 0))
  | .fewest, c, x => c.all fun s => decide (c.count (c.getD x 0) ≤ c.count s)
  | .fixed, c, x => c.getD x 0 == (x : Int)
  | .like i, c, x => c.getD x 0 == c.getD i 0
  | .unlike i, c, x => c.getD x 0 != c.getD i 0
  | .among l, c, x => l.contains (c.getD x 0)
  | .only l, _, x => l.contains (x : Int)
  | .table rows, c, x => (rows.getD (ctxIx k c).toNat []).contains (x : Int)
  | .either a b, c, x => isG k a c x || isG k b c x
  | .both a b, c, x => isG k a c x && isG k b c x
  | .els a b, c, x => if someI c.length (isG k a c) then isG k a c x else isG k b c x
  | .not a, c, x => !isG k a c x
  | .first a, c, x => isG k a c x && !someI x (isG k a c)
  | .recode m a, c, x => isG k a (c.map (at' m)) x
  | .reorder p a, c, x => isG k a ((List.range c.length).map fun (y : Nat) => c.getD (p.idxOf (y : Int)) (0 : Int)) (at' p x).toNat
def flagL (k : Nat) (a : Am) (c : List Int) : List D := (List.range c.length).map fun x => .bl (isG k a c x)
def FlC (P : Am → Prop) : Con := fun ds μ Φ _ => ∃ (n k : Nat) (a : Am) (c : List Int), P a ∧ AmOk n k a ∧ CtxOk n k c ∧ ds = [a.d, .tup (c.map .int), .int k] ∧ Φ (.lst (flagL k a c)) μ
section
variable {Ψ : XP} {Φ : DK} {n : Nat} {φ : DE} {δw : DEnv} {μ1 : Sto}
/-- over numbers, by the place -/
theorem lcI {ws : List Int} (v : Nat → D) (hz : ws.length ≤ 100000)
    (hs : ∀ (i : Nat) (z : Int) (μ2 : Sto) (X : DK), ws[i]? = some z → Sub μ1 μ2 → X (v i) μ2 → φ Ψ (δw.set n (some (.int z))) μ2 X)
    (hd : Φ (.lst ((List.range ws.length).map v)) μ1) : LcG (eName n) dYes φ δw Ψ (ws.map .int) μ1 Φ := by
  have hl : (ws.map D.int).length = ws.length := List.length_map ..
  refine lcG_mapN v (by rw [hl]; exact hz) (fun i d μ2 X hi hsub hx => ?_) (by rw [hl]; exact hd)
  obtain ⟨z, e, rfl⟩ := mapI_get hi
  exact hs i z μ2 X e hsub hx
/-- over numbers, by the number -/
theorem lcZ {ws : List Int} (f : Int → D) (hz : ws.length ≤ 100000)
    (hs : ∀ (z : Int) (μ2 : Sto) (X : DK), z ∈ ws → Sub μ1 μ2 → X (f z) μ2 → φ Ψ (δw.set n (some (.int z))) μ2 X)
    (hd : Φ (.lst (ws.map f)) μ1) : LcG (eName n) dYes φ δw Ψ (ws.map .int) μ1 Φ := by
  refine lcI (fun i => f (ws.getD i 0)) hz (fun i z μ2 X hi hsub hx => ?_) ?_
  · rw [List.getD_eq_getElem?_getD, hi] at hx
    exact hs z μ2 X (List.mem_of_getElem? hi) hsub hx
  · have : (List.range ws.length).map (fun i => f (ws.getD i 0)) = ws.map f := by
      apply List.ext_getElem
      · simp
      · intro i h1 h2
        simp at h1
        simp [List.getD_eq_getElem?_getD, List.getElem?_eq_getElem h1]
    rw [this]; exact hd
/-- over a range -/
theorem lcR {m : Nat} (v : Nat → D) (hz : m ≤ 100000)
    (hs : ∀ (i : Nat) (μ2 : Sto) (X : DK), i < m → Sub μ1 μ2 → X (v i) μ2 → φ Ψ (δw.set n (some (.int (i : Int)))) μ2 X)
    (hd : Φ (.lst ((List.range m).map v)) μ1) : LcG (eName n) dYes φ δw Ψ (rngD 0 m) μ1 Φ := by
  refine lcG_mapN v (by rw [rngD_len]; exact hz) (fun i d μ2 X hi hsub hx => ?_) (by rw [rngD_len]; exact hd)
  obtain ⟨hj, rfl⟩ := rngD_get hi
  have := hs i μ2 X hj hsub hx
  rw [Int.zero_add]
  exact this
/-- over enumerate of numbers -/
theorem lcEn {a b : Nat} {ws : List Int} (v : Nat → D) (hz : ws.length ≤ 100000)
    (hs : ∀ (i : Nat) (z : Int) (μ2 : Sto) (X : DK), ws[i]? = some z → Sub μ1 μ2 → X (v i) μ2 → φ Ψ ((δw.set a (some (.int i))).set b (some (.int z))) μ2 X)
    (hd : Φ (.lst ((List.range ws.length).map v)) μ1) : LcG (eTup 2 (eCons (eName a) (eCons (eName b) eNil))) dYes φ δw Ψ ((List.range ws.length).map fun (i : Nat) => D.pr [D.int (i : Int), (ws.map D.int).getD i D.non]) μ1 Φ := by
  have hl : ((List.range ws.length).map fun (i : Nat) => D.pr [D.int (i : Int), (ws.map D.int).getD i D.non]).length = ws.length := by simp
  refine lcG_pure (fun _ => true) v (by rw [hl]; exact hz) (fun i d μ2 X Y hi hsub hx hy => ?_) (by rw [givenD_all, hl]; exact hd)
  rw [List.getElem?_map, Option.map_eq_some_iff] at hi
  obtain ⟨j, hj, rfl⟩ := hi
  obtain ⟨hj1, hj2⟩ := List.getElem?_eq_some_iff.mp hj
  simp at hj2
  subst hj2
  have hlt : i < ws.length := by simpa using hj1
  have e : (ws.map D.int).getD i D.non = .int ws[i] := by simp [List.getD_eq_getElem?_getD, hlt]
  rw [e]
  have := hs i ws[i] μ2 X (List.getElem?_eq_getElem hlt) hsub (hx rfl)
  simp only [u_etup, w_tplP, u_econs, u_enil, u_name, u_yes, List.length_cons, List.length_nil, w_consE, ex_some]
  simpa using this
theorem inD_I (z : Int) : ∀ l : List Int, inD (.int z) (l.map .int) = l.contains z
  | [] => rfl
  | x :: l => by
    have ih := inD_I z l
    unfold inD at ih ⊢
    rw [List.map_cons, List.any_cons, ih, List.contains_cons]
    show (x == z || l.contains z) = _
    by_cases hh : x = z
    · rw [hh]
    · rw [beq_eq_false_iff_ne.mpr hh, beq_eq_false_iff_ne.mpr (Ne.symm hh)]
theorem flat_I (l : List Int) : (l.map D.int).all flatD = true := by rw [List.all_map]; exact List.all_eq_true.mpr fun _ _ => rfl
theorem in_I {z : Int} {l : List Int} {μ : Sto} {X : DK} (h : X (.bl (l.contains z)) μ) : oIn false (.int z) (.tup (l.map .int)) μ X :=
  ⟨_, .tup _, rfl, flat_I l, by rw [if_neg Bool.false_ne_true, inD_I]; exact h⟩
theorem atI_map {α : Type} {f : α → D} {l : List α} {i : Int} (h0 : 0 ≤ i) (h : i.toNat < l.length) : atI (l.map f) i = some (f l[i.toNat]) := by
  obtain ⟨j, rfl⟩ : ∃ j : Nat, i = (j : Int) := ⟨i.toNat, by omega⟩
  have hj : j < l.length := h
  show atI (l.map f) (j : Int) = some (f l[j])
  exact atI_nat (by rw [List.getElem?_map, List.getElem?_eq_getElem hj]; rfl)
theorem getD_of {ws : List Int} {i : Nat} {z : Int} (h : ws[i]? = some z) : ws.getD i 0 = z := by rw [List.getD_eq_getElem?_getD, h]; rfl
end
theorem rep_any (n : Nat) (x : D) : (List.replicate n [x]).flatten = (List.range n).map fun _ => x := by
  rw [List.flatten_replicate_singleton, List.map_const', List.length_range]
theorem repI (n : Nat) (k : Int) : (List.replicate n [D.int k]).flatten = (List.replicate n k).map D.int := by
  induction n with
  | zero => rfl
  | succ n ih => rw [List.replicate_succ, List.flatten_cons, ih, List.replicate_succ, List.map_cons]; rfl
theorem prodI_rep (n : Nat) (k : Int) : prodI (List.replicate n k) = k ^ n := by
  induction n with
  | zero => rw [Int.pow_zero]; rfl
  | succ n ih => rw [List.replicate_succ', prodI_snoc, ih, Int.pow_succ]
theorem pow_small {k n : Nat} (hk1 : 1 ≤ k) (hk : k ≤ 4) (hn : n ≤ 64) : k ^ n ≤ 2 ^ 128 := by
  have h1 : k ^ n ≤ 4 ^ n := Nat.pow_le_pow_left hk n
  have h2 : 4 ^ n ≤ 4 ^ 64 := Nat.pow_le_pow_right (by decide) hn
  exact Nat.le_trans h1 (Nat.le_trans h2 (by decide))
theorem WB_rep {n k : Nat} (hn : n ≤ 64) (hk1 : 1 ≤ k) (hk : k ≤ 4) : WB (List.replicate n (k : Int)) := by
  refine WB.of (by rw [List.length_replicate]; omega) (fun w hw => ?_) (fun w hw => ?_) ?_
  · rw [List.eq_of_mem_replicate hw]; omega
  · rw [List.eq_of_mem_replicate hw]
    have : (k : Int) ≤ 4 := by omega
    exact Int.lt_of_le_of_lt this (by decide)
  · rw [prodI_rep, ← Int.natCast_pow]
    have := pow_small hk1 hk hn
    have h2 : ((k ^ n : Nat) : Int) ≤ ((2 ^ 128 : Nat) : Int) := Int.ofNat_le.mpr this
    exact Int.lt_of_le_of_lt h2 (by decide)
theorem idx_rep {k : Int} : ∀ (c : List Int) (a : Int), (∀ r ∈ c, 0 ≤ r ∧ r < k) → idxU a (List.replicate c.length k) c = some (c.foldl (fun s r => s * k + r) a)
  | [], a, _ => rfl
  | r :: c, a, h => by
    have h1 := h r List.mem_cons_self
    show (if 0 ≤ r ∧ r < k then idxU (a * k + r) (List.replicate c.length k) c else none) = _
    rw [if_pos h1, idx_rep c _ fun x hx => h x (List.mem_cons_of_mem _ hx)]
    rfl
theorem ctxIx_lt {k : Nat} : ∀ (c : List Int) (a M : Int), (∀ r ∈ c, 0 ≤ r ∧ r < (k : Int)) → 0 ≤ a → a < M → 0 ≤ c.foldl (fun (s r : Int) => s * (k : Int) + r) a ∧ c.foldl (fun (s r : Int) => s * (k : Int) + r) a < M * ((k ^ c.length : Nat) : Int)
  | [], a, M, _, h0, h1 => by simp; exact ⟨h0, h1⟩
  | r :: c, a, M, h, h0, h1 => by
    have hr := h r List.mem_cons_self
    have q0 : 0 ≤ a * (k : Int) := Int.mul_nonneg h0 (by omega)
    have q1 : (a + 1) * (k : Int) ≤ M * k := Int.mul_le_mul_of_nonneg_right (by omega) (by omega)
    rw [Int.add_mul, Int.one_mul] at q1
    have := ctxIx_lt c (a * k + r) (M * k) (fun x hx => h x (List.mem_cons_of_mem _ hx)) (by omega) (by omega)
    rw [List.foldl_cons, List.length_cons, Nat.pow_succ, Int.natCast_mul, Int.mul_comm ((k ^ c.length : Nat) : Int), ← Int.mul_assoc]
    exact this
theorem ctxIx_ok {n k : Nat} {c : List Int} (hc : CtxOk n k c) : 0 ≤ ctxIx k c ∧ (ctxIx k c).toNat < k ^ n := by
  have := ctxIx_lt c 0 1 (fun r hr => ⟨hc.lo r hr, hc.hi r hr⟩) (Int.le_refl 0) (by decide)
  rw [hc.len, Int.one_mul] at this
  unfold ctxIx
  omega
theorem max_iff {c : List Int} {f : Int → Int} {m z : Int} (hz : z ∈ c) (hm : m ∈ c.map f) (hmax : ∀ y ∈ c.map f, y ≤ m) : decide (f z = m) = c.all fun s => decide (f s ≤ f z) := by
  rw [Bool.eq_iff_iff]
  simp only [decide_eq_true_eq, List.all_eq_true]
  constructor
  · intro e s hs
    rw [e]; exact hmax _ (List.mem_map_of_mem hs)
  · intro h
    obtain ⟨s, hs, e⟩ := List.mem_map.mp hm
    have h1 := h s hs
    have h2 := hmax _ (List.mem_map_of_mem hz)
    omega
theorem min_iff {c : List Int} {f : Int → Int} {m z : Int} (hz : z ∈ c) (hm : m ∈ c.map f) (hmin : ∀ y ∈ c.map f, m ≤ y) : decide (f z = m) = c.all fun s => decide (f z ≤ f s) := by
  rw [Bool.eq_iff_iff]
  simp only [decide_eq_true_eq, List.all_eq_true]
  constructor
  · intro e s hs
    rw [e]; exact hmin _ (List.mem_map_of_mem hs)
  · intro h
    obtain ⟨s, hs, e⟩ := List.mem_map.mp hm
    have h1 := h s hs
    have h2 := hmin _ (List.mem_map_of_mem hz)
    omega
theorem last_two : ∀ {ns : List Int}, 2 ≤ ns.length → ∃ pre s t, ns = pre ++ [s, t]
  | [], h => by simp at h
  | [_], h => by simp at h
  | [a, b], _ => ⟨[], a, b, rfl⟩
  | a :: b :: c :: r, _ => by
    obtain ⟨pre, s, t, e⟩ := last_two (ns := b :: c :: r) (by simp)
    exact ⟨a :: pre, s, t, by rw [e]; rfl⟩
theorem atI_last2 {xs : List D} {d e : D} : atI (xs ++ [d, e]) (-2) = some d := by
  unfold atI ixN
  rw [if_neg (by omega), if_pos (by simp; omega)]
  show (xs ++ [d, e])[(-2 + (((xs ++ [d, e]).length : Nat) : Int)).toNat]? = some d
  have e : (-2 + (((xs ++ [d, e]).length : Nat) : Int)).toNat = xs.length := by rw [List.length_append]; simp; omega
  rw [e, List.getElem?_append_right (Nat.le_refl _), Nat.sub_self]
  rfl
/-- second best, as the law tells it -/
def sec (zs : List Int) (m : Int) : Bool := zs.all (fun s => m == s) || (let ab := zs.filter (fun s => decide (m < s)); decide (0 < ab.length) && ab.all (· == ab.getD 0 0))
theorem sec_one {zs ns : List Int} {m : Int} (hm : m ∈ zs) (mem : ∀ k : Int, k ∈ ns ↔ k ∈ zs) (h1 : ns.length = 1) : sec zs m = true := by
  unfold sec
  obtain ⟨x, rfl⟩ := List.length_eq_one_iff.mp h1
  have : zs.all (fun s => m == s) = true := by
    rw [List.all_eq_true]
    intro s hs
    have e1 := (mem m).mpr hm
    have e2 := (mem s).mpr hs
    simp at e1 e2
    simp [e1, e2]
  rw [this]; rfl
theorem sec_two {zs pre : List Int} {s t m : Int} (hm : m ∈ zs) (asc : (pre ++ [s, t]).Pairwise (· < ·)) (mem : ∀ k : Int, k ∈ pre ++ [s, t] ↔ k ∈ zs) : sec zs m = decide (m = s) := by
  obtain ⟨_, a2, a3⟩ := List.pairwise_append.mp asc
  have st : s < t := by simpa using a2
  have hs : s ∈ zs := (mem s).mp (by simp)
  have ht : t ∈ zs := (mem t).mp (by simp)
  have hmm := (mem m).mpr hm
  have no : zs.all (fun s => m == s) = false := by
    rw [Bool.eq_false_iff]
    intro h
    rw [List.all_eq_true] at h
    have e1 := h s hs
    have e2 := h t ht
    simp at e1 e2
    omega
  unfold sec
  rw [no, Bool.false_or]
  by_cases h : m = s
  · subst h
    have all : ∀ x ∈ zs.filter (fun s => decide (m < s)), x = t := fun x hx => by
      obtain ⟨x1, x2⟩ := List.mem_filter.mp hx
      have x3 := (mem x).mpr x1
      simp only [decide_eq_true_eq] at x2
      rcases List.mem_append.mp x3 with q | q
      · have := a3 x q m (by simp); omega
      · simp at q; omega
    have tin : t ∈ zs.filter (fun s => decide (m < s)) := List.mem_filter.mpr ⟨ht, by simpa using st⟩
    have l0 : 0 < (zs.filter (fun s => decide (m < s))).length := List.length_pos_of_mem tin
    generalize zs.filter (fun s => decide (m < s)) = ab at all l0
    simp only [l0, decide_true, Bool.true_and]
    have e0 : ab.getD 0 0 = t := by
      cases ab with
      | nil => simp at l0
      | cons y r => exact all y List.mem_cons_self
    rw [e0, List.all_eq_true]
    intro x hx
    simp [all x hx]
  · rw [decide_eq_false h]
    rcases List.mem_append.mp hmm with q | q
    · have h1 := a3 m q s (by simp)
      have h2 := a3 m q t (by simp)
      have sin : s ∈ zs.filter (fun s => decide (m < s)) := List.mem_filter.mpr ⟨hs, by simpa using h1⟩
      have tin : t ∈ zs.filter (fun s => decide (m < s)) := List.mem_filter.mpr ⟨ht, by simpa using h2⟩
      generalize zs.filter (fun s => decide (m < s)) = ab at sin tin
      rw [Bool.and_eq_false_iff]
      right
      rw [Bool.eq_false_iff]
      intro hh
      rw [List.all_eq_true] at hh
      have e1 := hh s sin
      have e2 := hh t tin
      rw [beq_iff_eq] at e1 e2
      omega
    · have mt : m = t := by simp at q; omega
      have emp : zs.filter (fun s => decide (m < s)) = [] := by
        rw [List.filter_eq_nil_iff]
        intro x hx
        have x3 := (mem x).mpr hx
        simp only [decide_eq_true_eq]
        rcases List.mem_append.mp x3 with q2 | q2
        · have := a3 x q2 t (by simp); omega
        · simp at q2; omega
      rw [emp]
      rfl
section
variable {Ψ : XP} {Φ : DK} {n : Nat} {φ : DE} {δw : DEnv} {μ1 : Sto}
theorem flagL_get {k : Nat} {x : Am} {c : List Int} {i : Nat} (h : i < c.length) : (flagL k x c)[i]? = some (.bl (isG k x c i)) := by
  unfold flagL
  rw [List.getElem?_map, List.getElem?_range h]
  rfl
theorem flagL_len {k : Nat} {x : Am} {c : List Int} : (flagL k x c).length = c.length := by unfold flagL; rw [List.length_map, List.length_range]
theorem lcF {k : Nat} {x : Am} {c : List Int} (v : Nat → D) (hz : c.length ≤ 100000)
    (hs : ∀ (i : Nat) (μ2 : Sto) (X : DK), i < c.length → Sub μ1 μ2 → X (v i) μ2 → φ Ψ (δw.set n (some (.bl (isG k x c i)))) μ2 X)
    (hd : Φ (.lst ((List.range c.length).map v)) μ1) : LcG (eName n) dYes φ δw Ψ (flagL k x c) μ1 Φ := by
  refine lcG_mapN v (by rw [flagL_len]; exact hz) (fun i d μ2 X hi hsub hx => ?_) (by rw [flagL_len]; exact hd)
  have hl : i < c.length := by have := (List.getElem?_eq_some_iff.mp hi).1; rw [flagL_len] at this; exact this
  rw [flagL_get hl] at hi
  cases hi
  exact hs i μ2 X hl hsub hx
theorem lcFF {a b k : Nat} {x y : Am} {c : List Int} (v : Nat → D) (hz : c.length ≤ 100000)
    (hs : ∀ (i : Nat) (μ2 : Sto) (X : DK), i < c.length → Sub μ1 μ2 → X (v i) μ2 → φ Ψ ((δw.set a (some (.bl (isG k x c i)))).set b (some (.bl (isG k y c i)))) μ2 X)
    (hd : Φ (.lst ((List.range c.length).map v)) μ1) : LcG (eTup 2 (eCons (eName a) (eCons (eName b) eNil))) dYes φ δw Ψ (((flagL k x c).zip (flagL k y c)).map fun p => D.pr [p.1, p.2]) μ1 Φ := by
  have hl : (((flagL k x c).zip (flagL k y c)).map fun p => D.pr [p.1, p.2]).length = c.length := by simp [flagL_len]
  refine lcG_pure (fun _ => true) v (by rw [hl]; exact hz) (fun i d μ2 X Y hi hsub hx hy => ?_) (by rw [givenD_all, hl]; exact hd)
  have hlt : i < c.length := by have := (List.getElem?_eq_some_iff.mp hi).1; rw [hl] at this; exact this
  rw [List.getElem?_map, Option.map_eq_some_iff] at hi
  obtain ⟨⟨d1, d2⟩, hi, rfl⟩ := hi
  obtain ⟨g1, g2⟩ := List.getElem?_zip_eq_some.mp hi
  rw [flagL_get hlt] at g1 g2
  cases g1
  cases g2
  have := hs i μ2 X hlt hsub (hx rfl)
  simp only [u_etup, w_tplP, u_econs, u_enil, u_name, u_yes, List.length_cons, List.length_nil, w_consE, ex_some]
  simpa using this
theorem flat_F {k : Nat} {x : Am} {c : List Int} : (flagL k x c).all flatD = true := by unfold flagL; rw [List.all_map]; exact List.all_eq_true.mpr fun _ _ => rfl
theorem in_F {k : Nat} {x : Am} {c : List Int} {μ : Sto} {X : DK} (h : X (.bl (someI c.length (isG k x c))) μ) : oIn false (.bl true) (.lst (flagL k x c)) μ X :=
  ⟨_, .lst _, rfl, flat_F, by
    rw [if_neg Bool.false_ne_true]
    have e : inD (.bl true) (flagL k x c) = someI c.length (isG k x c) := by
      unfold inD flagL someI
      rw [List.any_map]
      congr 1
      funext i
      show (isG k x c i == true) = isG k x c i
      cases isG k x c i <;> rfl
    rw [e]; exact h⟩
theorem some_first {p : Nat → Bool} : ∀ {n : Nat}, someI n p = true → ∃ j, j < n ∧ p j = true ∧ ∀ m, m < j → p m = false
  | 0, h => by cases h
  | n + 1, h => by
    by_cases q : someI n p = true
    · obtain ⟨j, h1, h2, h3⟩ := some_first q
      exact ⟨j, by omega, h2, h3⟩
    · refine ⟨n, by omega, ?_, fun m hm => ?_⟩
      · unfold someI at h q
        rw [List.range_succ, List.any_append, Bool.or_eq_true] at h
        rcases h with h | h
        · exact absurd h q
        · simpa using h
      · rw [Bool.not_eq_true] at q
        unfold someI at q
        rw [List.any_eq_false] at q
        simpa using q m (List.mem_range.mpr hm)
theorem some_no {p : Nat → Bool} {n i : Nat} (h : someI n p = false) (hi : i < n) : p i = false := by
  unfold someI at h
  rw [List.any_eq_false] at h
  simpa using h i (List.mem_range.mpr hi)
theorem some_yes {p : Nat → Bool} {n i : Nat} (h : p i = true) (hi : i < n) : someI n p = true := by
  unfold someI
  exact List.any_eq_true.mpr ⟨i, List.mem_range.mpr hi, h⟩
theorem first_iff {p : Nat → Bool} {j i : Nat} (hj : p j = true) (hno : ∀ m, m < j → p m = false) : decide ((i : Int) = (j : Int)) = (p i && !someI i p) := by
  rcases Nat.lt_trichotomy i j with h | h | h
  · rw [hno i h, decide_eq_false (by omega)]; rfl
  · subst h
    rw [hj, decide_eq_true rfl]
    have : someI i p = false := by
      rw [Bool.eq_false_iff]
      intro z
      obtain ⟨m, h1, h2, _⟩ := some_first z
      rw [hno m h1] at h2; cases h2
    rw [this]; rfl
  · rw [some_yes hj h, decide_eq_false (by omega), Bool.not_true, Bool.and_false]
theorem perm_all {n : Nat} {l : List Int} (hl : NumOk n n l) (nd : l.Nodup) {y : Nat} (hy : y < n) : (y : Int) ∈ l := by
  apply Decidable.byContradiction
  intro h
  have := nodup_le (m := (List.range n).map fun (i : Nat) => (i : Int)) (List.nodup_cons.mpr ⟨h, nd⟩) fun x hx => by
    rw [List.mem_map]
    rcases List.mem_cons.mp hx with e | e
    · exact ⟨y, List.mem_range.mpr hy, e.symm⟩
    · have := hl.2 x e
      exact ⟨x.toNat, List.mem_range.mpr (by omega), by omega⟩
  rw [List.length_cons, hl.1, List.length_map, List.length_range] at this
  omega
end
theorem en_get {l : List Int} {i : Nat} {d : D} (h : ((List.range l.length).map fun (i : Nat) => D.pr [D.int (i : Int), (l.map D.int).getD i D.non])[i]? = some d) : ∃ z, l[i]? = some z ∧ d = .pr [.int i, .int z] := by
  rw [List.getElem?_map, Option.map_eq_some_iff] at h
  obtain ⟨j, hj, rfl⟩ := h
  obtain ⟨hj1, hj2⟩ := List.getElem?_eq_some_iff.mp hj
  simp at hj2
  subst hj2
  have hlt : i < l.length := by simpa using hj1
  have e : (l.map D.int).getD i D.non = .int l[i] := by simp [List.getD_eq_getElem?_getD, hlt]
  rw [e]
  exact ⟨l[i], List.getElem?_eq_getElem hlt, rfl⟩
theorem en_getR {l : List (List Int)} {i : Nat} {d : D} (h : ((List.range l.length).map fun (i : Nat) => D.pr [D.int (i : Int), (l.map Am.iT).getD i D.non])[i]? = some d) : ∃ z, l[i]? = some z ∧ d = .pr [.int i, Am.iT z] := by
  rw [List.getElem?_map, Option.map_eq_some_iff] at h
  obtain ⟨j, hj, rfl⟩ := h
  obtain ⟨hj1, hj2⟩ := List.getElem?_eq_some_iff.mp hj
  simp at hj2
  subst hj2
  have hlt : i < l.length := by simpa using hj1
  have e : (l.map Am.iT).getD i D.non = Am.iT l[i] := by simp [List.getD_eq_getElem?_getD, hlt]
  rw [e]
  exact ⟨l[i], List.getElem?_eq_getElem hlt, rfl⟩
theorem asc_mono {hi hi' : Int} (h : hi ≤ hi') : ∀ {lo : Int} {l : List Int}, Asc hi lo l → Asc hi' lo l
  | _, [], _ => trivial
  | _, x :: l, ⟨h1, h2, h3⟩ => ⟨h1, by omega, asc_mono h h3⟩
theorem asc_snoc {hi : Int} : ∀ {lo : Int} {l : List Int}, lo ≤ hi → Asc hi lo l → Asc (hi + 1) lo (l ++ [hi])
  | _, [], h, _ => ⟨h, by omega, trivial⟩
  | _, x :: l, h, ⟨h1, h2, h3⟩ => ⟨h1, by omega, asc_snoc (by omega) h3⟩
theorem FlC.len {P : Am → Prop} {ds μ Φ Ψ} (h : FlC P ds μ Φ Ψ) : ds.length = 3 := by obtain ⟨_, _, _, _, _, _, _, rfl, _⟩ := h; rfl
end LW
set_option Elab.async false
set_option linter.all false
set_option maxRecDepth 100000
namespace LW
open PySem PySem.Spec L2 DW
def optsI (n : Nat) : List Int := (List.range n).map fun (i : Nat) => (i : Int)
theorem rngD_opts (n : Nat) : rngD 0 n = (optsI n).map .int := by
  unfold rngD optsI
  rw [List.map_map]
  exact List.map_congr_left fun i _ => by show D.int (0 + (i : Int)) = D.int (i : Int); rw [Int.zero_add]
theorem mem_opts {n : Nat} {z : Int} : z ∈ optsI n ↔ 0 ≤ z ∧ z.toNat < n := by
  unfold optsI
  rw [List.mem_map]
  constructor
  · rintro ⟨i, hi, rfl⟩
    have := List.mem_range.mp hi
    omega
  · intro h
    exact ⟨z.toNat, List.mem_range.mpr h.2, by omega⟩
theorem optsI_len (n : Nat) : (optsI n).length = n := by unfold optsI; rw [List.length_map, List.length_range]
/-- the rows through columns -/
def thru (cols : List (List Int)) : List (List Int) := cols.foldl (fun rows col => rows.flatMap fun r => col.map fun e => r ++ [e]) [[]]
theorem thru_snoc (cols : List (List Int)) (c : List Int) : thru (cols ++ [c]) = (thru cols).flatMap fun r => c.map fun e => r ++ [e] := by
  unfold thru
  rw [List.foldl_append]
  rfl
/-- the contexts of a size, in their order -/
def ctxs (n k : Nat) : List (List Int) := thru (List.replicate n (optsI k))
/-- the context of a number -/
def digs (k : Nat) : Nat → Nat → List Int
  | 0, _ => []
  | n + 1, p => digs k n (p / k) ++ [((p % k : Nat) : Int)]
theorem range_mul (a k : Nat) : List.range (a * k) = (List.range a).flatMap fun p => (List.range k).map fun r => p * k + r := by
  induction a with
  | zero => simp
  | succ a ih => rw [Nat.succ_mul, List.range_add, ih, List.range_succ, List.flatMap_append]; simp
theorem ctxs_eq {k : Nat} (hk : 0 < k) : ∀ n, ctxs n k = (List.range (k ^ n)).map (digs k n)
  | 0 => rfl
  | n + 1 => by
    have ih := ctxs_eq hk n
    unfold ctxs at ih ⊢
    rw [List.replicate_succ', thru_snoc, ih, Nat.pow_succ, range_mul, List.flatMap_map, List.map_flatMap]
    refine congrArg (fun f => (List.range (k ^ n)).flatMap f) (funext fun p => ?_)
    unfold optsI
    rw [List.map_map, List.map_map]
    refine List.map_congr_left fun r hr => ?_
    have hr := List.mem_range.mp hr
    show digs k n p ++ [(r : Int)] = digs k n ((p * k + r) / k) ++ [(((p * k + r) % k : Nat) : Int)]
    have e1 : (p * k + r) / k = p := by rw [Nat.mul_comm, Nat.mul_add_div hk, Nat.div_eq_of_lt hr]; omega
    have e2 : (p * k + r) % k = r := by rw [Nat.mul_comm, Nat.mul_add_mod, Nat.mod_eq_of_lt hr]
    rw [e1, e2]
theorem ctxs_len {k : Nat} (hk : 0 < k) (n : Nat) : (ctxs n k).length = k ^ n := by rw [ctxs_eq hk, List.length_map, List.length_range]
theorem digs_ok {k : Nat} (hk : 0 < k) : ∀ n p, (digs k n p).length = n ∧ ∀ z ∈ digs k n p, 0 ≤ z ∧ z < (k : Int)
  | 0, _ => ⟨rfl, fun z hz => by cases hz⟩
  | n + 1, p => by
    obtain ⟨h1, h2⟩ := digs_ok hk n (p / k)
    refine ⟨by show (digs k n (p / k) ++ [((p % k : Nat) : Int)]).length = n + 1; rw [List.length_append, h1]; rfl, fun z hz => ?_⟩
    rcases List.mem_append.mp hz with q | q
    · exact h2 z q
    · rw [List.mem_singleton.mp q]
      have := Nat.mod_lt p hk
      omega
theorem ctxs_ok {n k : Nat} (n1 : 1 ≤ n) (n64 : n ≤ 64) (k1 : 1 ≤ k) (k4 : k ≤ 4) {c : List Int} (hc : c ∈ ctxs n k) : CtxOk n k c := by
  rw [ctxs_eq k1] at hc
  obtain ⟨p, _, rfl⟩ := List.mem_map.mp hc
  obtain ⟨h1, h2⟩ := digs_ok (k := k) k1 n p
  exact ⟨h1, fun r hr => (h2 r hr).1, fun r hr => (h2 r hr).2, n1, n64, k1, k4⟩
theorem digs_split (k : Nat) : ∀ (i m p : Nat), digs k (m + i) p = digs k m (p / k ^ i) ++ digs k i p
  | 0, m, p => by simp [digs]
  | i + 1, m, p => by
    show digs k (m + i) (p / k) ++ [((p % k : Nat) : Int)] = digs k m (p / k ^ (i + 1)) ++ (digs k i (p / k) ++ [((p % k : Nat) : Int)])
    rw [digs_split k i, ← List.append_assoc, Nat.div_div_eq_div_mul, ← Nat.pow_succ']
theorem digs_cons (k i p : Nat) : digs k (i + 1) p = ((p / k ^ i % k : Nat) : Int) :: digs k i p := by
  have h3 := digs_split k i 1 p
  rw [Nat.add_comm 1 i] at h3
  rw [h3]
  simp [digs]
end LW
set_option Elab.async false
set_option linter.all false
set_option maxRecDepth 100000
namespace LW
open PySem PySem.Spec L2 DW
def nth (c : List Int) (x : Int) : Int := c.getD x.toNat 0
def owL (c l : List Int) : List Int := (optsI c.length).filter fun x => l.contains (nth c x)
def hullL (c g : List Int) : List Int := owL c (g.map (nth c))
def coreL (c g : List Int) : List Int := (optsI c.length).filter fun x => !(((optsI c.length).filter fun y => !g.contains y).map (nth c)).contains (nth c x)
def complL (n : Nat) (g : List Int) : List Int := (optsI n).filter fun x => !g.contains x
theorem filt_ext {l : List Int} {p q : Int → Bool} (h : ∀ z ∈ l, p z = true ↔ q z = true) : l.filter p = l.filter q :=
  List.filter_congr fun z hz => Bool.eq_iff_iff.mpr (h z hz)
theorem has_map {c g : List Int} {v : Int} : (g.map (nth c)).contains v = true ↔ ∃ y ∈ g, nth c y = v := by
  rw [List.contains_iff_mem, List.mem_map]
theorem mem_hull {c g : List Int} {z : Int} : z ∈ hullL c g ↔ z ∈ optsI c.length ∧ ∃ y ∈ g, nth c y = nth c z := by
  unfold hullL owL
  rw [List.mem_filter, has_map]
theorem mem_compl {n : Nat} {g : List Int} {z : Int} : z ∈ complL n g ↔ z ∈ optsI n ∧ z ∉ g := by
  unfold complL
  rw [List.mem_filter, Bool.not_eq_true', ← Bool.not_eq_true, List.contains_iff_mem]
theorem coreP {c g : List Int} {z : Int} : (!(((optsI c.length).filter fun y => !g.contains y).map (nth c)).contains (nth c z)) = true ↔ ∀ y ∈ optsI c.length, y ∉ g → nth c y ≠ nth c z := by
  rw [Bool.not_eq_true', ← Bool.not_eq_true, has_map]
  constructor
  · intro h y hy hg e
    exact h ⟨y, mem_compl.mpr ⟨hy, hg⟩, e⟩
  · rintro h ⟨y, hy, e⟩
    obtain ⟨h1, h2⟩ := mem_compl.mp hy
    exact h y h1 h2 e
theorem mem_core {c g : List Int} {z : Int} : z ∈ coreL c g ↔ z ∈ optsI c.length ∧ ∀ y ∈ optsI c.length, y ∉ g → nth c y ≠ nth c z := by
  unfold coreL
  rw [List.mem_filter, coreP]
/-- two lists that are options filtered are equal if they have the same members -/
theorem filt_mem {l : List Int} {p q : Int → Bool} (h : ∀ z, z ∈ l.filter p ↔ z ∈ l.filter q) : l.filter p = l.filter q :=
  filt_ext fun z hz => by
    have := h z
    rw [List.mem_filter, List.mem_filter] at this
    exact ⟨fun a => (this.mp ⟨hz, a⟩).2, fun a => (this.mpr ⟨hz, a⟩).2⟩
theorem hull_hull (c g : List Int) : hullL c (hullL c g) = hullL c g := filt_mem fun z => by
  show z ∈ hullL c (hullL c g) ↔ z ∈ hullL c g
  rw [mem_hull]
  constructor
  · rintro ⟨hz, y, hy, e⟩
    obtain ⟨_, y', hy', e'⟩ := mem_hull.mp hy
    exact mem_hull.mpr ⟨hz, y', hy', e'.trans e⟩
  · intro h
    exact ⟨(mem_hull.mp h).1, z, h, rfl⟩
theorem core_hull (c g : List Int) : coreL c (hullL c g) = hullL c g := filt_mem fun z => by
  show z ∈ coreL c (hullL c g) ↔ z ∈ hullL c g
  rw [mem_core]
  constructor
  · rintro ⟨hz, h⟩
    refine Classical.byContradiction fun hn => h z hz hn rfl
  · intro h
    obtain ⟨hz, y', hy', e'⟩ := mem_hull.mp h
    exact ⟨hz, fun y hy hn e => hn (mem_hull.mpr ⟨hy, y', hy', e'.trans e.symm⟩)⟩
theorem hull_core (c g : List Int) : hullL c (coreL c g) = coreL c g := filt_mem fun z => by
  show z ∈ hullL c (coreL c g) ↔ z ∈ coreL c g
  rw [mem_hull]
  constructor
  · rintro ⟨hz, y, hy, e⟩
    obtain ⟨_, h⟩ := mem_core.mp hy
    exact mem_core.mpr ⟨hz, fun y' hy' hn e' => h y' hy' hn (e'.trans e.symm)⟩
  · intro h
    exact ⟨(mem_core.mp h).1, z, h, rfl⟩
theorem core_core (c g : List Int) : coreL c (coreL c g) = coreL c g := by
  have := core_hull c (coreL c g)
  rw [hull_core] at this
  exact this
theorem hull_compl (c g : List Int) : hullL c (complL c.length g) = complL c.length (coreL c g) := filt_mem fun z => by
  show z ∈ hullL c (complL c.length g) ↔ z ∈ complL c.length (coreL c g)
  rw [mem_hull, mem_compl]
  constructor
  · rintro ⟨hz, y, hy, e⟩
    obtain ⟨h1, h2⟩ := mem_compl.mp hy
    exact ⟨hz, fun hc => (mem_core.mp hc).2 y h1 h2 e⟩
  · rintro ⟨hz, hn⟩
    refine ⟨hz, Classical.byContradiction fun hno => hn (mem_core.mpr ⟨hz, fun y hy hg e => hno ⟨y, mem_compl.mpr ⟨hy, hg⟩, e⟩⟩)⟩
theorem core_compl (c g : List Int) (hg : ∀ z ∈ g, z ∈ optsI c.length) : coreL c (complL c.length g) = complL c.length (hullL c g) := filt_mem fun z => by
  show z ∈ coreL c (complL c.length g) ↔ z ∈ complL c.length (hullL c g)
  rw [mem_core, mem_compl]
  constructor
  · rintro ⟨hz, h⟩
    refine ⟨hz, fun hh => ?_⟩
    obtain ⟨_, y, hy, e⟩ := mem_hull.mp hh
    exact h y (hg y hy) (fun hc => (mem_compl.mp hc).2 hy) e
  · rintro ⟨hz, hn⟩
    refine ⟨hz, fun y hy hc e => hn (mem_hull.mpr ⟨hz, y, ?_, e⟩)⟩
    exact Classical.byContradiction fun hno => hc (mem_compl.mpr ⟨hy, hno⟩)
/-- a filtered list of options is its hull exactly if it is its core -/
theorem hull_iff_core {c : List Int} {p : Int → Bool} : hullL c ((optsI c.length).filter p) = (optsI c.length).filter p ↔ coreL c ((optsI c.length).filter p) = (optsI c.length).filter p := by
  constructor
  · intro h
    have := core_hull c ((optsI c.length).filter p)
    rw [h] at this
    exact this
  · intro h
    have := hull_core c ((optsI c.length).filter p)
    rw [h] at this
    exact this
theorem compl_compl {n : Nat} {p : Int → Bool} : complL n (complL n ((optsI n).filter p)) = (optsI n).filter p := filt_mem fun z => by
  show z ∈ complL n (complL n ((optsI n).filter p)) ↔ z ∈ (optsI n).filter p
  rw [mem_compl, mem_compl]
  constructor
  · rintro ⟨hz, h⟩
    exact Classical.byContradiction fun hn => h ⟨hz, hn⟩
  · intro h
    exact ⟨(List.mem_filter.mp h).1, fun z => z.2 h⟩
theorem fair_compl {c : List Int} {p : Int → Bool} : hullL c (complL c.length ((optsI c.length).filter p)) = complL c.length ((optsI c.length).filter p) ↔ hullL c ((optsI c.length).filter p) = (optsI c.length).filter p := by
  rw [hull_compl, hull_iff_core]
  constructor
  · intro h
    have e := congrArg (complL c.length) h
    rw [compl_compl] at e
    have e2 : ∀ G : List Int, complL c.length (complL c.length (coreL c G)) = coreL c G := fun G => compl_compl (n := c.length) (p := fun x => !(((optsI c.length).filter fun y => !G.contains y).map (nth c)).contains (nth c x))
    rw [e2] at e
    exact e
  · intro h
    rw [h]
/-- unions and meets -/
theorem hull_or (c g1 g2 g : List Int) (h : ∀ z, z ∈ g ↔ z ∈ g1 ∨ z ∈ g2) : hullL c g = (optsI c.length).filter fun z => (hullL c g1).contains z || (hullL c g2).contains z := filt_mem fun z => by
  show z ∈ hullL c g ↔ _
  rw [mem_hull, List.mem_filter, Bool.or_eq_true, List.contains_iff_mem, List.contains_iff_mem, mem_hull, mem_hull]
  constructor
  · rintro ⟨hz, y, hy, e⟩
    rcases (h y).mp hy with q | q
    · exact ⟨hz, .inl ⟨hz, y, q, e⟩⟩
    · exact ⟨hz, .inr ⟨hz, y, q, e⟩⟩
  · rintro ⟨hz, ⟨_, y, q, e⟩ | ⟨_, y, q, e⟩⟩
    · exact ⟨hz, y, (h y).mpr (.inl q), e⟩
    · exact ⟨hz, y, (h y).mpr (.inr q), e⟩
theorem core_and (c g1 g2 g : List Int) (h : ∀ z, z ∈ g ↔ z ∈ g2 ∧ z ∈ g1) : coreL c g = (coreL c g1).filter fun z => (coreL c g2).contains z := by
  unfold coreL
  rw [List.filter_filter]
  refine filt_ext fun z hz => ?_
  rw [coreP, Bool.and_eq_true, List.contains_iff_mem, coreP]
  constructor
  · intro q
    refine ⟨List.mem_filter.mpr ⟨hz, coreP.mpr fun y hy hn => q y hy fun hg => hn ((h y).mp hg).1⟩, fun y hy hn => q y hy fun hg => hn ((h y).mp hg).2⟩
  · rintro ⟨q1, q2⟩ y hy hn e
    have q1 := coreP.mp (List.mem_filter.mp q1).2
    by_cases h1 : y ∈ g1
    · exact q1 y hy (fun h2 => hn ((h y).mpr ⟨h2, h1⟩)) e
    · exact q2 y hy h1 e
theorem givenD_ow (c l : List Int) : givenD c.length (fun i => l.contains (c.getD i 0)) (fun i => D.int (i : Int)) = (owL c l).map .int := by
  unfold givenD owL optsI
  rw [List.filter_map, List.map_map]
  rfl
end LW
set_option Elab.async false
set_option linter.all false
set_option maxRecDepth 100000
set_option maxHeartbeats 4000000
namespace LW
open PySem PySem.Spec L2 DW PyProof.Rows
def topS (i : Nat) : Stmt := PySem.Challenge.pw_choosersrow_k09_fair_hulls_and_cores.main.body.getD i (.Pass ⟨0, 0, 0, 0⟩)
local macro_rules | `(tactic| walk_at "wp") => `(tactic| try simp only [u_binX, u_invX, w_neB, u_methXN, u_makeSN, u_tupR1, u_lc2, u_iZM, w_zipLT, w_zipTL, u_cntL, u_lstR1O, u_fld, w_fld, w_someE, u_setF, u_methX, w_objE, u_makeS, u_sortSet, u_lstR1, u_iZipL, u_iEnL, u_idx, u_popAt, u_cntT, u_idxT, u_callF, w_maxL, w_minL, w_ixDc, w_inDc, w_repL, w_listLs, w_tplT, w_tplP, u_isE, w_isE, u_kitER, u_kitET, u_excE, u_xf, w_xf1, u_slS, u_raise1, u_iEn, w_listStr, w_lenStr, w_catStr, w_ixStr, w_inStr, w_strE, w_strI, w_strS, u_rest, cut_to, cut_from1, Int.zero_add, u_revT, w_repT, u_tupG, u_try, u_gPlain, u_gThen, u_gNil, u_yield, u_gWhile, u_while, u_isX, u_kitR, u_kitT, u_excOk, w_zipE, u_goalX, u_lc, rngD_len, Int.toNat_natCast, u_for, u_iT, u_iL, u_iR1, u_iR2, u_iZ, u_iS, w_lstE, dwipe, u_asg, u_asgS, u_ret, u_retN, u_if, u_next, u_break, u_cont, u_drop, u_raise, u_aug, u_var, u_c, u_op, u_un, u_test, u_and, u_or, u_not, u_yes, u_andV, u_orV, u_notV, u_ifE, u_chain, u_nil, u_cons, u_tup, u_lst, u_own, u_cb, u_call, u_callS, u_name, u_etup, u_enil, u_econs, u_sub, u_app, u_slT, u_slL, u_noPart, u_part, u_revL, ex_some, w_I0, w_I, w_uI, w_int, w_bl, w_isi, w_someb, w_eqI, w_neI, w_eqS, w_neS, w_lenT, w_lenL, w_lenS, w_tupL, w_tupT, w_ixT, w_ixL, w_ixS, w_catT, w_catL, w_all, w_any, w_min2, w_divmod, w_listS, w_listL, w_listT, w_isN, w_notN, w_tupE, w_intE, w_consE, w_hdE, w_cellS, w_set, at0, at1, at2, at3, i_tT, i_tI, i_tB, i_tS, i_nT, i_nI, i_nB, i_nS, i_iT, i_iI, i_iB, i_iS, i_bT, i_bI, i_bB, i_bS, i_sT, i_sI, i_sB, i_sS, v_itemsS, w_eqB, isNone, dstart, List.map, List.length, List.replicate, List.cons_append, List.nil_append, List.append_nil, List.getElem?_cons_zero, List.getElem?_cons_succ, List.set_cons_zero, List.set_cons_succ, ix40, ix42, ix43, true_implies, false_implies, and_true, true_and, Bool.not_true, Bool.not_false, decide_eq_true_eq, decide_eq_false_iff_not, List.length_map, Nat.reduceAdd, reduceCtorEq, v_ixH, v_items, v_itemsT, v_itemsL, v_len, v_tuple, v_list, v_listOwn, sset_same, sset_sset, Option.some.injEq, Cell.lst.injEq, Cell.frz.injEq, false_and, exists_false, or_false, false_or, exists_eq_left', ne_eq, not_false_eq_true, isTup, Bool.true_eq_false, Bool.false_eq_true])
local macro_rules | `(tactic| walk_at "wps") => `(tactic| try simp only [u_seq, u_binX, u_invX, w_neB, u_methXN, u_makeSN, u_tupR1, u_lc2, u_iZM, w_zipLT, w_zipTL, u_cntL, u_lstR1O, u_fld, w_fld, w_someE, u_setF, u_methX, w_objE, u_makeS, u_sortSet, u_lstR1, u_iZipL, u_iEnL, u_idx, u_popAt, u_cntT, u_idxT, u_callF, w_maxL, w_minL, w_ixDc, w_inDc, w_repL, w_listLs, w_tplT, w_tplP, u_isE, w_isE, u_kitER, u_kitET, u_excE, u_xf, w_xf1, u_slS, u_raise1, u_iEn, w_listStr, w_lenStr, w_catStr, w_ixStr, w_inStr, w_strE, w_strI, w_strS, u_rest, cut_to, cut_from1, Int.zero_add, u_revT, w_repT, u_tupG, u_try, u_gPlain, u_gThen, u_gNil, u_yield, u_gWhile, u_while, u_isX, u_kitR, u_kitT, u_excOk, w_zipE, u_goalX, u_lc, rngD_len, Int.toNat_natCast, u_for, u_iT, u_iL, u_iR1, u_iR2, u_iZ, u_iS, w_lstE, dwipe, u_asg, u_asgS, u_ret, u_retN, u_if, u_next, u_break, u_cont, u_drop, u_raise, u_aug, u_var, u_c, u_op, u_un, u_test, u_and, u_or, u_not, u_yes, u_andV, u_orV, u_notV, u_ifE, u_chain, u_nil, u_cons, u_tup, u_lst, u_own, u_cb, u_call, u_callS, u_name, u_etup, u_enil, u_econs, u_sub, u_app, u_slT, u_slL, u_noPart, u_part, u_revL, ex_some, w_I0, w_I, w_uI, w_int, w_bl, w_isi, w_someb, w_eqI, w_neI, w_eqS, w_neS, w_lenT, w_lenL, w_lenS, w_tupL, w_tupT, w_ixT, w_ixL, w_ixS, w_catT, w_catL, w_all, w_any, w_min2, w_divmod, w_listS, w_listL, w_listT, w_isN, w_notN, w_tupE, w_intE, w_consE, w_hdE, w_cellS, w_set, at0, at1, at2, at3, i_tT, i_tI, i_tB, i_tS, i_nT, i_nI, i_nB, i_nS, i_iT, i_iI, i_iB, i_iS, i_bT, i_bI, i_bB, i_bS, i_sT, i_sI, i_sB, i_sS, v_itemsS, w_eqB, isNone, dstart, List.map, List.length, List.replicate, List.cons_append, List.nil_append, List.append_nil, List.getElem?_cons_zero, List.getElem?_cons_succ, List.set_cons_zero, List.set_cons_succ, ix40, ix42, ix43, true_implies, false_implies, and_true, true_and, Bool.not_true, Bool.not_false, decide_eq_true_eq, decide_eq_false_iff_not, List.length_map, Nat.reduceAdd, reduceCtorEq, v_ixH, v_items, v_itemsT, v_itemsL, v_len, v_tuple, v_list, v_listOwn, sset_same, sset_sset, Option.some.injEq, Cell.lst.injEq, Cell.frz.injEq, false_and, exists_false, or_false, false_or, exists_eq_left', ne_eq, not_false_eq_true, isTup, Bool.true_eq_false, Bool.false_eq_true])
abbrev s_is_number : Stmt := topS 16
abbrev N_is_number : List Str := ["value"]
theorem sc_is_number : FnScope N_is_number ["value"] (defScope s_is_number) := ⟨rfl, rfl, rfl, by decide +kernel, rfl, by decide +kernel, by decide +kernel⟩
abbrev s_is_below : Stmt := topS 17
abbrev N_is_below : List Str := ["value", "limit"]
theorem sc_is_below : FnScope N_is_below ["value", "limit"] (defScope s_is_below) := ⟨rfl, rfl, rfl, by decide +kernel, rfl, by decide +kernel, by decide +kernel⟩
abbrev s_count_choices : Stmt := topS 28
abbrev N_count_choices : List Str := ["widths", "many", "width"]
theorem sc_count_choices : FnScope N_count_choices ["widths"] (defScope s_count_choices) := ⟨rfl, rfl, rfl, by decide +kernel, rfl, by decide +kernel, by decide +kernel⟩
abbrev s_choice_index : Stmt := topS 29
abbrev N_choice_index : List Str := ["widths", "choice", "index", "width", "entry"]
theorem sc_choice_index : FnScope N_choice_index ["widths", "choice"] (defScope s_choice_index) := ⟨rfl, rfl, rfl, by decide +kernel, rfl, by decide +kernel, by decide +kernel⟩
abbrev s_has_outcomes : Stmt := topS 35
abbrev N_has_outcomes : List Str := ["outcomes"]
theorem sc_has_outcomes : FnScope N_has_outcomes ["outcomes"] (defScope s_has_outcomes) := ⟨rfl, rfl, rfl, by decide +kernel, rfl, by decide +kernel, by decide +kernel⟩
abbrev s_is_size : Stmt := topS 36
abbrev N_is_size : List Str := ["options", "outcomes"]
theorem sc_is_size : FnScope N_is_size ["options", "outcomes"] (defScope s_is_size) := ⟨rfl, rfl, rfl, by decide +kernel, rfl, by decide +kernel, by decide +kernel⟩
abbrev s_is_small : Stmt := topS 37
abbrev N_is_small : List Str := ["options", "outcomes"]
theorem sc_is_small : FnScope N_is_small ["options", "outcomes"] (defScope s_is_small) := ⟨rfl, rfl, rfl, by decide +kernel, rfl, by decide +kernel, by decide +kernel⟩
abbrev s_require_same_size : Stmt := topS 38
abbrev N_require_same_size : List Str := ["first", "second"]
theorem sc_require_same_size : FnScope N_require_same_size ["first", "second"] (defScope s_require_same_size) := ⟨rfl, rfl, rfl, by decide +kernel, rfl, by decide +kernel, by decide +kernel⟩
abbrev s_count_contexts : Stmt := topS 39
abbrev N_count_contexts : List Str := ["options", "outcomes"]
theorem sc_count_contexts : FnScope N_count_contexts ["options", "outcomes"] (defScope s_count_contexts) := ⟨rfl, rfl, rfl, by decide +kernel, rfl, by decide +kernel, by decide +kernel⟩
abbrev s_rows_through : Stmt := topS 40
abbrev N_rows_through : List Str := ["columns", "rows", "column", "row", "entry"]
theorem sc_rows_through : FnScope N_rows_through ["columns"] (defScope s_rows_through) := ⟨rfl, rfl, rfl, by decide +kernel, rfl, by decide +kernel, by decide +kernel⟩
abbrev s_all_contexts : Stmt := topS 41
abbrev N_all_contexts : List Str := ["options", "outcomes"]
theorem sc_all_contexts : FnScope N_all_contexts ["options", "outcomes"] (defScope s_all_contexts) := ⟨rfl, rfl, rfl, by decide +kernel, rfl, by decide +kernel, by decide +kernel⟩
abbrev s_is_context : Stmt := topS 42
abbrev N_is_context : List Str := ["context", "options", "outcomes", "outcome"]
theorem sc_is_context : FnScope N_is_context ["context", "options", "outcomes"] (defScope s_is_context) := ⟨rfl, rfl, rfl, by decide +kernel, rfl, by decide +kernel, by decide +kernel⟩
abbrev s_context_index : Stmt := topS 43
abbrev N_context_index : List Str := ["context", "outcomes"]
theorem sc_context_index : FnScope N_context_index ["context", "outcomes"] (defScope s_context_index) := ⟨rfl, rfl, rfl, by decide +kernel, rfl, by decide +kernel, by decide +kernel⟩
abbrev s_options_with : Stmt := topS 44
abbrev N_options_with : List Str := ["context", "outcomes", "option", "outcome"]
theorem sc_options_with : FnScope N_options_with ["context", "outcomes"] (defScope s_options_with) := ⟨rfl, rfl, rfl, by decide +kernel, rfl, by decide +kernel, by decide +kernel⟩
abbrev s_has_shape : Stmt := topS 49
abbrev N_has_shape : List Str := ["term"]
theorem sc_has_shape : FnScope N_has_shape ["term"] (defScope s_has_shape) := ⟨rfl, rfl, rfl, by decide +kernel, rfl, by decide +kernel, by decide +kernel⟩
abbrev s_any_flags : Stmt := topS 56
abbrev N_any_flags : List Str := ["term", "context", "outcomes"]
theorem sc_any_flags : FnScope N_any_flags ["term", "context", "outcomes"] (defScope s_any_flags) := ⟨rfl, rfl, rfl, by decide +kernel, rfl, by decide +kernel, by decide +kernel⟩
abbrev s_best_flags : Stmt := topS 57
abbrev N_best_flags : List Str := ["term", "context", "outcomes", "ranks", "greatest", "outcome", "rank"]
theorem sc_best_flags : FnScope N_best_flags ["term", "context", "outcomes"] (defScope s_best_flags) := ⟨rfl, rfl, rfl, by decide +kernel, rfl, by decide +kernel, by decide +kernel⟩
abbrev s_second_flags : Stmt := topS 58
abbrev N_second_flags : List Str := ["term", "context", "outcomes", "ranks", "levels", "outcome", "rank"]
theorem sc_second_flags : FnScope N_second_flags ["term", "context", "outcomes"] (defScope s_second_flags) := ⟨rfl, rfl, rfl, by decide +kernel, rfl, by decide +kernel, by decide +kernel⟩
abbrev s_most_flags : Stmt := topS 59
abbrev N_most_flags : List Str := ["term", "context", "outcomes", "counts", "greatest", "outcome", "count"]
theorem sc_most_flags : FnScope N_most_flags ["term", "context", "outcomes"] (defScope s_most_flags) := ⟨rfl, rfl, rfl, by decide +kernel, rfl, by decide +kernel, by decide +kernel⟩
abbrev s_fewest_flags : Stmt := topS 60
abbrev N_fewest_flags : List Str := ["term", "context", "outcomes", "counts", "least", "outcome", "count"]
theorem sc_fewest_flags : FnScope N_fewest_flags ["term", "context", "outcomes"] (defScope s_fewest_flags) := ⟨rfl, rfl, rfl, by decide +kernel, rfl, by decide +kernel, by decide +kernel⟩
abbrev s_fixed_flags : Stmt := topS 61
abbrev N_fixed_flags : List Str := ["term", "context", "outcomes", "option", "outcome"]
theorem sc_fixed_flags : FnScope N_fixed_flags ["term", "context", "outcomes"] (defScope s_fixed_flags) := ⟨rfl, rfl, rfl, by decide +kernel, rfl, by decide +kernel, by decide +kernel⟩
abbrev s_like_flags : Stmt := topS 62
abbrev N_like_flags : List Str := ["term", "context", "outcomes", "outcome"]
theorem sc_like_flags : FnScope N_like_flags ["term", "context", "outcomes"] (defScope s_like_flags) := ⟨rfl, rfl, rfl, by decide +kernel, rfl, by decide +kernel, by decide +kernel⟩
abbrev s_unlike_flags : Stmt := topS 63
abbrev N_unlike_flags : List Str := ["term", "context", "outcomes", "outcome"]
theorem sc_unlike_flags : FnScope N_unlike_flags ["term", "context", "outcomes"] (defScope s_unlike_flags) := ⟨rfl, rfl, rfl, by decide +kernel, rfl, by decide +kernel, by decide +kernel⟩
abbrev s_among_flags : Stmt := topS 64
abbrev N_among_flags : List Str := ["term", "context", "outcomes", "outcome"]
theorem sc_among_flags : FnScope N_among_flags ["term", "context", "outcomes"] (defScope s_among_flags) := ⟨rfl, rfl, rfl, by decide +kernel, rfl, by decide +kernel, by decide +kernel⟩
abbrev s_only_flags : Stmt := topS 65
abbrev N_only_flags : List Str := ["term", "context", "outcomes", "option"]
theorem sc_only_flags : FnScope N_only_flags ["term", "context", "outcomes"] (defScope s_only_flags) := ⟨rfl, rfl, rfl, by decide +kernel, rfl, by decide +kernel, by decide +kernel⟩
abbrev s_table_flags : Stmt := topS 66
abbrev N_table_flags : List Str := ["term", "context", "outcomes", "row", "option"]
theorem sc_table_flags : FnScope N_table_flags ["term", "context", "outcomes"] (defScope s_table_flags) := ⟨rfl, rfl, rfl, by decide +kernel, rfl, by decide +kernel, by decide +kernel⟩
abbrev s_either_flags : Stmt := topS 67
abbrev N_either_flags : List Str := ["term", "context", "outcomes", "first", "second", "one", "other"]
theorem sc_either_flags : FnScope N_either_flags ["term", "context", "outcomes"] (defScope s_either_flags) := ⟨rfl, rfl, rfl, by decide +kernel, rfl, by decide +kernel, by decide +kernel⟩
abbrev s_both_flags : Stmt := topS 68
abbrev N_both_flags : List Str := ["term", "context", "outcomes", "first", "second", "one", "other"]
theorem sc_both_flags : FnScope N_both_flags ["term", "context", "outcomes"] (defScope s_both_flags) := ⟨rfl, rfl, rfl, by decide +kernel, rfl, by decide +kernel, by decide +kernel⟩
abbrev s_else_flags : Stmt := topS 69
abbrev N_else_flags : List Str := ["term", "context", "outcomes", "flags"]
theorem sc_else_flags : FnScope N_else_flags ["term", "context", "outcomes"] (defScope s_else_flags) := ⟨rfl, rfl, rfl, by decide +kernel, rfl, by decide +kernel, by decide +kernel⟩
abbrev s_not_flags : Stmt := topS 70
abbrev N_not_flags : List Str := ["term", "context", "outcomes", "flag"]
theorem sc_not_flags : FnScope N_not_flags ["term", "context", "outcomes"] (defScope s_not_flags) := ⟨rfl, rfl, rfl, by decide +kernel, rfl, by decide +kernel, by decide +kernel⟩
abbrev s_first_flags : Stmt := topS 71
abbrev N_first_flags : List Str := ["term", "context", "outcomes", "flags", "least", "option"]
theorem sc_first_flags : FnScope N_first_flags ["term", "context", "outcomes"] (defScope s_first_flags) := ⟨rfl, rfl, rfl, by decide +kernel, rfl, by decide +kernel, by decide +kernel⟩
abbrev s_recode_flags : Stmt := topS 72
abbrev N_recode_flags : List Str := ["term", "context", "outcomes", "outcome"]
theorem sc_recode_flags : FnScope N_recode_flags ["term", "context", "outcomes"] (defScope s_recode_flags) := ⟨rfl, rfl, rfl, by decide +kernel, rfl, by decide +kernel, by decide +kernel⟩
abbrev s_reorder_flags : Stmt := topS 73
abbrev N_reorder_flags : List Str := ["term", "context", "outcomes", "places", "moved", "flags", "place", "outcome"]
theorem sc_reorder_flags : FnScope N_reorder_flags ["term", "context", "outcomes"] (defScope s_reorder_flags) := ⟨rfl, rfl, rfl, by decide +kernel, rfl, by decide +kernel, by decide +kernel⟩
abbrev s_good_flags : Stmt := topS 75
abbrev N_good_flags : List Str := ["term", "context", "outcomes", "rule"]
theorem sc_good_flags : FnScope N_good_flags ["term", "context", "outcomes"] (defScope s_good_flags) := ⟨rfl, rfl, rfl, by decide +kernel, rfl, by decide +kernel, by decide +kernel⟩
abbrev s_wrong_numbers : Stmt := topS 52
abbrev N_wrong_numbers : List Str := ["item", "length", "limit", "index", "entry"]
theorem sc_wrong_numbers : FnScope N_wrong_numbers ["item", "length", "limit"] (defScope s_wrong_numbers) := ⟨rfl, rfl, rfl, by decide +kernel, rfl, by decide +kernel, by decide +kernel⟩
abbrev s_wrong_places : Stmt := topS 53
abbrev N_wrong_places : List Str := ["item", "options", "index", "entry"]
theorem sc_wrong_places : FnScope N_wrong_places ["item", "options"] (defScope s_wrong_places) := ⟨rfl, rfl, rfl, by decide +kernel, rfl, by decide +kernel, by decide +kernel⟩
abbrev s_wrong_ascending : Stmt := topS 54
abbrev N_wrong_ascending : List Str := ["item", "limit", "least", "index", "entry"]
theorem sc_wrong_ascending : FnScope N_wrong_ascending ["item", "limit"] (defScope s_wrong_ascending) := ⟨rfl, rfl, rfl, by decide +kernel, rfl, by decide +kernel, by decide +kernel⟩
abbrev s_wrong_rows : Stmt := topS 55
abbrev N_wrong_rows : List Str := ["item", "options", "outcomes", "index", "row", "path"]
theorem sc_wrong_rows : FnScope N_wrong_rows ["item", "options", "outcomes"] (defScope s_wrong_rows) := ⟨rfl, rfl, rfl, by decide +kernel, rfl, by decide +kernel, by decide +kernel⟩
abbrev s_wrong_item : Stmt := topS 51
abbrev N_wrong_item : List Str := ["kind", "item", "options", "outcomes", "depth"]
theorem sc_wrong_item : FnScope N_wrong_item ["kind", "item", "options", "outcomes", "depth"] (defScope s_wrong_item) := ⟨rfl, rfl, rfl, by decide +kernel, rfl, by decide +kernel, by decide +kernel⟩
abbrev s_wrong_aim : Stmt := topS 50
abbrev N_wrong_aim : List Str := ["term", "options", "outcomes", "depth", "place", "kind", "path"]
theorem sc_wrong_aim : FnScope N_wrong_aim ["term", "options", "outcomes", "depth"] (defScope s_wrong_aim) := ⟨rfl, rfl, rfl, by decide +kernel, rfl, by decide +kernel, by decide +kernel⟩
abbrev s_Aim___init__ : Stmt := clsS (topS 76) 0
abbrev N_Aim___init__ : List Str := ["self", "term", "options", "outcomes", "path"]
theorem sc_Aim___init__ : FnScope N_Aim___init__ ["self", "term", "options", "outcomes"] (defScope s_Aim___init__) := ⟨rfl, rfl, rfl, by decide +kernel, rfl, by decide +kernel, by decide +kernel⟩
abbrev s_Aim_good : Stmt := clsS (topS 76) 1
abbrev N_Aim_good : List Str := ["self", "context", "flags", "option", "flag"]
theorem sc_Aim_good : FnScope N_Aim_good ["self", "context"] (defScope s_Aim_good) := ⟨rfl, rfl, rfl, by decide +kernel, rfl, by decide +kernel, by decide +kernel⟩
abbrev s_Aim___or__ : Stmt := clsS (topS 76) 2
abbrev N_Aim___or__ : List Str := ["self", "other"]
theorem sc_Aim___or__ : FnScope N_Aim___or__ ["self", "other"] (defScope s_Aim___or__) := ⟨rfl, rfl, rfl, by decide +kernel, rfl, by decide +kernel, by decide +kernel⟩
abbrev s_Aim___and__ : Stmt := clsS (topS 76) 3
abbrev N_Aim___and__ : List Str := ["self", "other"]
theorem sc_Aim___and__ : FnScope N_Aim___and__ ["self", "other"] (defScope s_Aim___and__) := ⟨rfl, rfl, rfl, by decide +kernel, rfl, by decide +kernel, by decide +kernel⟩
abbrev s_Aim___invert__ : Stmt := clsS (topS 76) 5
abbrev N_Aim___invert__ : List Str := ["self"]
theorem sc_Aim___invert__ : FnScope N_Aim___invert__ ["self"] (defScope s_Aim___invert__) := ⟨rfl, rfl, rfl, by decide +kernel, rfl, by decide +kernel, by decide +kernel⟩
abbrev s_require_small : Stmt := topS 78
abbrev N_require_small : List Str := ["options", "outcomes"]
theorem sc_require_small : FnScope N_require_small ["options", "outcomes"] (defScope s_require_small) := ⟨rfl, rfl, rfl, by decide +kernel, rfl, by decide +kernel, by decide +kernel⟩
abbrev s_good_in_contexts : Stmt := topS 79
abbrev N_good_in_contexts : List Str := ["aim", "context"]
theorem sc_good_in_contexts : FnScope N_good_in_contexts ["aim"] (defScope s_good_in_contexts) := ⟨rfl, rfl, rfl, by decide +kernel, rfl, by decide +kernel, by decide +kernel⟩
abbrev s_aim_table : Stmt := topS 80
abbrev N_aim_table : List Str := ["aim", "_", "good"]
theorem sc_aim_table : FnScope N_aim_table ["aim"] (defScope s_aim_table) := ⟨rfl, rfl, rfl, by decide +kernel, rfl, by decide +kernel, by decide +kernel⟩
abbrev s_parting_context : Stmt := topS 81
abbrev N_parting_context : List Str := ["first", "second", "other", "context", "good"]
theorem sc_parting_context : FnScope N_parting_context ["first", "second"] (defScope s_parting_context) := ⟨rfl, rfl, rfl, by decide +kernel, rfl, by decide +kernel, by decide +kernel⟩
abbrev s_is_fair : Stmt := topS 82
abbrev N_is_fair : List Str := ["aim"]
theorem sc_is_fair : FnScope N_is_fair ["aim"] (defScope s_is_fair) := ⟨rfl, rfl, rfl, by decide +kernel, rfl, by decide +kernel, by decide +kernel⟩
abbrev s_fair_hull : Stmt := topS 83
abbrev N_fair_hull : List Str := ["aim", "rows", "context", "good", "option"]
theorem sc_fair_hull : FnScope N_fair_hull ["aim"] (defScope s_fair_hull) := ⟨rfl, rfl, rfl, by decide +kernel, rfl, by decide +kernel, by decide +kernel⟩
abbrev s_fair_core : Stmt := topS 84
abbrev N_fair_core : List Str := ["aim", "rows", "context", "good", "spoiled", "option", "outcome"]
theorem sc_fair_core : FnScope N_fair_core ["aim"] (defScope s_fair_core) := ⟨rfl, rfl, rfl, by decide +kernel, rfl, by decide +kernel, by decide +kernel⟩
abbrev s__law_start : Stmt := topS 86
abbrev N__law_start : List Str := ["_law_script", "_law_seed", "_law_k"]
theorem sc__law_start : FnScope N__law_start ["_law_script"] (defScope s__law_start) := ⟨rfl, rfl, rfl, by decide +kernel, rfl, by decide +kernel, by decide +kernel⟩
abbrev s__law_pick : Stmt := topS 87
abbrev N__law_pick : List Str := ["_law_state", "_law_limit", "_law_cell", "_law_mixed", "_law_rest"]
theorem sc__law_pick : FnScope N__law_pick ["_law_state", "_law_limit"] (defScope s__law_pick) := ⟨rfl, rfl, rfl, by decide +kernel, rfl, by decide +kernel, by decide +kernel⟩
abbrev s__law_same : Stmt := topS 88
abbrev N__law_same : List Str := ["_law_actual", "_law_due", "_law_p"]
theorem sc__law_same : FnScope N__law_same ["_law_actual", "_law_due"] (defScope s__law_same) := ⟨rfl, rfl, rfl, by decide +kernel, rfl, by decide +kernel, by decide +kernel⟩
abbrev s__law_contexts : Stmt := topS 89
abbrev N__law_contexts : List Str := ["_law_n", "_law_k", "_law_many", "_law_x"]
theorem sc__law_contexts : FnScope N__law_contexts ["_law_n", "_law_k"] (defScope s__law_contexts) := ⟨rfl, rfl, rfl, by decide +kernel, rfl, by decide +kernel, by decide +kernel⟩
abbrev s__law_context : Stmt := topS 90
abbrev N__law_context : List Str := ["_law_number", "_law_n", "_law_k", "_law_entries", "_law_rest", "_law_x"]
theorem sc__law_context : FnScope N__law_context ["_law_number", "_law_n", "_law_k"] (defScope s__law_context) := ⟨rfl, rfl, rfl, by decide +kernel, rfl, by decide +kernel, by decide +kernel⟩
abbrev s__law_some : Stmt := topS 91
abbrev N__law_some : List Str := ["_law_state", "_law_limit", "_law_x"]
theorem sc__law_some : FnScope N__law_some ["_law_state", "_law_limit"] (defScope s__law_some) := ⟨rfl, rfl, rfl, by decide +kernel, rfl, by decide +kernel, by decide +kernel⟩
abbrev s__law_places : Stmt := topS 92
abbrev N__law_places : List Str := ["_law_state", "_law_many", "_law_rest", "_law_k"]
theorem sc__law_places : FnScope N__law_places ["_law_state", "_law_many"] (defScope s__law_places) := ⟨rfl, rfl, rfl, by decide +kernel, rfl, by decide +kernel, by decide +kernel⟩
abbrev s__law_simple : Stmt := topS 93
abbrev N__law_simple : List Str := ["_law_state", "_law_n", "_law_k", "_law_words", "_law_word", "_law_top", "_law_r", "_law_p"]
theorem sc__law_simple : FnScope N__law_simple ["_law_state", "_law_n", "_law_k"] (defScope s__law_simple) := ⟨rfl, rfl, rfl, by decide +kernel, rfl, by decide +kernel, by decide +kernel⟩
abbrev s__law_aim : Stmt := topS 94
abbrev N__law_aim : List Str := ["_law_state", "_law_n", "_law_k", "_law_levels", "_law_word", "_law_first", "_law_r"]
theorem sc__law_aim : FnScope N__law_aim ["_law_state", "_law_n", "_law_k", "_law_levels"] (defScope s__law_aim) := ⟨rfl, rfl, rfl, by decide +kernel, rfl, by decide +kernel, by decide +kernel⟩
abbrev s__law_simple_good : Stmt := topS 96
abbrev N__law_simple_good : List Str := ["_law_term", "_law_context_here", "_law_mine", "_law_x", "_law_word", "_law_above", "_law_equal", "_law_r", "_law_rank"]
theorem sc__law_simple_good : FnScope N__law_simple_good ["_law_term", "_law_context_here", "_law_mine", "_law_x"] (defScope s__law_simple_good) := ⟨rfl, rfl, rfl, by decide +kernel, rfl, by decide +kernel, by decide +kernel⟩
abbrev s__law_good : Stmt := topS 95
abbrev N__law_good : List Str := ["_law_term", "_law_context_here", "_law_k", "_law_word", "_law_options", "_law_inner", "_law_first", "_law_second", "_law_number", "_law_r", "_law_x", "_law_y"]
theorem sc__law_good : FnScope N__law_good ["_law_term", "_law_context_here", "_law_k"] (defScope s__law_good) := ⟨rfl, rfl, rfl, by decide +kernel, rfl, by decide +kernel, by decide +kernel⟩
abbrev s__law_shape : Stmt := topS 97
abbrev N__law_shape : List Str := ["_law_state", "_law_k", "_law_top"]
theorem sc__law_shape : FnScope N__law_shape ["_law_state"] (defScope s__law_shape) := ⟨rfl, rfl, rfl, by decide +kernel, rfl, by decide +kernel, by decide +kernel⟩
abbrev s__law_fair_rows : Stmt := topS 98
abbrev N__law_fair_rows : List Str := ["_law_state", "_law_contexts_here", "_law_k", "_law_rows", "_law_context_here", "_law_lot", "_law_x"]
theorem sc__law_fair_rows : FnScope N__law_fair_rows ["_law_state", "_law_contexts_here", "_law_k"] (defScope s__law_fair_rows) := ⟨rfl, rfl, rfl, by decide +kernel, rfl, by decide +kernel, by decide +kernel⟩
abbrev s__law_toggled : Stmt := topS 99
abbrev N__law_toggled : List Str := ["_law_state", "_law_rows", "_law_n", "_law_at", "_law_changed", "_law_entry", "_law_x"]
theorem sc__law_toggled : FnScope N__law_toggled ["_law_state", "_law_rows", "_law_n"] (defScope s__law_toggled) := ⟨rfl, rfl, rfl, by decide +kernel, rfl, by decide +kernel, by decide +kernel⟩
abbrev s__law_any_aim : Stmt := topS 100
abbrev N__law_any_aim : List Str := ["_law_state", "_law_contexts_here", "_law_n", "_law_k", "_law_how", "_law_rows", "_law_context_here"]
theorem sc__law_any_aim : FnScope N__law_any_aim ["_law_state", "_law_contexts_here", "_law_n", "_law_k"] (defScope s__law_any_aim) := ⟨rfl, rfl, rfl, by decide +kernel, rfl, by decide +kernel, by decide +kernel⟩
abbrev s__law_hull : Stmt := topS 101
abbrev N__law_hull : List Str := ["_law_context_here", "_law_good_here", "_law_reached", "_law_x"]
theorem sc__law_hull : FnScope N__law_hull ["_law_context_here", "_law_good_here"] (defScope s__law_hull) := ⟨rfl, rfl, rfl, by decide +kernel, rfl, by decide +kernel, by decide +kernel⟩
abbrev s__law_core : Stmt := topS 102
abbrev N__law_core : List Str := ["_law_context_here", "_law_good_here", "_law_missed", "_law_x"]
theorem sc__law_core : FnScope N__law_core ["_law_context_here", "_law_good_here"] (defScope s__law_core) := ⟨rfl, rfl, rfl, by decide +kernel, rfl, by decide +kernel, by decide +kernel⟩
abbrev s__law_others : Stmt := topS 103
abbrev N__law_others : List Str := ["_law_rows", "_law_n", "_law_row", "_law_x"]
theorem sc__law_others : FnScope N__law_others ["_law_rows", "_law_n"] (defScope s__law_others) := ⟨rfl, rfl, rfl, by decide +kernel, rfl, by decide +kernel, by decide +kernel⟩
abbrev s__law_do : Stmt := topS 104
abbrev N__law_do : List Str := ["_law_door", "_law_aim_here", "e", "_law_made", "_law_beside"]
theorem sc__law_do : FnScope N__law_do ["_law_door", "_law_aim_here"] (defScope s__law_do) := ⟨rfl, rfl, rfl, by decide +kernel, rfl, by decide +kernel, by decide +kernel⟩
abbrev s__law_asked : Stmt := topS 105
abbrev N__law_asked : List Str := ["_law_aim_here", "_law_size", "_law_hull_here", "_law_core_here", "_law_fair"]
theorem sc__law_asked : FnScope N__law_asked ["_law_aim_here", "_law_size", "_law_hull_here", "_law_core_here", "_law_fair"] (defScope s__law_asked) := ⟨rfl, rfl, rfl, by decide +kernel, rfl, by decide +kernel, by decide +kernel⟩
abbrev s__law_refused : Stmt := topS 106
abbrev N__law_refused : List Str := ["_law_state", "_law_wide", "_law_aim_here", "_law_door"]
theorem sc__law_refused : FnScope N__law_refused ["_law_state"] (defScope s__law_refused) := ⟨rfl, rfl, rfl, by decide +kernel, rfl, by decide +kernel, by decide +kernel⟩
abbrev s_law : Stmt := topS 107
abbrev N_law : List Str := ["_law_script", "_law_state", "_law_size", "_law_n", "_law_k", "_law_contexts_here", "_law_terms", "_law_aims", "_law_hulls", "_law_cores", "_law_fair", "_law_term", "_law_i", "_law_rows", "_law_joined", "_law_shared", "_law_p", "_law_table", "_law_context_here", "_law_x"]
theorem sc_law : FnScope N_law ["_law_script"] (defScope s_law) := ⟨rfl, rfl, rfl, by decide +kernel, rfl, by decide +kernel, by decide +kernel⟩
set_option genInjectivity false in
structure Txt (P : Program) (w : World) (K : Fg) (mg : Str → Option Value) where
  f_is_number : Addr
  d_is_number : FuncData
  F_is_number : Fun K "is_number" "is_number" s_is_number f_is_number d_is_number
  g_is_number : mg "is_number" = some (.ref f_is_number)
  b_is_number : Binds K d_is_number ["value"] []
  f_is_below : Addr
  d_is_below : FuncData
  F_is_below : Fun K "is_below" "is_below" s_is_below f_is_below d_is_below
  g_is_below : mg "is_below" = some (.ref f_is_below)
  b_is_below : Binds K d_is_below ["value", "limit"] []
  f_count_choices : Addr
  d_count_choices : FuncData
  F_count_choices : Fun K "count_choices" "count_choices" s_count_choices f_count_choices d_count_choices
  g_count_choices : mg "count_choices" = some (.ref f_count_choices)
  b_count_choices : Binds K d_count_choices ["widths"] []
  f_choice_index : Addr
  d_choice_index : FuncData
  F_choice_index : Fun K "choice_index" "choice_index" s_choice_index f_choice_index d_choice_index
  g_choice_index : mg "choice_index" = some (.ref f_choice_index)
  b_choice_index : Binds K d_choice_index ["widths", "choice"] []
  f_has_outcomes : Addr
  d_has_outcomes : FuncData
  F_has_outcomes : Fun K "has_outcomes" "has_outcomes" s_has_outcomes f_has_outcomes d_has_outcomes
  g_has_outcomes : mg "has_outcomes" = some (.ref f_has_outcomes)
  b_has_outcomes : Binds K d_has_outcomes ["outcomes"] []
  f_is_size : Addr
  d_is_size : FuncData
  F_is_size : Fun K "is_size" "is_size" s_is_size f_is_size d_is_size
  g_is_size : mg "is_size" = some (.ref f_is_size)
  b_is_size : Binds K d_is_size ["options", "outcomes"] []
  f_is_small : Addr
  d_is_small : FuncData
  F_is_small : Fun K "is_small" "is_small" s_is_small f_is_small d_is_small
  g_is_small : mg "is_small" = some (.ref f_is_small)
  b_is_small : Binds K d_is_small ["options", "outcomes"] []
  f_require_same_size : Addr
  d_require_same_size : FuncData
  F_require_same_size : Fun K "require_same_size" "require_same_size" s_require_same_size f_require_same_size d_require_same_size
  g_require_same_size : mg "require_same_size" = some (.ref f_require_same_size)
  b_require_same_size : Binds K d_require_same_size ["first", "second"] []
  f_count_contexts : Addr
  d_count_contexts : FuncData
  F_count_contexts : Fun K "count_contexts" "count_contexts" s_count_contexts f_count_contexts d_count_contexts
  g_count_contexts : mg "count_contexts" = some (.ref f_count_contexts)
  b_count_contexts : Binds K d_count_contexts ["options", "outcomes"] []
  f_rows_through : Addr
  d_rows_through : FuncData
  F_rows_through : Fun K "rows_through" "rows_through" s_rows_through f_rows_through d_rows_through
  g_rows_through : mg "rows_through" = some (.ref f_rows_through)
  b_rows_through : Binds K d_rows_through ["columns"] []
  f_all_contexts : Addr
  d_all_contexts : FuncData
  F_all_contexts : Fun K "all_contexts" "all_contexts" s_all_contexts f_all_contexts d_all_contexts
  g_all_contexts : mg "all_contexts" = some (.ref f_all_contexts)
  b_all_contexts : Binds K d_all_contexts ["options", "outcomes"] []
  f_is_context : Addr
  d_is_context : FuncData
  F_is_context : Fun K "is_context" "is_context" s_is_context f_is_context d_is_context
  g_is_context : mg "is_context" = some (.ref f_is_context)
  b_is_context : Binds K d_is_context ["context", "options", "outcomes"] []
  f_context_index : Addr
  d_context_index : FuncData
  F_context_index : Fun K "context_index" "context_index" s_context_index f_context_index d_context_index
  g_context_index : mg "context_index" = some (.ref f_context_index)
  b_context_index : Binds K d_context_index ["context", "outcomes"] []
  f_options_with : Addr
  d_options_with : FuncData
  F_options_with : Fun K "options_with" "options_with" s_options_with f_options_with d_options_with
  g_options_with : mg "options_with" = some (.ref f_options_with)
  b_options_with : Binds K d_options_with ["context", "outcomes"] []
  f_has_shape : Addr
  d_has_shape : FuncData
  F_has_shape : Fun K "has_shape" "has_shape" s_has_shape f_has_shape d_has_shape
  g_has_shape : mg "has_shape" = some (.ref f_has_shape)
  b_has_shape : Binds K d_has_shape ["term"] []
  f_any_flags : Addr
  d_any_flags : FuncData
  F_any_flags : Fun K "any_flags" "any_flags" s_any_flags f_any_flags d_any_flags
  g_any_flags : mg "any_flags" = some (.ref f_any_flags)
  b_any_flags : Binds K d_any_flags ["term", "context", "outcomes"] []
  f_best_flags : Addr
  d_best_flags : FuncData
  F_best_flags : Fun K "best_flags" "best_flags" s_best_flags f_best_flags d_best_flags
  g_best_flags : mg "best_flags" = some (.ref f_best_flags)
  b_best_flags : Binds K d_best_flags ["term", "context", "outcomes"] []
  f_second_flags : Addr
  d_second_flags : FuncData
  F_second_flags : Fun K "second_flags" "second_flags" s_second_flags f_second_flags d_second_flags
  g_second_flags : mg "second_flags" = some (.ref f_second_flags)
  b_second_flags : Binds K d_second_flags ["term", "context", "outcomes"] []
  f_most_flags : Addr
  d_most_flags : FuncData
  F_most_flags : Fun K "most_flags" "most_flags" s_most_flags f_most_flags d_most_flags
  g_most_flags : mg "most_flags" = some (.ref f_most_flags)
  b_most_flags : Binds K d_most_flags ["term", "context", "outcomes"] []
  f_fewest_flags : Addr
  d_fewest_flags : FuncData
  F_fewest_flags : Fun K "fewest_flags" "fewest_flags" s_fewest_flags f_fewest_flags d_fewest_flags
  g_fewest_flags : mg "fewest_flags" = some (.ref f_fewest_flags)
  b_fewest_flags : Binds K d_fewest_flags ["term", "context", "outcomes"] []
  f_fixed_flags : Addr
  d_fixed_flags : FuncData
  F_fixed_flags : Fun K "fixed_flags" "fixed_flags" s_fixed_flags f_fixed_flags d_fixed_flags
  g_fixed_flags : mg "fixed_flags" = some (.ref f_fixed_flags)
  b_fixed_flags : Binds K d_fixed_flags ["term", "context", "outcomes"] []
  f_like_flags : Addr
  d_like_flags : FuncData
  F_like_flags : Fun K "like_flags" "like_flags" s_like_flags f_like_flags d_like_flags
  g_like_flags : mg "like_flags" = some (.ref f_like_flags)
  b_like_flags : Binds K d_like_flags ["term", "context", "outcomes"] []
  f_unlike_flags : Addr
  d_unlike_flags : FuncData
  F_unlike_flags : Fun K "unlike_flags" "unlike_flags" s_unlike_flags f_unlike_flags d_unlike_flags
  g_unlike_flags : mg "unlike_flags" = some (.ref f_unlike_flags)
  b_unlike_flags : Binds K d_unlike_flags ["term", "context", "outcomes"] []
  f_among_flags : Addr
  d_among_flags : FuncData
  F_among_flags : Fun K "among_flags" "among_flags" s_among_flags f_among_flags d_among_flags
  g_among_flags : mg "among_flags" = some (.ref f_among_flags)
  b_among_flags : Binds K d_among_flags ["term", "context", "outcomes"] []
  f_only_flags : Addr
  d_only_flags : FuncData
  F_only_flags : Fun K "only_flags" "only_flags" s_only_flags f_only_flags d_only_flags
  g_only_flags : mg "only_flags" = some (.ref f_only_flags)
  b_only_flags : Binds K d_only_flags ["term", "context", "outcomes"] []
  f_table_flags : Addr
  d_table_flags : FuncData
  F_table_flags : Fun K "table_flags" "table_flags" s_table_flags f_table_flags d_table_flags
  g_table_flags : mg "table_flags" = some (.ref f_table_flags)
  b_table_flags : Binds K d_table_flags ["term", "context", "outcomes"] []
  f_either_flags : Addr
  d_either_flags : FuncData
  F_either_flags : Fun K "either_flags" "either_flags" s_either_flags f_either_flags d_either_flags
  g_either_flags : mg "either_flags" = some (.ref f_either_flags)
  b_either_flags : Binds K d_either_flags ["term", "context", "outcomes"] []
  f_both_flags : Addr
  d_both_flags : FuncData
  F_both_flags : Fun K "both_flags" "both_flags" s_both_flags f_both_flags d_both_flags
  g_both_flags : mg "both_flags" = some (.ref f_both_flags)
  b_both_flags : Binds K d_both_flags ["term", "context", "outcomes"] []
  f_else_flags : Addr
  d_else_flags : FuncData
  F_else_flags : Fun K "else_flags" "else_flags" s_else_flags f_else_flags d_else_flags
  g_else_flags : mg "else_flags" = some (.ref f_else_flags)
  b_else_flags : Binds K d_else_flags ["term", "context", "outcomes"] []
  f_not_flags : Addr
  d_not_flags : FuncData
  F_not_flags : Fun K "not_flags" "not_flags" s_not_flags f_not_flags d_not_flags
  g_not_flags : mg "not_flags" = some (.ref f_not_flags)
  b_not_flags : Binds K d_not_flags ["term", "context", "outcomes"] []
  f_first_flags : Addr
  d_first_flags : FuncData
  F_first_flags : Fun K "first_flags" "first_flags" s_first_flags f_first_flags d_first_flags
  g_first_flags : mg "first_flags" = some (.ref f_first_flags)
  b_first_flags : Binds K d_first_flags ["term", "context", "outcomes"] []
  f_recode_flags : Addr
  d_recode_flags : FuncData
  F_recode_flags : Fun K "recode_flags" "recode_flags" s_recode_flags f_recode_flags d_recode_flags
  g_recode_flags : mg "recode_flags" = some (.ref f_recode_flags)
  b_recode_flags : Binds K d_recode_flags ["term", "context", "outcomes"] []
  f_reorder_flags : Addr
  d_reorder_flags : FuncData
  F_reorder_flags : Fun K "reorder_flags" "reorder_flags" s_reorder_flags f_reorder_flags d_reorder_flags
  g_reorder_flags : mg "reorder_flags" = some (.ref f_reorder_flags)
  b_reorder_flags : Binds K d_reorder_flags ["term", "context", "outcomes"] []
  f_good_flags : Addr
  d_good_flags : FuncData
  F_good_flags : Fun K "good_flags" "good_flags" s_good_flags f_good_flags d_good_flags
  g_good_flags : mg "good_flags" = some (.ref f_good_flags)
  b_good_flags : Binds K d_good_flags ["term", "context", "outcomes"] []
  f_wrong_numbers : Addr
  d_wrong_numbers : FuncData
  F_wrong_numbers : Fun K "wrong_numbers" "wrong_numbers" s_wrong_numbers f_wrong_numbers d_wrong_numbers
  g_wrong_numbers : mg "wrong_numbers" = some (.ref f_wrong_numbers)
  b_wrong_numbers : Binds K d_wrong_numbers ["item", "length", "limit"] []
  f_wrong_places : Addr
  d_wrong_places : FuncData
  F_wrong_places : Fun K "wrong_places" "wrong_places" s_wrong_places f_wrong_places d_wrong_places
  g_wrong_places : mg "wrong_places" = some (.ref f_wrong_places)
  b_wrong_places : Binds K d_wrong_places ["item", "options"] []
  f_wrong_ascending : Addr
  d_wrong_ascending : FuncData
  F_wrong_ascending : Fun K "wrong_ascending" "wrong_ascending" s_wrong_ascending f_wrong_ascending d_wrong_ascending
  g_wrong_ascending : mg "wrong_ascending" = some (.ref f_wrong_ascending)
  b_wrong_ascending : Binds K d_wrong_ascending ["item", "limit"] []
  f_wrong_rows : Addr
  d_wrong_rows : FuncData
  F_wrong_rows : Fun K "wrong_rows" "wrong_rows" s_wrong_rows f_wrong_rows d_wrong_rows
  g_wrong_rows : mg "wrong_rows" = some (.ref f_wrong_rows)
  b_wrong_rows : Binds K d_wrong_rows ["item", "options", "outcomes"] []
  f_wrong_item : Addr
  d_wrong_item : FuncData
  F_wrong_item : Fun K "wrong_item" "wrong_item" s_wrong_item f_wrong_item d_wrong_item
  g_wrong_item : mg "wrong_item" = some (.ref f_wrong_item)
  b_wrong_item : Binds K d_wrong_item ["kind", "item", "options", "outcomes", "depth"] []
  f_wrong_aim : Addr
  d_wrong_aim : FuncData
  F_wrong_aim : Fun K "wrong_aim" "wrong_aim" s_wrong_aim f_wrong_aim d_wrong_aim
  g_wrong_aim : mg "wrong_aim" = some (.ref f_wrong_aim)
  b_wrong_aim : Binds K d_wrong_aim ["term", "options", "outcomes", "depth"] []
  f_Aim___init__ : Addr
  d_Aim___init__ : FuncData
  F_Aim___init__ : Fun K "__init__" "Aim.__init__" s_Aim___init__ f_Aim___init__ d_Aim___init__
  b_Aim___init__ : Binds K d_Aim___init__ ["self", "term", "options", "outcomes"] []
  f_Aim_good : Addr
  d_Aim_good : FuncData
  F_Aim_good : Fun K "good" "Aim.good" s_Aim_good f_Aim_good d_Aim_good
  b_Aim_good : Binds K d_Aim_good ["self", "context"] []
  f_Aim___or__ : Addr
  d_Aim___or__ : FuncData
  F_Aim___or__ : Fun K "__or__" "Aim.__or__" s_Aim___or__ f_Aim___or__ d_Aim___or__
  b_Aim___or__ : Binds K d_Aim___or__ ["self", "other"] []
  f_Aim___and__ : Addr
  d_Aim___and__ : FuncData
  F_Aim___and__ : Fun K "__and__" "Aim.__and__" s_Aim___and__ f_Aim___and__ d_Aim___and__
  b_Aim___and__ : Binds K d_Aim___and__ ["self", "other"] []
  f_Aim___invert__ : Addr
  d_Aim___invert__ : FuncData
  F_Aim___invert__ : Fun K "__invert__" "Aim.__invert__" s_Aim___invert__ f_Aim___invert__ d_Aim___invert__
  b_Aim___invert__ : Binds K d_Aim___invert__ ["self"] []
  f_require_small : Addr
  d_require_small : FuncData
  F_require_small : Fun K "require_small" "require_small" s_require_small f_require_small d_require_small
  g_require_small : mg "require_small" = some (.ref f_require_small)
  b_require_small : Binds K d_require_small ["options", "outcomes"] []
  f_good_in_contexts : Addr
  d_good_in_contexts : FuncData
  F_good_in_contexts : Fun K "good_in_contexts" "good_in_contexts" s_good_in_contexts f_good_in_contexts d_good_in_contexts
  g_good_in_contexts : mg "good_in_contexts" = some (.ref f_good_in_contexts)
  b_good_in_contexts : Binds K d_good_in_contexts ["aim"] []
  f_aim_table : Addr
  d_aim_table : FuncData
  F_aim_table : Fun K "aim_table" "aim_table" s_aim_table f_aim_table d_aim_table
  g_aim_table : mg "aim_table" = some (.ref f_aim_table)
  b_aim_table : Binds K d_aim_table ["aim"] []
  f_parting_context : Addr
  d_parting_context : FuncData
  F_parting_context : Fun K "parting_context" "parting_context" s_parting_context f_parting_context d_parting_context
  g_parting_context : mg "parting_context" = some (.ref f_parting_context)
  b_parting_context : Binds K d_parting_context ["first", "second"] []
  f_is_fair : Addr
  d_is_fair : FuncData
  F_is_fair : Fun K "is_fair" "is_fair" s_is_fair f_is_fair d_is_fair
  g_is_fair : mg "is_fair" = some (.ref f_is_fair)
  b_is_fair : Binds K d_is_fair ["aim"] []
  f_fair_hull : Addr
  d_fair_hull : FuncData
  F_fair_hull : Fun K "fair_hull" "fair_hull" s_fair_hull f_fair_hull d_fair_hull
  g_fair_hull : mg "fair_hull" = some (.ref f_fair_hull)
  b_fair_hull : Binds K d_fair_hull ["aim"] []
  f_fair_core : Addr
  d_fair_core : FuncData
  F_fair_core : Fun K "fair_core" "fair_core" s_fair_core f_fair_core d_fair_core
  g_fair_core : mg "fair_core" = some (.ref f_fair_core)
  b_fair_core : Binds K d_fair_core ["aim"] []
  f__law_start : Addr
  d__law_start : FuncData
  F__law_start : Fun K "_law_start" "_law_start" s__law_start f__law_start d__law_start
  g__law_start : mg "_law_start" = some (.ref f__law_start)
  b__law_start : Binds K d__law_start ["_law_script"] []
  f__law_pick : Addr
  d__law_pick : FuncData
  F__law_pick : Fun K "_law_pick" "_law_pick" s__law_pick f__law_pick d__law_pick
  g__law_pick : mg "_law_pick" = some (.ref f__law_pick)
  b__law_pick : Binds K d__law_pick ["_law_state", "_law_limit"] []
  f__law_same : Addr
  d__law_same : FuncData
  F__law_same : Fun K "_law_same" "_law_same" s__law_same f__law_same d__law_same
  g__law_same : mg "_law_same" = some (.ref f__law_same)
  b__law_same : Binds K d__law_same ["_law_actual", "_law_due"] []
  f__law_contexts : Addr
  d__law_contexts : FuncData
  F__law_contexts : Fun K "_law_contexts" "_law_contexts" s__law_contexts f__law_contexts d__law_contexts
  g__law_contexts : mg "_law_contexts" = some (.ref f__law_contexts)
  b__law_contexts : Binds K d__law_contexts ["_law_n", "_law_k"] []
  f__law_context : Addr
  d__law_context : FuncData
  F__law_context : Fun K "_law_context" "_law_context" s__law_context f__law_context d__law_context
  g__law_context : mg "_law_context" = some (.ref f__law_context)
  b__law_context : Binds K d__law_context ["_law_number", "_law_n", "_law_k"] []
  f__law_some : Addr
  d__law_some : FuncData
  F__law_some : Fun K "_law_some" "_law_some" s__law_some f__law_some d__law_some
  g__law_some : mg "_law_some" = some (.ref f__law_some)
  b__law_some : Binds K d__law_some ["_law_state", "_law_limit"] []
  f__law_places : Addr
  d__law_places : FuncData
  F__law_places : Fun K "_law_places" "_law_places" s__law_places f__law_places d__law_places
  g__law_places : mg "_law_places" = some (.ref f__law_places)
  b__law_places : Binds K d__law_places ["_law_state", "_law_many"] []
  f__law_simple : Addr
  d__law_simple : FuncData
  F__law_simple : Fun K "_law_simple" "_law_simple" s__law_simple f__law_simple d__law_simple
  g__law_simple : mg "_law_simple" = some (.ref f__law_simple)
  b__law_simple : Binds K d__law_simple ["_law_state", "_law_n", "_law_k"] []
  f__law_aim : Addr
  d__law_aim : FuncData
  F__law_aim : Fun K "_law_aim" "_law_aim" s__law_aim f__law_aim d__law_aim
  g__law_aim : mg "_law_aim" = some (.ref f__law_aim)
  b__law_aim : Binds K d__law_aim ["_law_state", "_law_n", "_law_k", "_law_levels"] []
  f__law_simple_good : Addr
  d__law_simple_good : FuncData
  F__law_simple_good : Fun K "_law_simple_good" "_law_simple_good" s__law_simple_good f__law_simple_good d__law_simple_good
  g__law_simple_good : mg "_law_simple_good" = some (.ref f__law_simple_good)
  b__law_simple_good : Binds K d__law_simple_good ["_law_term", "_law_context_here", "_law_mine", "_law_x"] []
  f__law_good : Addr
  d__law_good : FuncData
  F__law_good : Fun K "_law_good" "_law_good" s__law_good f__law_good d__law_good
  g__law_good : mg "_law_good" = some (.ref f__law_good)
  b__law_good : Binds K d__law_good ["_law_term", "_law_context_here", "_law_k"] []
  f__law_shape : Addr
  d__law_shape : FuncData
  F__law_shape : Fun K "_law_shape" "_law_shape" s__law_shape f__law_shape d__law_shape
  g__law_shape : mg "_law_shape" = some (.ref f__law_shape)
  b__law_shape : Binds K d__law_shape ["_law_state"] []
  f__law_fair_rows : Addr
  d__law_fair_rows : FuncData
  F__law_fair_rows : Fun K "_law_fair_rows" "_law_fair_rows" s__law_fair_rows f__law_fair_rows d__law_fair_rows
  g__law_fair_rows : mg "_law_fair_rows" = some (.ref f__law_fair_rows)
  b__law_fair_rows : Binds K d__law_fair_rows ["_law_state", "_law_contexts_here", "_law_k"] []
  f__law_toggled : Addr
  d__law_toggled : FuncData
  F__law_toggled : Fun K "_law_toggled" "_law_toggled" s__law_toggled f__law_toggled d__law_toggled
  g__law_toggled : mg "_law_toggled" = some (.ref f__law_toggled)
  b__law_toggled : Binds K d__law_toggled ["_law_state", "_law_rows", "_law_n"] []
  f__law_any_aim : Addr
  d__law_any_aim : FuncData
  F__law_any_aim : Fun K "_law_any_aim" "_law_any_aim" s__law_any_aim f__law_any_aim d__law_any_aim
  g__law_any_aim : mg "_law_any_aim" = some (.ref f__law_any_aim)
  b__law_any_aim : Binds K d__law_any_aim ["_law_state", "_law_contexts_here", "_law_n", "_law_k"] []
  f__law_hull : Addr
  d__law_hull : FuncData
  F__law_hull : Fun K "_law_hull" "_law_hull" s__law_hull f__law_hull d__law_hull
  g__law_hull : mg "_law_hull" = some (.ref f__law_hull)
  b__law_hull : Binds K d__law_hull ["_law_context_here", "_law_good_here"] []
  f__law_core : Addr
  d__law_core : FuncData
  F__law_core : Fun K "_law_core" "_law_core" s__law_core f__law_core d__law_core
  g__law_core : mg "_law_core" = some (.ref f__law_core)
  b__law_core : Binds K d__law_core ["_law_context_here", "_law_good_here"] []
  f__law_others : Addr
  d__law_others : FuncData
  F__law_others : Fun K "_law_others" "_law_others" s__law_others f__law_others d__law_others
  g__law_others : mg "_law_others" = some (.ref f__law_others)
  b__law_others : Binds K d__law_others ["_law_rows", "_law_n"] []
  f__law_do : Addr
  d__law_do : FuncData
  F__law_do : Fun K "_law_do" "_law_do" s__law_do f__law_do d__law_do
  g__law_do : mg "_law_do" = some (.ref f__law_do)
  b__law_do : Binds K d__law_do ["_law_door", "_law_aim_here"] []
  f__law_asked : Addr
  d__law_asked : FuncData
  F__law_asked : Fun K "_law_asked" "_law_asked" s__law_asked f__law_asked d__law_asked
  g__law_asked : mg "_law_asked" = some (.ref f__law_asked)
  b__law_asked : Binds K d__law_asked ["_law_aim_here", "_law_size", "_law_hull_here", "_law_core_here", "_law_fair"] []
  f__law_refused : Addr
  d__law_refused : FuncData
  F__law_refused : Fun K "_law_refused" "_law_refused" s__law_refused f__law_refused d__law_refused
  g__law_refused : mg "_law_refused" = some (.ref f__law_refused)
  b__law_refused : Binds K d__law_refused ["_law_state"] []
  f_law : Addr
  d_law : FuncData
  F_law : Fun K "law" "law" s_law f_law d_law
  g_law : mg "law" = some (.ref f_law)
  b_law : Binds K d_law ["_law_script"] []
  z_isinstance : mg "isinstance" = none
  z_int : mg "int" = none
  z_bool : mg "bool" = none
  z_all : mg "all" = none
  z_str : mg "str" = none
  z_len : mg "len" = none
  z_enumerate : mg "enumerate" = none
  z_tuple : mg "tuple" = none
  z_zip : mg "zip" = none
  z_range : mg "range" = none
  z_max : mg "max" = none
  z_sorted : mg "sorted" = none
  z_set : mg "set" = none
  z_min : mg "min" = none
  z_list : mg "list" = none
  z_ValueError : mg "ValueError" = none
  z_any : mg "any" = none
  g_LETTERS : ∃ t, mg "LETTERS" = some (.str "abcdefghijklmnopqrstuvwxyz" t)
  g_DIGITS : ∃ t, mg "DIGITS" = some (.str "0123456789" t)
  g_LONGEST_WORD : ∃ t, mg "LONGEST_WORD" = some (.int 12 t)
  g_LONGEST_NUMBER : ∃ t, mg "LONGEST_NUMBER" = some (.int 9 t)
  g_NUMBERS_END : ∃ t, mg "NUMBERS_END" = some (.int 1000000000 t)
  g_DEEPEST_TUPLE : ∃ t, mg "DEEPEST_TUPLE" = some (.int 30 t)
  g_MOST_OPTIONS : ∃ t, mg "MOST_OPTIONS" = some (.int 64 t)
  g_MOST_OUTCOMES : ∃ t, mg "MOST_OUTCOMES" = some (.int 4 t)
  g_MOST_SMALL_OPTIONS : ∃ t, mg "MOST_SMALL_OPTIONS" = some (.int 8 t)
  g_MOST_SMALL_CONTEXTS : ∃ t, mg "MOST_SMALL_CONTEXTS" = some (.int 256 t)
  g_DEEPEST_AIM : ∃ t, mg "DEEPEST_AIM" = some (.int 6 t)
  g_RANKS_END : ∃ t, mg "RANKS_END" = some (.int 10 t)
  c_OutOfRange : Addr
  g_OutOfRange : mg "OutOfRange" = some (.ref c_OutOfRange)
  c_SizeMismatch : Addr
  g_SizeMismatch : mg "SizeMismatch" = some (.ref c_SizeMismatch)
  c_InvalidAim : Addr
  g_InvalidAim : mg "InvalidAim" = some (.ref c_InvalidAim)
  c_InvalidContext : Addr
  g_InvalidContext : mg "InvalidContext" = some (.ref c_InvalidContext)
  c_TooLarge : Addr
  g_TooLarge : mg "TooLarge" = some (.ref c_TooLarge)
  c_InvalidTerm : Addr
  g_InvalidTerm : mg "InvalidTerm" = some (.ref c_InvalidTerm)
  c_ChoosersError : Addr
  g_ChoosersError : mg "ChoosersError" = some (.ref c_ChoosersError)
  fi_InvalidAim : Addr
  di_InvalidAim : FuncData
  ox_InvalidAim : OexC K c_InvalidAim
  ic_InvalidAim : PySem.W.findIn K (.ref c_InvalidAim) "__init__" = some (some (.ref fi_InvalidAim))
  ti_InvalidAim : PySem.W.typeIn K (.ref fi_InvalidAim) = some (.type "function")
  no_InvalidAim : PySem.W.findIn K (.ref c_InvalidAim) "path" = some none
  xf_InvalidAim : XfC K c_InvalidAim
  ec_InvalidAim : L2.ExcC K c_InvalidAim
  in_InvalidAim : ∀ {w : World} {base : Heap} {cx : CXT}, FnOk P w K mg base cx 1 fi_InvalidAim di_InvalidAim ["self", "path"] (spInit K c_InvalidAim "path" (okPath K))
  bi_InvalidAim : Binds K di_InvalidAim ["self", "path"] []
  i_InvalidAim_SizeMismatch : PySem.W.kitOne K (.ref c_InvalidAim) (.ref c_SizeMismatch) = some false
  i_InvalidAim_OutOfRange : PySem.W.kitOne K (.ref c_InvalidAim) (.ref c_OutOfRange) = some false
  i_InvalidAim_InvalidTerm : PySem.W.kitOne K (.ref c_InvalidAim) (.ref c_InvalidTerm) = some true
  i_InvalidAim_TooLarge : PySem.W.kitOne K (.ref c_InvalidAim) (.ref c_TooLarge) = some false
  i_InvalidAim_ValueError : PySem.W.kitOne K (.ref c_InvalidAim) (.type "ValueError") = some true
  m_InvalidAim_ChoosersError : PySem.W.exmOne K (.ref c_InvalidAim) (.ref c_ChoosersError) = some true
  x_OutOfRange : PySem.W.excIn K c_OutOfRange [.type "ValueError", .type "Exception", .type "BaseException", .type "object"] "ValueError.__new__" = true
  k_OutOfRange : PySem.W.keepIn K (.ref c_OutOfRange) = true
  e_OutOfRange : PySem.W.subIn K (.ref c_OutOfRange) (.type "BaseException") = some true
  t_OutOfRange : PySem.W.typeIn K (.ref c_OutOfRange) = some (.type "type")
  ec_OutOfRange : L2.ExcC K c_OutOfRange
  i_OutOfRange_SizeMismatch : PySem.W.kitOne K (.ref c_OutOfRange) (.ref c_SizeMismatch) = some false
  i_OutOfRange_OutOfRange : PySem.W.kitOne K (.ref c_OutOfRange) (.ref c_OutOfRange) = some true
  i_OutOfRange_InvalidTerm : PySem.W.kitOne K (.ref c_OutOfRange) (.ref c_InvalidTerm) = some false
  i_OutOfRange_TooLarge : PySem.W.kitOne K (.ref c_OutOfRange) (.ref c_TooLarge) = some false
  i_OutOfRange_ValueError : PySem.W.kitOne K (.ref c_OutOfRange) (.type "ValueError") = some true
  m_OutOfRange_ChoosersError : PySem.W.exmOne K (.ref c_OutOfRange) (.ref c_ChoosersError) = some true
  x_SizeMismatch : PySem.W.excIn K c_SizeMismatch [.type "ValueError", .type "Exception", .type "BaseException", .type "object"] "ValueError.__new__" = true
  k_SizeMismatch : PySem.W.keepIn K (.ref c_SizeMismatch) = true
  e_SizeMismatch : PySem.W.subIn K (.ref c_SizeMismatch) (.type "BaseException") = some true
  t_SizeMismatch : PySem.W.typeIn K (.ref c_SizeMismatch) = some (.type "type")
  ec_SizeMismatch : L2.ExcC K c_SizeMismatch
  i_SizeMismatch_SizeMismatch : PySem.W.kitOne K (.ref c_SizeMismatch) (.ref c_SizeMismatch) = some true
  i_SizeMismatch_OutOfRange : PySem.W.kitOne K (.ref c_SizeMismatch) (.ref c_OutOfRange) = some false
  i_SizeMismatch_InvalidTerm : PySem.W.kitOne K (.ref c_SizeMismatch) (.ref c_InvalidTerm) = some false
  i_SizeMismatch_TooLarge : PySem.W.kitOne K (.ref c_SizeMismatch) (.ref c_TooLarge) = some false
  i_SizeMismatch_ValueError : PySem.W.kitOne K (.ref c_SizeMismatch) (.type "ValueError") = some true
  m_SizeMismatch_ChoosersError : PySem.W.exmOne K (.ref c_SizeMismatch) (.ref c_ChoosersError) = some true
  x_InvalidContext : PySem.W.excIn K c_InvalidContext [.type "ValueError", .type "Exception", .type "BaseException", .type "object"] "ValueError.__new__" = true
  k_InvalidContext : PySem.W.keepIn K (.ref c_InvalidContext) = true
  e_InvalidContext : PySem.W.subIn K (.ref c_InvalidContext) (.type "BaseException") = some true
  t_InvalidContext : PySem.W.typeIn K (.ref c_InvalidContext) = some (.type "type")
  ec_InvalidContext : L2.ExcC K c_InvalidContext
  i_InvalidContext_SizeMismatch : PySem.W.kitOne K (.ref c_InvalidContext) (.ref c_SizeMismatch) = some false
  i_InvalidContext_OutOfRange : PySem.W.kitOne K (.ref c_InvalidContext) (.ref c_OutOfRange) = some false
  i_InvalidContext_InvalidTerm : PySem.W.kitOne K (.ref c_InvalidContext) (.ref c_InvalidTerm) = some false
  i_InvalidContext_TooLarge : PySem.W.kitOne K (.ref c_InvalidContext) (.ref c_TooLarge) = some false
  i_InvalidContext_ValueError : PySem.W.kitOne K (.ref c_InvalidContext) (.type "ValueError") = some true
  m_InvalidContext_ChoosersError : PySem.W.exmOne K (.ref c_InvalidContext) (.ref c_ChoosersError) = some true
  x_TooLarge : PySem.W.excIn K c_TooLarge [.type "ValueError", .type "Exception", .type "BaseException", .type "object"] "ValueError.__new__" = true
  k_TooLarge : PySem.W.keepIn K (.ref c_TooLarge) = true
  e_TooLarge : PySem.W.subIn K (.ref c_TooLarge) (.type "BaseException") = some true
  t_TooLarge : PySem.W.typeIn K (.ref c_TooLarge) = some (.type "type")
  ec_TooLarge : L2.ExcC K c_TooLarge
  i_TooLarge_SizeMismatch : PySem.W.kitOne K (.ref c_TooLarge) (.ref c_SizeMismatch) = some false
  i_TooLarge_OutOfRange : PySem.W.kitOne K (.ref c_TooLarge) (.ref c_OutOfRange) = some false
  i_TooLarge_InvalidTerm : PySem.W.kitOne K (.ref c_TooLarge) (.ref c_InvalidTerm) = some false
  i_TooLarge_TooLarge : PySem.W.kitOne K (.ref c_TooLarge) (.ref c_TooLarge) = some true
  i_TooLarge_ValueError : PySem.W.kitOne K (.ref c_TooLarge) (.type "ValueError") = some true
  m_TooLarge_ChoosersError : PySem.W.exmOne K (.ref c_TooLarge) (.ref c_ChoosersError) = some true
  c_SHAPES : Addr
  g_SHAPES : mg "SHAPES" = some (.ref c_SHAPES)
  D_SHAPES : DictOk K w c_SHAPES [("any", .tup []), ("best", .tup [.str "ranks"]), ("second", .tup [.str "ranks"]), ("most", .tup []), ("fewest", .tup []), ("fixed", .tup []), ("like", .tup [.str "option"]), ("unlike", .tup [.str "option"]), ("among", .tup [.str "outcomes"]), ("only", .tup [.str "options"]), ("table", .tup [.str "rows"]), ("either", .tup [.str "aim", .str "aim"]), ("both", .tup [.str "aim", .str "aim"]), ("else", .tup [.str "aim", .str "aim"]), ("not", .tup [.str "aim"]), ("first", .tup [.str "aim"]), ("recode", .tup [.str "codes", .str "aim"]), ("reorder", .tup [.str "places", .str "aim"])]
  c_RULES : Addr
  g_RULES : mg "RULES" = some (.ref c_RULES)
  D_RULES : DictOk K w c_RULES [("any", .hd (.ref f_any_flags)), ("best", .hd (.ref f_best_flags)), ("second", .hd (.ref f_second_flags)), ("most", .hd (.ref f_most_flags)), ("fewest", .hd (.ref f_fewest_flags)), ("fixed", .hd (.ref f_fixed_flags)), ("like", .hd (.ref f_like_flags)), ("unlike", .hd (.ref f_unlike_flags)), ("among", .hd (.ref f_among_flags)), ("only", .hd (.ref f_only_flags)), ("table", .hd (.ref f_table_flags)), ("either", .hd (.ref f_either_flags)), ("both", .hd (.ref f_both_flags)), ("else", .hd (.ref f_else_flags)), ("not", .hd (.ref f_not_flags)), ("first", .hd (.ref f_first_flags)), ("recode", .hd (.ref f_recode_flags)), ("reorder", .hd (.ref f_reorder_flags))]
  c_Aim : Addr
  g_Aim : mg "Aim" = some (.ref c_Aim)
  mk_Aim : Mk K c_Aim f_Aim___init__
  cls_Aim : Cls K c_Aim
  sf_Aim : PySem.W.selfFirst K c_Aim = true
  na_Aim_term : NoAttr K c_Aim "term"
  na_Aim_options : NoAttr K c_Aim "options"
  na_Aim_outcomes : NoAttr K c_Aim "outcomes"
  me_Aim_good : Meth K c_Aim "good" f_Aim_good
  me_Aim___or__ : Meth K c_Aim "__or__" f_Aim___or__
  me_Aim___and__ : Meth K c_Aim "__and__" f_Aim___and__
  me_Aim___invert__ : Meth K c_Aim "__invert__" f_Aim___invert__
section
variable {P : Program} {w : World} {K : Fg} {mg : Str → Option Value} {base : Heap}
def c_is_number : Con := fun ds μ Φ _ => ∃ i, ds = [.int i] ∧ Φ (.bl true) μ
theorem len_is_number {ds μ Φ Ψ} (h : c_is_number ds μ Φ Ψ) : ds.length = 1 := by obtain ⟨i, rfl, _⟩ := h; rfl
theorem w_is_number {i μ Φ Ψ} : c_is_number [.int i] μ Φ Ψ = Φ (.bl true) μ := propext ⟨fun ⟨j, e, q⟩ => q, fun q => ⟨i, rfl, q⟩⟩
theorem ok_is_number {cx : CXT} (T : Txt P w K mg) : FnOk P w K mg base cx 1 T.f_is_number T.d_is_number ["value"] (spOf K c_is_number) := by
  refine def_okC T.F_is_number sc_is_number _ (fun ds μ Φ Ψ h => len_is_number h) (fun cdv A outer s H E B hW hr =>
    ⟨_, (pss_one (ps_ret (pe_and (pe_callB call_isi (by rfl) T.z_isinstance (by decide +kernel) (pa_cons (pv 0) (pa_cons (pe_bltn (v := .ty "int") rfl T.z_int (by decide +kernel) rfl) pa_nil))) (pe_one (pe_not (pe_callB call_isi (by rfl) T.z_isinstance (by decide +kernel) (pa_cons (pv 0) (pa_cons (pe_bltn (v := .ty "bool") rfl T.z_bool (by decide +kernel) rfl) pa_nil)))))))),
      (sRet (sAndV (sCB (rcIsi (T := "int")) (sCons sVar (sCons sHd sNil))) (sNotV (sCB (rcIsi (T := "bool")) (sCons sVar (sCons sHd sNil))))))⟩) (fun ds μ Φ Ψ h => ?hv)
  case hv =>
    obtain ⟨i, rfl, h⟩ := h
    walk_at "wps"
    exact ret_same h
def c_is_below : Con := fun ds μ Φ _ => ∃ i m, ds = [.int i, .int m] ∧ Φ (.bl (decide (0 ≤ i ∧ i < m))) μ
theorem len_is_below {ds μ Φ Ψ} (h : c_is_below ds μ Φ Ψ) : ds.length = 2 := by obtain ⟨i, m, rfl, _⟩ := h; rfl
theorem w_is_below {i m μ Φ Ψ} : c_is_below [.int i, .int m] μ Φ Ψ = Φ (.bl (decide (0 ≤ i ∧ i < m))) μ := propext ⟨fun ⟨a, b, e, q⟩ => by cases e; exact q, fun q => ⟨i, m, rfl, q⟩⟩
theorem ok_is_below (T : Txt P w K mg) : FnOk P w K mg base (L2N.CX P w) 2 T.f_is_below T.d_is_below ["value", "limit"] (spOf K c_is_below) := by
  refine def_okC T.F_is_below sc_is_below _ (fun ds μ Φ Ψ h => len_is_below h) (fun cdv A outer s H E B hW hr =>
    have tk : L2N.Takes (cxOf (L2N.CX P w) P w K mg base N_is_below "is_below" (defScope s_is_below) T.f_is_below cdv A outer s H E) (fun cls d _ H => E cls d H) := L2N.takes_of rfl rfl rfl rfl
    ⟨_, (pss_one (ps_ret (pe_and (pe_call (ok_is_number T) hr rfl T.g_is_number T.F_is_number.kp T.b_is_number .nil passN (pa_cons (pv 0) pa_nil)) (pe_one (pe_chain op_le op_lt pe_int (pv 0) (pv 1)))))),
      (sRet (sAndV (sCall (sCons sVar sNil)) (sChain roBl0 roBl0 sInt sVar sVar)))⟩) (fun ds μ Φ Ψ h => ?hv)
  case hv =>
    obtain ⟨i, m, rfl, h⟩ := h
    walk_at "wps"
    simp only [w_is_number]
    walk_at "wps"
    refine ⟨fun h1 => ret_same ?_, fun h1 => ret_same ?_⟩
    · simpa [h1] using h
    · simpa [h1] using h
def c_count_choices : Con := fun ds μ Φ _ => ∃ ws : List Int, ds = [.tup (ws.map .int)] ∧ (∀ i z, ws[i]? = some z → CMulX (prodI (ws.take i)) z) ∧ Φ (.int (prodI ws)) μ
theorem len_count_choices {ds μ Φ Ψ} (h : c_count_choices ds μ Φ Ψ) : ds.length = 1 := by obtain ⟨i, rfl, _⟩ := h; rfl
theorem ok_count_choices {cx : CXT} (T : Txt P w K mg) : FnOk P w K mg base cx 1 T.f_count_choices T.d_count_choices ["widths"] (spOf K c_count_choices) := by
  refine def_okC T.F_count_choices sc_count_choices _ (fun ds μ Φ Ψ h => len_count_choices h) (fun cdv A outer s H E B hW hr =>
    ⟨_, (pss_cons (ps_set (i := 1) sc_count_choices.nd rfl (Or.inl rfl) pe_int)
      (pss_cons (ps_for (passes_of rfl) rfl (pi_tup (pv 0)) (pg_name (i := 2) sc_count_choices.nd rfl (Or.inl rfl)) (pss_one (ps_set (i := 1) sc_count_choices.nd rfl (Or.inl rfl) (pe_op op_mulX (pv 1) (pv 2)))))
      (pss_one (ps_ret (pv 1))))),
      (sSeq (sAsg sInt sName)
      (sSeq (sFor (siT sVar) (fun _ _ _ => sName) (fun _ _ _ => (sAsg (sOp roInt sVar sVar) sName)))
      (sRet sVar)))⟩) (fun ds μ Φ Ψ h => ?hv)
  case hv =>
    obtain ⟨ws, rfl, hc, h⟩ := h
    walk_at "wps"
    refine ⟨fun i δ' μ' => μ' = μ ∧ ∃ x, δ' = [some (.tup (ws.map .int)), some (.int (prodI (ws.take i))), x], ⟨rfl, none, rfl⟩, ?_, ?_⟩
    · rintro i d δ' μ' hi ⟨rfl, x, rfl⟩
      obtain ⟨z, hz, rfl⟩ := mapI_get hi
      walk_at "wps"
      exact ⟨hc i z hz, _, by rw [prod_snoc hz]⟩
    · rintro δ' μ' ⟨rfl, x, rfl⟩
      rw [List.take_length]
      walk_at "wps"
      exact ret_same h
def c_choice_index (C : Addr) : Con := fun ds μ Φ Ψ => ∃ ws cs, ds = [.tup (ws.map .int), .tup (cs.map .int)] ∧ WB ws ∧ (∀ v, cs.length = ws.length → idxU 0 ws cs = some v → Φ (.int v) μ) ∧ (cs.length ≠ ws.length ∨ idxU 0 ws cs = none → Ψ (.mk C none) μ)
theorem len_choice_index {C ds μ Φ Ψ} (h : c_choice_index C ds μ Φ Ψ) : ds.length = 2 := by obtain ⟨_, _, rfl, _⟩ := h; rfl
theorem ok_choice_index (T : Txt P w K mg) : FnOk P w K mg base (L2N.CX P w) 3 T.f_choice_index T.d_choice_index ["widths", "choice"] (spOf K (c_choice_index T.c_OutOfRange)) := by
  refine def_okC T.F_choice_index sc_choice_index _ (fun ds μ Φ Ψ h => len_choice_index h) (fun cdv A outer s H E B hW hr =>
    have tk : L2N.Takes (cxOf (L2N.CX P w) P w K mg base N_choice_index "choice_index" (defScope s_choice_index) T.f_choice_index cdv A outer s H E) (fun cls d _ H => E cls d H) := L2N.takes_of rfl rfl rfl rfl
    ⟨_, (pss_cons (ps_if (pt_cmpR op_ne (pe_callB call_len_seq (by rfl) T.z_len PySem.boot_len (pa_cons (pv 1) pa_nil)) (pe_callB call_len_seq (by rfl) T.z_len PySem.boot_len (pa_cons (pv 0) pa_nil)) (nomark _)) (pss_one (L2N.ps_raise rfl tk (L2N.pmk_own PySem.F.excBase_ValueError T.x_OutOfRange T.g_OutOfRange T.k_OutOfRange (raises_own T.e_OutOfRange T.t_OutOfRange) rfl))) pss_nil)
      (pss_cons (ps_set (i := 2) sc_choice_index.nd rfl (Or.inl rfl) pe_int)
      (pss_cons (ps_for (passes_of rfl) rfl (RZ.pi_zipA (by rfl) T.z_zip (pa_cons (pv 0) (pa_cons (pv 1) pa_nil))) (pg_tup (n := 2) rfl (pgs_cons (pg_name (i := 3) sc_choice_index.nd rfl (Or.inl rfl)) (pgs_cons (pg_name (i := 4) sc_choice_index.nd rfl (Or.inl rfl)) pgs_nil))) (pss_cons (ps_if (pt_not (pt_val (pe_call (ok_is_below T) hr rfl T.g_is_below T.F_is_below.kp T.b_is_below .nil passN (pa_cons (pv 4) (pa_cons (pv 3) pa_nil))))) (pss_one (L2N.ps_raise rfl tk (L2N.pmk_own PySem.F.excBase_ValueError T.x_OutOfRange T.g_OutOfRange T.k_OutOfRange (raises_own T.e_OutOfRange T.t_OutOfRange) rfl))) pss_nil)
      (pss_one (ps_set (i := 2) sc_choice_index.nd rfl (Or.inl rfl) (pe_op op_add (pe_op op_mulX (pv 2) (pv 3)) (pv 4))))))
      (pss_one (ps_ret (pv 2)))))),
      (sSeq (sIfS (sTest (sOp roNe (sCB rcLen (sCons sVar sNil)) (sCB rcLen (sCons sVar sNil)))) (sRaise0W (W := fun cls d _ H => E cls d H) (C := T.c_OutOfRange) (by exact hW)) sNext)
      (sSeq (sAsg sInt sName)
      (sSeq (sFor (siZipT sVar sVar) (fun _ _ _ => (sgTup (sgCons sName (sgCons sName sgNil)))) (fun _ _ _ => (sSeq (sIfS (sNot (sB (sCall (sCons sVar (sCons sVar sNil))))) (sRaise0W (W := fun cls d _ H => E cls d H) (C := T.c_OutOfRange) (by exact hW)) sNext)
      (sAsg (sOp roInt0 (sOp roInt sVar sVar) sVar) sName))))
      (sRet sVar))))⟩) (fun ds μ Φ Ψ h => ?hv)
  case hv =>
    obtain ⟨ws, cs, rfl, hb, h1, h2⟩ := h
    walk_at "wps"
    refine ⟨fun c1 => ⟨_, Sub.refl, h2 (.inl (by intro z; rw [z] at c1; simp at c1))⟩, fun c1 => ?_⟩
    have hlen : cs.length = ws.length := by simp at c1; omega
    refine ⟨fun i δ' μ' => μ' = μ ∧ ∃ a x y, δ' = [some (.tup (ws.map .int)), some (.tup (cs.map .int)), some (.int a), x, y] ∧ idxU 0 ws cs = idxU a (ws.drop i) (cs.drop i) ∧ 0 ≤ a ∧ a < prodI (ws.take i), ⟨rfl, 0, none, none, rfl, rfl, Int.le_refl 0, (by decide : (0 : Int) < 1)⟩, ?_, ?_⟩
    · rintro i d δ' μ' hi ⟨rfl, a, x, y, rfl, e, h3, h4⟩
      rw [List.getElem?_map, Option.map_eq_some_iff] at hi
      obtain ⟨⟨d1, d2⟩, hi, rfl⟩ := hi
      obtain ⟨g1, g2⟩ := List.getElem?_zip_eq_some.mp hi
      obtain ⟨wi, hw, rfl⟩ := mapI_get g1
      obtain ⟨ci, hc, rfl⟩ := mapI_get g2
      have b0 := hb.lo wi (List.mem_of_getElem? hw)
      have b1 := hb.hi wi (List.mem_of_getElem? hw)
      have b2 := hb.pr i
      have el : idxU 0 ws cs = if 0 ≤ ci ∧ ci < wi then idxU (a * wi + ci) (ws.drop (i + 1)) (cs.drop (i + 1)) else none := by
        have l1 := (List.getElem?_eq_some_iff.mp hw)
        have l2 := (List.getElem?_eq_some_iff.mp hc)
        obtain ⟨l1, r1⟩ := l1
        obtain ⟨l2, r2⟩ := l2
        rw [e, List.drop_eq_getElem_cons l1, List.drop_eq_getElem_cons l2, r1, r2]
        rfl
      walk_at "wps"
      simp only [w_is_below]
      walk_at "wps"
      refine ⟨fun c2 => ⟨_, Sub.refl, h2 (.inr ?_)⟩, fun c2 => ?_⟩
      · rw [el, if_neg (by intro z; simp [z] at c2)]
      · have c3 : 0 ≤ ci ∧ ci < wi := by simp at c2; exact c2
        rw [if_pos c3] at el
        refine ⟨mulx 200 100 (by omega) (by omega) (by decide), _, _, _, rfl, el, ?_, ?_⟩
        · have := Int.mul_nonneg h3 b0; omega
        · rw [LW.prod_snoc hw]
          have q : (a + 1) * wi ≤ prodI (ws.take i) * wi := Int.mul_le_mul_of_nonneg_right (by omega) b0
          rw [Int.add_mul, Int.one_mul] at q
          omega
    · rintro δ' μ' ⟨rfl, a, x, y, rfl, e, h3, h4⟩
      have ez : ((ws.map D.int).zip (cs.map D.int)).length = ws.length := by rw [List.length_zip, List.length_map, List.length_map, hlen]; simp
      rw [ez, List.drop_length, ← hlen, List.drop_length] at e
      walk_at "wps"
      exact ret_same (h1 a hlen e)
def c_has_outcomes : Con := fun ds μ Φ _ => ∃ i : Int, ds = [.int i] ∧ Φ (.bl (decide (1 ≤ i ∧ i ≤ 4))) μ
theorem len_has_outcomes {ds μ Φ Ψ} (h : c_has_outcomes ds μ Φ Ψ) : ds.length = 1 := by obtain ⟨i, rfl, _⟩ := h; rfl
theorem w_has_outcomes {i μ Φ Ψ} : c_has_outcomes [.int i] μ Φ Ψ = Φ (.bl (decide (1 ≤ i ∧ i ≤ 4))) μ := propext ⟨fun ⟨a, e, q⟩ => by cases e; exact q, fun q => ⟨i, rfl, q⟩⟩
theorem ok_has_outcomes {cx : CXT} (T : Txt P w K mg) : FnOk P w K mg base cx 1 T.f_has_outcomes T.d_has_outcomes ["outcomes"] (spOf K c_has_outcomes) := by
  refine def_okC T.F_has_outcomes sc_has_outcomes _ (fun ds μ Φ Ψ h => len_has_outcomes h) (fun cdv A outer s H E B hW hr =>
    ⟨_, (pss_one (ps_ret (pe_chain op_le op_le pe_int (pv 0) (pe_glob (v := .int 4) rfl T.g_MOST_OUTCOMES.choose_spec ⟨_, rfl⟩)))),
      (sRet (sChain roBl0 roBl0 sInt sVar sInt))⟩) (fun ds μ Φ Ψ h => ?hv)
  case hv =>
    obtain ⟨i, rfl, h⟩ := h
    walk_at "wps"
    refine ⟨fun h1 => ret_same ?_, fun h1 => ret_same ?_⟩
    · simpa [h1] using h
    · simpa [h1] using h
def c_is_size : Con := fun ds μ Φ _ => ∃ i j : Int, ds = [.int i, .int j] ∧ Φ (.bl (decide (1 ≤ i ∧ i ≤ 64 ∧ 1 ≤ j ∧ j ≤ 4))) μ
theorem len_is_size {ds μ Φ Ψ} (h : c_is_size ds μ Φ Ψ) : ds.length = 2 := by obtain ⟨i, j, rfl, _⟩ := h; rfl
theorem ok_is_size {cx : CXT} (T : Txt P w K mg) : FnOk P w K mg base cx 2 T.f_is_size T.d_is_size ["options", "outcomes"] (spOf K c_is_size) := by
  refine def_okC T.F_is_size sc_is_size _ (fun ds μ Φ Ψ h => len_is_size h) (fun cdv A outer s H E B hW hr =>
    ⟨_, (pss_one (ps_ret (pe_and (pe_chain op_le op_le pe_int (pv 0) (pe_glob (v := .int 64) rfl T.g_MOST_OPTIONS.choose_spec ⟨_, rfl⟩)) (pe_one (pe_call (ok_has_outcomes T) hr rfl T.g_has_outcomes T.F_has_outcomes.kp T.b_has_outcomes .nil passN (pa_cons (pv 1) pa_nil)))))),
      (sRet (sAndV (sChain roBl0 roBl0 sInt sVar sInt) (sCall (sCons sVar sNil))))⟩) (fun ds μ Φ Ψ h => ?hv)
  case hv =>
    obtain ⟨i, j, rfl, h⟩ := h
    walk_at "wps"
    simp only [w_has_outcomes]
    walk_at "wps"
    refine ⟨fun h1 => ⟨fun h2 => ret_same ?_, fun h2 => ret_same ?_⟩, fun h1 => ret_same ?_⟩
    · simpa [h1, h2] using h
    · simpa [h1, h2] using h
    · simpa [h1] using h
def c_count_contexts : Con := fun ds μ Φ _ => ∃ n k : Nat, ds = [.int n, .int k] ∧ n ≤ 8 ∧ k ≤ 4 ∧ 1 ≤ k ∧ Φ (.int ((k ^ n : Nat) : Int)) μ
theorem len_count_contexts {ds μ Φ Ψ} (h : c_count_contexts ds μ Φ Ψ) : ds.length = 2 := by obtain ⟨i, j, rfl, _⟩ := h; rfl
theorem w_count_choices {ws μ Φ Ψ} (h : WB ws) : (c_count_choices [.tup (ws.map .int)] μ Φ Ψ) = Φ (.int (prodI ws)) μ := propext ⟨fun ⟨us, e, _, q⟩ => by
  injection e with e _
  injection e with e
  have : ws = us := (List.map_inj_right (fun _ _ z => by cases z; rfl)).mp e
  rw [this]; exact q, fun q => ⟨ws, rfl, fun i z e => h.mul e, q⟩⟩
theorem ok_count_contexts {cx : CXT} (T : Txt P w K mg) : FnOk P w K mg base cx 2 T.f_count_contexts T.d_count_contexts ["options", "outcomes"] (spOf K c_count_contexts) := by
  refine def_okC T.F_count_contexts sc_count_contexts _ (fun ds μ Φ Ψ h => len_count_contexts h) (fun cdv A outer s H E B hW hr =>
    ⟨_, (pss_one (ps_ret (pe_call (ok_count_choices T) hr rfl T.g_count_choices T.F_count_choices.kp T.b_count_choices .nil passN (pa_cons (pe_op op_repA (pe_tupN (pa_cons (pv 1) pa_nil)) (pv 0)) pa_nil)))),
      (sRet (sCall (sCons (sOp roRepT (sTup (sCons sVar sNil)) sVar) sNil)))⟩) (fun ds μ Φ Ψ h => ?hv)
  case hv =>
    obtain ⟨n, k, rfl, hn, hk, hk1, h⟩ := h
    walk_at "wps"
    refine ⟨by omega, by omega, by omega, by omega, ?_⟩
    rw [repI, w_count_choices (WB_rep (by omega) hk1 hk), prodI_rep, ← Int.natCast_pow]
    exact ret_same h
def c_is_small : Con := fun ds μ Φ _ => ∃ n k : Nat, ds = [.int n, .int k] ∧ 1 ≤ n ∧ 1 ≤ k ∧ k ≤ 4 ∧ Φ (.bl (decide (n ≤ 8 ∧ k ^ n ≤ 256))) μ
theorem len_is_small {ds μ Φ Ψ} (h : c_is_small ds μ Φ Ψ) : ds.length = 2 := by obtain ⟨i, j, rfl, _⟩ := h; rfl
theorem ok_is_small {cx : CXT} (T : Txt P w K mg) : FnOk P w K mg base cx 3 T.f_is_small T.d_is_small ["options", "outcomes"] (spOf K c_is_small) := by
  refine def_okC T.F_is_small sc_is_small _ (fun ds μ Φ Ψ h => len_is_small h) (fun cdv A outer s H E B hW hr =>
    ⟨_, (pss_cons (ps_if (PW.pt (pw_or (pt_not (pt_chain op_le op_le pe_int (pv 0) (pe_glob (v := .int 8) rfl T.g_MOST_SMALL_OPTIONS.choose_spec ⟨_, rfl⟩))) (pw_or1 (pt_not (pt_val (pe_call (ok_has_outcomes T) (hr.mono (by decide)) rfl T.g_has_outcomes T.F_has_outcomes.kp T.b_has_outcomes .nil passN (pa_cons (pv 1) pa_nil))))))) (pss_one (ps_ret pe_bl)) pss_nil)
      (pss_one (ps_ret (pe_cmpR op_le (pe_call (ok_count_contexts T) hr rfl T.g_count_contexts T.F_count_contexts.kp T.b_count_contexts .nil passN (pa_cons (pv 0) (pa_cons (pv 1) pa_nil))) (pe_glob (v := .int 256) rfl T.g_MOST_SMALL_CONTEXTS.choose_spec ⟨_, rfl⟩) (nomark _))))),
      (sSeq (sIfS (sOr (sNot (sTest (sChain roBl0 roBl0 sInt sVar sInt))) (sNot (sB (sCall (sCons sVar sNil))))) (sRet sBl) sNext)
      (sRet (sOp roBl0 (sCall (sCons sVar (sCons sVar sNil))) sInt)))⟩) (fun ds μ Φ Ψ h => ?hv)
  case hv =>
    obtain ⟨n, k, rfl, hn, hk1, hk, h⟩ := h
    walk_at "wps"
    simp only [w_has_outcomes]
    walk_at "wps"
    refine ⟨fun _ => ⟨fun h2 => ret_same ?_, fun h2 => ⟨fun h3 => ?_, fun _ => ?_⟩⟩, fun h1 => absurd (by omega) h1⟩
    · have : ¬ n ≤ 8 := by simp at h2; omega
      simpa [this] using h
    · exfalso; simp at h3; omega
    · have h4 : n ≤ 8 := by simp at h2; omega
      refine ⟨n, k, rfl, h4, hk, hk1, ?_⟩
      walk_at "wps"
      refine ret_same ?_
      have e : (decide (((k ^ n : Nat) : Int) ≤ 256)) = decide (n ≤ 8 ∧ k ^ n ≤ 256) := decide_eq_decide.mpr ⟨fun z => ⟨h4, by omega⟩, fun z => by omega⟩
      rw [e]; exact h
def c_is_context : Con := fun ds μ Φ _ => ∃ (n k : Nat) (c : List Int), ds = [.tup (c.map .int), .int n, .int k] ∧ c.length ≤ 1000 ∧ Φ (.bl (decide (c.length = n ∧ ∀ r ∈ c, 0 ≤ r ∧ r < k))) μ
theorem len_is_context {ds μ Φ Ψ} (h : c_is_context ds μ Φ Ψ) : ds.length = 3 := by obtain ⟨i, j, _, rfl, _⟩ := h; rfl
theorem ok_is_context (T : Txt P w K mg) : FnOk P w K mg base (L2N.CX P w) 3 T.f_is_context T.d_is_context ["context", "options", "outcomes"] (spOf K c_is_context) := by
  refine def_okC T.F_is_context sc_is_context _ (fun ds μ Φ Ψ h => len_is_context h) (fun cdv A outer s H E B hW hr =>
    have tk : L2N.Takes (cxOf (L2N.CX P w) P w K mg base N_is_context "is_context" (defScope s_is_context) T.f_is_context cdv A outer s H E) (fun cls d _ H => E cls d H) := L2N.takes_of rfl rfl rfl rfl
    ⟨_, (pss_cons (ps_if (PW.pt (pw_or (pt_not (pt_val (pe_callB call_isi (by rfl) T.z_isinstance (by decide +kernel) (pa_cons (pv 0) (pa_cons (pe_bltn (v := .ty "tuple") rfl T.z_tuple (by decide +kernel) rfl) pa_nil))))) (pw_or1 (pt_cmpR op_ne (pe_callB call_len_seq (by rfl) T.z_len PySem.boot_len (pa_cons (pv 0) pa_nil)) (pv 1) (nomark _))))) (pss_one (ps_ret pe_bl)) pss_nil)
      (pss_one (ps_ret (pe_callB (cr_all rfl) (by rfl) T.z_all (by decide +kernel) (pa_cons (pe_lc (own := [("outcome", 3)]) rfl sc_is_context.nd (pi_tup (pv 0)) (blkOk_by (N := N_is_context) (sc := defScope s_is_context) (by decide +kernel)) (fun _ _ _ _ _ => (pg_name (i := 3) sc_is_context.nd rfl (Or.inl rfl))) (fun _ _ _ _ _ => pts_nil) (fun _ _ _ _ _ => (pe_call (ok_is_below T) hr rfl T.g_is_below T.F_is_below.kp T.b_is_below .nil passN (pa_cons (pv 3) (pa_cons (pv 2) pa_nil))))) pa_nil))))),
      (sSeq (sIfS (sOr (sNot (sB (sCB (rcIsi (T := "tuple")) (sCons sVar (sCons sHd sNil))))) (sTest (sOp roNe (sCB rcLen (sCons sVar sNil)) sVar))) (sRet sBl) sNext)
      (sRet (sCB rcAll (sCons (sLc (siT sVar) (gwName List.mem_cons_self) (fun _ _ _ => sName) (fun _ _ _ => sYes) (fun _ _ _ => (sCall (sCons sVar (sCons sVar sNil))))) sNil))))⟩) (fun ds μ Φ Ψ h => ?hv)
  case hv =>
    obtain ⟨n, k, c, rfl, hc, h⟩ := h
    walk_at "wps"
    refine ⟨fun h2 => ret_same ?_, fun h2 => ?_⟩
    · have : ¬ c.length = n := by simp at h2; omega
      simpa [this] using h
    · have h4 : c.length = n := by simp at h2; omega
      refine lcZ (fun r => .bl (decide (0 ≤ r ∧ r < (k : Int)))) (by omega) (fun r μ2 X hr hsub hx => ?_) ?_
      · walk_at "wps"
        simp only [w_is_below]
        exact hx
      · have e : c.map (fun r => D.bl (decide (0 ≤ r ∧ r < (k : Int)))) = (c.map fun r => decide (0 ≤ r ∧ r < (k : Int))).map D.bl := by rw [List.map_map]; rfl
        rw [e, w_all]
        refine ret_same ?_
        have e2 : (c.map fun r => decide (0 ≤ r ∧ r < (k : Int))).all id = decide (c.length = n ∧ ∀ r ∈ c, 0 ≤ r ∧ r < (k : Int)) := by
          rw [Bool.eq_iff_iff, List.all_map, List.all_eq_true]
          simp [h4]
        rw [e2]; exact h
def c_context_index : Con := fun ds μ Φ _ => ∃ (n k : Nat) (c : List Int), ds = [.tup (c.map .int), .int k] ∧ CtxOk n k c ∧ n ≤ 8 ∧ Φ (.int (ctxIx k c)) μ
theorem len_context_index {ds μ Φ Ψ} (h : c_context_index ds μ Φ Ψ) : ds.length = 2 := by obtain ⟨i, j, _, rfl, _⟩ := h; rfl
theorem ok_context_index (T : Txt P w K mg) : FnOk P w K mg base (L2N.CX P w) 4 T.f_context_index T.d_context_index ["context", "outcomes"] (spOf K c_context_index) := by
  refine def_okC T.F_context_index sc_context_index _ (fun ds μ Φ Ψ h => len_context_index h) (fun cdv A outer s H E B hW hr =>
    have tk : L2N.Takes (cxOf (L2N.CX P w) P w K mg base N_context_index "context_index" (defScope s_context_index) T.f_context_index cdv A outer s H E) (fun cls d _ H => E cls d H) := L2N.takes_of rfl rfl rfl rfl
    ⟨_, (pss_one (ps_ret (pe_callS (ok_choice_index T) hr rfl T.g_choice_index T.F_choice_index.kp T.b_choice_index (fun σ => L2N.passAt tk σ) (pa_cons (pe_op op_repA (pe_tupN (pa_cons (pv 1) pa_nil)) (pe_callB call_len_seq (by rfl) T.z_len PySem.boot_len (pa_cons (pv 0) pa_nil))) (pa_cons (pv 0) pa_nil))))),
      (sRet (sCallSW (W := fun cls d _ H => E cls d H) (by exact hW) (sCons (sOp roRepT (sTup (sCons sVar sNil)) (sCB rcLen (sCons sVar sNil))) (sCons sVar sNil))))⟩) (fun ds μ Φ Ψ h => ?hv)
  case hv =>
    obtain ⟨n, k, c, rfl, hc, hn, h⟩ := h
    walk_at "wps"
    refine ⟨by omega, by have := hc.len; omega, by omega, by omega, ?_⟩
    rw [repI]
    have hl := hc.len
    have hb : WB (List.replicate c.length (k : Int)) := by rw [hl]; exact WB_rep (by omega) hc.k1 hc.k4
    have hx := idx_rep (k := (k : Int)) c 0 fun r hr => ⟨hc.lo r hr, hc.hi r hr⟩
    refine ⟨_, _, rfl, hb, fun v _ e => ?_, fun z => ?_⟩
    · rw [hx] at e
      cases e
      exact ret_same h
    · exfalso
      rcases z with z | z
      · rw [List.length_replicate] at z; exact z rfl
      · rw [hx] at z; cases z
end
section
variable {P : Program} {w : World} {K : Fg} {mg : Str → Option Value} {base : Heap}
def c_any_flags : Con := FlC (· = .any)
theorem len_any_flags {ds μ Φ Ψ} (h : c_any_flags ds μ Φ Ψ) : ds.length = 3 := h.len
theorem ok_any_flags {cx : CXT} (T : Txt P w K mg) : FnOk P w K mg base cx 1 T.f_any_flags T.d_any_flags ["term", "context", "outcomes"] (spOf K c_any_flags) := by
  refine def_okC T.F_any_flags sc_any_flags _ (fun ds μ Φ Ψ h => len_any_flags h) (fun cdv A outer s H E B hW hr =>
    ⟨_, (pss_one (ps_ret (pe_op op_rep (pe_lst (pa_cons pe_bl pa_nil)) (pe_callB call_len_seq (by rfl) T.z_len PySem.boot_len (pa_cons (pv 1) pa_nil))))),
      (sRet (sOp roRepL (sLst (sCons sBl sNil)) (sCB rcLen (sCons sVar sNil))))⟩) (fun ds μ Φ Ψ h => ?hv)
  case hv =>
    obtain ⟨n, k, a, c, rfl, ha, hc, rfl, h⟩ := h
    simp only [Am.d, Am.iT]
    walk_at "wps"
    have hl := hc.len
    have := hc.n64
    refine ⟨by omega, by omega, by omega, by omega, ret_same ?_⟩
    rw [rep_any]
    exact h
def c_best_flags : Con := FlC (fun a => ∃ r, a = .best r)
theorem len_best_flags {ds μ Φ Ψ} (h : c_best_flags ds μ Φ Ψ) : ds.length = 3 := h.len
theorem ok_best_flags {cx : CXT} (T : Txt P w K mg) : FnOk P w K mg base cx 1 T.f_best_flags T.d_best_flags ["term", "context", "outcomes"] (spOf K c_best_flags) := by
  refine def_okC T.F_best_flags sc_best_flags _ (fun ds μ Φ Ψ h => len_best_flags h) (fun cdv A outer s H E B hW hr =>
    ⟨_, (pss_cons (ps_setLc (i := 3) (own := [("outcome", 5)]) rfl sc_best_flags.nd rfl rfl (sw_true rfl rfl rfl (by decide +kernel)) (pi_tup (pv 1)) (blkOk_by (N := N_best_flags) (sc := defScope s_best_flags) (by decide +kernel)) (fun _ _ _ _ _ => (pg_name (i := 5) sc_best_flags.nd rfl (Or.inl rfl))) (fun _ _ _ _ _ => pts_nil) (fun _ _ _ _ _ => (pe_ix ix_tup (pe_ix ix_tup (pv 0) pe_int (fun _ _ => rfl)) (pv 5) (fun _ _ => rfl))))
      (pss_cons (ps_set (i := 4) sc_best_flags.nd rfl (Or.inr rfl) (pe_callB (cr_max rfl) (by rfl) T.z_max (by decide +kernel) (pa_cons (pv 3) pa_nil)))
      (pss_one (ps_ret (pe_lc (own := [("rank", 6)]) rfl sc_best_flags.nd (pi_list (pv 3)) (blkOk_by (N := N_best_flags) (sc := defScope s_best_flags) (by decide +kernel)) (fun _ _ _ _ _ => (pg_name (i := 6) sc_best_flags.nd rfl (Or.inl rfl))) (fun _ _ _ _ _ => pts_nil) (fun _ _ _ _ _ => (pe_cmpR op_eq (pv 6) (pv 4) (nomark _)))))))),
      (sSeq (sAsg (sLc (siT sVar) (gwName List.mem_cons_self) (fun _ _ _ => sName) (fun _ _ _ => sYes) (fun _ _ _ => (sOp roIxT (sOp roIxT sVar sInt) sVar))) sName)
      (sSeq (sAsg (sCB rcMaxL (sCons sVar sNil)) sName)
      (sRet (sLc (siL sVar) (gwName List.mem_cons_self) (fun _ _ _ => sName) (fun _ _ _ => sYes) (fun _ _ _ => (sOp roEq sVar sVar))))))⟩) (fun ds μ Φ Ψ h => ?hv)
  case hv =>
    obtain ⟨n, k, a, c, ⟨r, rfl⟩, ha, hc, rfl, h⟩ := h
    simp only [Am.d, Am.iT]
    walk_at "wps"
    have hl := hc.len
    have h64 := hc.n64
    have h1 := hc.n1
    refine lcZ (fun z => .int (at' r z)) (by omega) (fun z μ2 X hz hsub hx => ?_) ?_
    · walk_at "wps"
      have hr : z.toNat < r.length := by have := hc.lo z hz; have := hc.hi z hz; rw [ha.1]; omega
      refine ⟨_, atI_map (hc.lo z hz) hr, ?_⟩
      unfold at' at hx
      rw [getD_of (List.getElem?_eq_getElem hr)] at hx
      exact hx
    · have e1 : c.map (fun z => D.int (at' r z)) = (c.map (at' r)).map .int := by rw [List.map_map]; rfl
      rw [e1]
      refine ⟨c.map (at' r), .lst _, rfl, fun e => by rw [List.map_eq_nil_iff] at e; rw [e] at hl; simp at hl; omega, fun m hm hmax => ⟨_, rfl, lcI (fun x => .bl (isG k (.best r) c x)) (by rw [List.length_map]; omega) (fun i y μ2 X hi hsub hx => ?_) (by rw [List.length_map]; exact ret_same h)⟩⟩
      rw [List.getElem?_map, Option.map_eq_some_iff] at hi
      obtain ⟨z, hz, rfl⟩ := hi
      simp only [isG, getD_of hz] at hx
      rw [← max_iff (List.mem_of_getElem? hz) hm hmax] at hx
      walk_at "wps"
      exact hx
def c_second_flags : Con := FlC (fun a => ∃ r, a = .second r)
theorem len_second_flags {ds μ Φ Ψ} (h : c_second_flags ds μ Φ Ψ) : ds.length = 3 := h.len
theorem ok_second_flags {cx : CXT} (T : Txt P w K mg) : FnOk P w K mg base cx 1 T.f_second_flags T.d_second_flags ["term", "context", "outcomes"] (spOf K c_second_flags) := by
  refine def_okC T.F_second_flags sc_second_flags _ (fun ds μ Φ Ψ h => len_second_flags h) (fun cdv A outer s H E B hW hr =>
    ⟨_, (pss_cons (ps_setLc (i := 3) (own := [("outcome", 5)]) rfl sc_second_flags.nd rfl rfl (sw_true rfl rfl rfl (by decide +kernel)) (pi_tup (pv 1)) (blkOk_by (N := N_second_flags) (sc := defScope s_second_flags) (by decide +kernel)) (fun _ _ _ _ _ => (pg_name (i := 5) sc_second_flags.nd rfl (Or.inl rfl))) (fun _ _ _ _ _ => pts_nil) (fun _ _ _ _ _ => (pe_ix ix_tup (pe_ix ix_tup (pv 0) pe_int (fun _ _ => rfl)) (pv 5) (fun _ _ => rfl))))
      (pss_cons (ps_set (i := 4) sc_second_flags.nd rfl (Or.inr rfl) (pe_sortSet rfl T.z_sorted rfl T.z_set (pv 3)))
      (pss_cons (ps_if (pt_cmpR op_eq (pe_callB call_len_seq (by rfl) T.z_len PySem.boot_len (pa_cons (pv 4) pa_nil)) pe_int (nomark _)) (pss_one (ps_ret (pe_op op_rep (pe_lst (pa_cons pe_bl pa_nil)) (pe_callB call_len_seq (by rfl) T.z_len PySem.boot_len (pa_cons (pv 1) pa_nil))))) pss_nil)
      (pss_one (ps_ret (pe_lc (own := [("rank", 6)]) rfl sc_second_flags.nd (pi_list (pv 3)) (blkOk_by (N := N_second_flags) (sc := defScope s_second_flags) (by decide +kernel)) (fun _ _ _ _ _ => (pg_name (i := 6) sc_second_flags.nd rfl (Or.inl rfl))) (fun _ _ _ _ _ => pts_nil) (fun _ _ _ _ _ => (pe_cmpR op_eq (pv 6) (pe_ix ix_list (pv 4) (pe_un un_neg pe_int) (fun _ _ => rfl)) (nomark _))))))))),
      (sSeq (sAsg (sLc (siT sVar) (gwName List.mem_cons_self) (fun _ _ _ => sName) (fun _ _ _ => sYes) (fun _ _ _ => (sOp roIxT (sOp roIxT sVar sInt) sVar))) sName)
      (sSeq (sAsg (sSortSet sVar) sName)
      (sSeq (sIfS (sTest (sOp roEq (sCB rcLen (sCons sVar sNil)) sInt)) (sRet (sOp roRepL (sLst (sCons sBl sNil)) (sCB rcLen (sCons sVar sNil)))) sNext)
      (sRet (sLc (siL sVar) (gwName List.mem_cons_self) (fun _ _ _ => sName) (fun _ _ _ => sYes) (fun _ _ _ => (sOp roEq sVar (sOp roIxL sVar (sUn ruInt sInt)))))))))⟩) (fun ds μ Φ Ψ h => ?hv)
  case hv =>
    obtain ⟨n, k, a, c, ⟨r, rfl⟩, ha, hc, rfl, h⟩ := h
    simp only [Am.d, Am.iT]
    walk_at "wps"
    have hl := hc.len
    have h64 := hc.n64
    have h1 := hc.n1
    refine lcZ (fun z => .int (at' r z)) (by omega) (fun z μ2 X hz hsub hx => ?_) ?_
    · walk_at "wps"
      have hr : z.toNat < r.length := by have := hc.lo z hz; have := hc.hi z hz; rw [ha.1]; omega
      refine ⟨_, atI_map (hc.lo z hz) hr, ?_⟩
      unfold at' at hx
      rw [getD_of (List.getElem?_eq_getElem hr)] at hx
      exact hx
    · have e1 : c.map (fun z => D.int (at' r z)) = (c.map (at' r)).map .int := by rw [List.map_map]; rfl
      rw [e1]
      have inr : ∀ y ∈ c.map (at' r), y ∈ [0, 1, 2, 3, 4, 5, 6, 7, 8, (9 : Int)] := fun y hy => by
        obtain ⟨z, hz, rfl⟩ := List.mem_map.mp hy
        have hr : z.toNat < r.length := by have := hc.lo z hz; have := hc.hi z hz; rw [ha.1]; omega
        have := ha.2 (at' r z) (by unfold at'; rw [getD_of (List.getElem?_eq_getElem hr)]; exact List.getElem_mem hr)
        simp
        omega
      have isg : ∀ (i : Nat) (z : Int), c[i]? = some z → isG k (.second r) c i = sec (c.map (at' r)) (at' r z) := fun i z hi => by
        simp only [isG, getD_of hi, sec, List.all_map]
        rfl
      refine ⟨c.map (at' r), .lst _, ⟨by rw [List.length_map]; omega, _, by decide, inr⟩, fun ns asc mem => ⟨fun hone => ⟨by omega, by omega, by omega, by omega, ret_same ?_⟩, fun hmany => ⟨_, rfl, lcI (fun x => .bl (isG k (.second r) c x)) (by rw [List.length_map]; omega) (fun i y μ2 X hi hsub hx => ?_) (by rw [List.length_map]; exact ret_same h)⟩⟩⟩
      · rw [rep_any]
        have e : (List.range c.length).map (fun _ => D.bl true) = flagL k (.second r) c := by
          refine List.map_congr_left fun i hi => ?_
          have hi : i < c.length := List.mem_range.mp hi
          rw [isg i _ (List.getElem?_eq_getElem hi), sec_one (List.mem_map_of_mem (List.getElem_mem hi)) mem (by omega)]
        rw [e]; exact h
      · rw [List.getElem?_map, Option.map_eq_some_iff] at hi
        obtain ⟨z, hz, rfl⟩ := hi
        have two : 2 ≤ ns.length := by
          have : (at' r z) ∈ ns := (mem _).mpr (List.mem_map_of_mem (List.mem_of_getElem? hz))
          have := List.length_pos_of_mem this
          omega
        obtain ⟨pre, s, t, rfl⟩ := last_two two
        rw [isg i z hz, sec_two (List.mem_map_of_mem (List.mem_of_getElem? hz)) asc mem] at hx
        walk_at "wps"
        rw [List.map_append]
        refine ⟨.int s, atI_last2, ?_⟩
        walk_at "wps"
        exact hx
def c_most_flags : Con := FlC (· = .most)
theorem len_most_flags {ds μ Φ Ψ} (h : c_most_flags ds μ Φ Ψ) : ds.length = 3 := h.len
theorem ok_most_flags {cx : CXT} (T : Txt P w K mg) : FnOk P w K mg base cx 1 T.f_most_flags T.d_most_flags ["term", "context", "outcomes"] (spOf K c_most_flags) := by
  refine def_okC T.F_most_flags sc_most_flags _ (fun ds μ Φ Ψ h => len_most_flags h) (fun cdv A outer s H E B hW hr =>
    ⟨_, (pss_cons (ps_setLc (i := 3) (own := [("outcome", 5)]) rfl sc_most_flags.nd rfl rfl (sw_true rfl rfl rfl (by decide +kernel)) (pi_tup (pv 1)) (blkOk_by (N := N_most_flags) (sc := defScope s_most_flags) (by decide +kernel)) (fun _ _ _ _ _ => (pg_name (i := 5) sc_most_flags.nd rfl (Or.inl rfl))) (fun _ _ _ _ _ => pts_nil) (fun _ _ _ _ _ => (pe_bmT PySem.F.plainAttrs_tuple PySem.F.slot_tuple_count PySem.F.type_tuple_count mt_tcount (pv 1) (pa_cons (pv 5) pa_nil))))
      (pss_cons (ps_set (i := 4) sc_most_flags.nd rfl (Or.inr rfl) (pe_callB (cr_max rfl) (by rfl) T.z_max (by decide +kernel) (pa_cons (pv 3) pa_nil)))
      (pss_one (ps_ret (pe_lc (own := [("count", 6)]) rfl sc_most_flags.nd (pi_list (pv 3)) (blkOk_by (N := N_most_flags) (sc := defScope s_most_flags) (by decide +kernel)) (fun _ _ _ _ _ => (pg_name (i := 6) sc_most_flags.nd rfl (Or.inl rfl))) (fun _ _ _ _ _ => pts_nil) (fun _ _ _ _ _ => (pe_cmpR op_eq (pv 6) (pv 4) (nomark _)))))))),
      (sSeq (sAsg (sLc (siT sVar) (gwName List.mem_cons_self) (fun _ _ _ => sName) (fun _ _ _ => sYes) (fun _ _ _ => (sCntT sVar sVar))) sName)
      (sSeq (sAsg (sCB rcMaxL (sCons sVar sNil)) sName)
      (sRet (sLc (siL sVar) (gwName List.mem_cons_self) (fun _ _ _ => sName) (fun _ _ _ => sYes) (fun _ _ _ => (sOp roEq sVar sVar))))))⟩) (fun ds μ Φ Ψ h => ?hv)
  case hv =>
    obtain ⟨n, k, a, c, rfl, ha, hc, rfl, h⟩ := h
    simp only [Am.d, Am.iT]
    walk_at "wps"
    have hl := hc.len
    have h64 := hc.n64
    have h1 := hc.n1
    refine lcZ (fun z => .int ((fun y => ((c.count y : Nat) : Int)) z)) (by omega) (fun z μ2 X hz hsub hx => ?_) ?_
    · walk_at "wps"
      exact ⟨c, rfl, hx⟩
    · have e1 : c.map (fun z => D.int ((fun y => ((c.count y : Nat) : Int)) z)) = (c.map fun y => ((c.count y : Nat) : Int)).map .int := by rw [List.map_map]; rfl
      rw [e1]
      refine ⟨_, .lst _, rfl, fun e => by rw [List.map_eq_nil_iff] at e; rw [e] at hl; simp at hl; omega, fun m hm hmax => ⟨_, rfl, lcI (fun x => .bl (isG k .most c x)) (by rw [List.length_map]; omega) (fun i y μ2 X hi hsub hx => ?_) (by rw [List.length_map]; exact ret_same h)⟩⟩
      rw [List.getElem?_map, Option.map_eq_some_iff] at hi
      obtain ⟨z, hz, rfl⟩ := hi
      have e2 := max_iff (f := fun y => ((c.count y : Nat) : Int)) (List.mem_of_getElem? hz) hm hmax
      simp only [Int.ofNat_le] at e2
      simp only [isG, getD_of hz] at hx
      rw [← e2] at hx
      walk_at "wps"
      exact hx
def c_fewest_flags : Con := FlC (· = .fewest)
theorem len_fewest_flags {ds μ Φ Ψ} (h : c_fewest_flags ds μ Φ Ψ) : ds.length = 3 := h.len
theorem ok_fewest_flags {cx : CXT} (T : Txt P w K mg) : FnOk P w K mg base cx 1 T.f_fewest_flags T.d_fewest_flags ["term", "context", "outcomes"] (spOf K c_fewest_flags) := by
  refine def_okC T.F_fewest_flags sc_fewest_flags _ (fun ds μ Φ Ψ h => len_fewest_flags h) (fun cdv A outer s H E B hW hr =>
    ⟨_, (pss_cons (ps_setLc (i := 3) (own := [("outcome", 5)]) rfl sc_fewest_flags.nd rfl rfl (sw_true rfl rfl rfl (by decide +kernel)) (pi_tup (pv 1)) (blkOk_by (N := N_fewest_flags) (sc := defScope s_fewest_flags) (by decide +kernel)) (fun _ _ _ _ _ => (pg_name (i := 5) sc_fewest_flags.nd rfl (Or.inl rfl))) (fun _ _ _ _ _ => pts_nil) (fun _ _ _ _ _ => (pe_bmT PySem.F.plainAttrs_tuple PySem.F.slot_tuple_count PySem.F.type_tuple_count mt_tcount (pv 1) (pa_cons (pv 5) pa_nil))))
      (pss_cons (ps_set (i := 4) sc_fewest_flags.nd rfl (Or.inr rfl) (pe_callB (cr_min rfl) (by rfl) T.z_min (by decide +kernel) (pa_cons (pv 3) pa_nil)))
      (pss_one (ps_ret (pe_lc (own := [("count", 6)]) rfl sc_fewest_flags.nd (pi_list (pv 3)) (blkOk_by (N := N_fewest_flags) (sc := defScope s_fewest_flags) (by decide +kernel)) (fun _ _ _ _ _ => (pg_name (i := 6) sc_fewest_flags.nd rfl (Or.inl rfl))) (fun _ _ _ _ _ => pts_nil) (fun _ _ _ _ _ => (pe_cmpR op_eq (pv 6) (pv 4) (nomark _)))))))),
      (sSeq (sAsg (sLc (siT sVar) (gwName List.mem_cons_self) (fun _ _ _ => sName) (fun _ _ _ => sYes) (fun _ _ _ => (sCntT sVar sVar))) sName)
      (sSeq (sAsg (sCB rcMinL (sCons sVar sNil)) sName)
      (sRet (sLc (siL sVar) (gwName List.mem_cons_self) (fun _ _ _ => sName) (fun _ _ _ => sYes) (fun _ _ _ => (sOp roEq sVar sVar))))))⟩) (fun ds μ Φ Ψ h => ?hv)
  case hv =>
    obtain ⟨n, k, a, c, rfl, ha, hc, rfl, h⟩ := h
    simp only [Am.d, Am.iT]
    walk_at "wps"
    have hl := hc.len
    have h64 := hc.n64
    have h1 := hc.n1
    refine lcZ (fun z => .int ((fun y => ((c.count y : Nat) : Int)) z)) (by omega) (fun z μ2 X hz hsub hx => ?_) ?_
    · walk_at "wps"
      exact ⟨c, rfl, hx⟩
    · have e1 : c.map (fun z => D.int ((fun y => ((c.count y : Nat) : Int)) z)) = (c.map fun y => ((c.count y : Nat) : Int)).map .int := by rw [List.map_map]; rfl
      rw [e1]
      refine ⟨_, .lst _, rfl, fun e => by rw [List.map_eq_nil_iff] at e; rw [e] at hl; simp at hl; omega, fun m hm hmax => ⟨_, rfl, lcI (fun x => .bl (isG k .fewest c x)) (by rw [List.length_map]; omega) (fun i y μ2 X hi hsub hx => ?_) (by rw [List.length_map]; exact ret_same h)⟩⟩
      rw [List.getElem?_map, Option.map_eq_some_iff] at hi
      obtain ⟨z, hz, rfl⟩ := hi
      have e2 := min_iff (f := fun y => ((c.count y : Nat) : Int)) (List.mem_of_getElem? hz) hm hmax
      simp only [Int.ofNat_le] at e2
      simp only [isG, getD_of hz] at hx
      rw [← e2] at hx
      walk_at "wps"
      exact hx
def c_fixed_flags : Con := FlC (· = .fixed)
theorem len_fixed_flags {ds μ Φ Ψ} (h : c_fixed_flags ds μ Φ Ψ) : ds.length = 3 := h.len
theorem ok_fixed_flags {cx : CXT} (T : Txt P w K mg) : FnOk P w K mg base cx 1 T.f_fixed_flags T.d_fixed_flags ["term", "context", "outcomes"] (spOf K c_fixed_flags) := by
  refine def_okC T.F_fixed_flags sc_fixed_flags _ (fun ds μ Φ Ψ h => len_fixed_flags h) (fun cdv A outer s H E B hW hr =>
    ⟨_, (pss_one (ps_ret (pe_lc (own := [("option", 3), ("outcome", 4)]) rfl sc_fixed_flags.nd (pi_enumT (by rfl) T.z_enumerate (pa_cons (pv 1) pa_nil)) (blkOk_by (N := N_fixed_flags) (sc := defScope s_fixed_flags) (by decide +kernel)) (fun _ _ _ _ _ => (pg_tup (n := 2) rfl (pgs_cons (pg_name (i := 3) sc_fixed_flags.nd rfl (Or.inl rfl)) (pgs_cons (pg_name (i := 4) sc_fixed_flags.nd rfl (Or.inl rfl)) pgs_nil)))) (fun _ _ _ _ _ => pts_nil) (fun _ _ _ _ _ => (pe_cmpR op_eq (pv 4) (pv 3) (nomark _)))))),
      (sRet (sLc (siEnumT sVar) (gwTup (gwConsN List.mem_cons_self (gwConsN (List.mem_cons_of_mem _ List.mem_cons_self) gwNil))) (fun _ _ _ => (sgTup (sgCons sName (sgCons sName sgNil)))) (fun _ _ _ => sYes) (fun _ _ _ => (sOp roEq sVar sVar))))⟩) (fun ds μ Φ Ψ h => ?hv)
  case hv =>
    obtain ⟨n, k, a, c, rfl, ha, hc, rfl, h⟩ := h
    simp only [Am.d, Am.iT]
    walk_at "wps"
    have hl := hc.len
    have h64 := hc.n64
    refine lcEn (fun x => .bl (isG k .fixed c x)) (by omega) (fun i z μ2 X hi hsub hx => ?_) (ret_same h)
    simp only [isG, getD_of hi] at hx
    walk_at "wps"
    exact hx
def c_like_flags : Con := FlC (fun a => ∃ i, a = .like i)
theorem len_like_flags {ds μ Φ Ψ} (h : c_like_flags ds μ Φ Ψ) : ds.length = 3 := h.len
theorem ok_like_flags {cx : CXT} (T : Txt P w K mg) : FnOk P w K mg base cx 1 T.f_like_flags T.d_like_flags ["term", "context", "outcomes"] (spOf K c_like_flags) := by
  refine def_okC T.F_like_flags sc_like_flags _ (fun ds μ Φ Ψ h => len_like_flags h) (fun cdv A outer s H E B hW hr =>
    ⟨_, (pss_one (ps_ret (pe_lc (own := [("outcome", 3)]) rfl sc_like_flags.nd (pi_tup (pv 1)) (blkOk_by (N := N_like_flags) (sc := defScope s_like_flags) (by decide +kernel)) (fun _ _ _ _ _ => (pg_name (i := 3) sc_like_flags.nd rfl (Or.inl rfl))) (fun _ _ _ _ _ => pts_nil) (fun _ _ _ _ _ => (pe_cmpR op_eq (pv 3) (pe_ix ix_tup (pv 1) (pe_ix ix_tup (pv 0) pe_int (fun _ _ => rfl)) (fun _ _ => rfl)) (nomark _)))))),
      (sRet (sLc (siT sVar) (gwName List.mem_cons_self) (fun _ _ _ => sName) (fun _ _ _ => sYes) (fun _ _ _ => (sOp roEq sVar (sOp roIxT sVar (sOp roIxT sVar sInt))))))⟩) (fun ds μ Φ Ψ h => ?hv)
  case hv =>
    obtain ⟨n, k, a, c, ⟨r, rfl⟩, ha, hc, rfl, h⟩ := h
    simp only [Am.d, Am.iT]
    walk_at "wps"
    have hl := hc.len
    have h64 := hc.n64
    refine lcI (fun x => .bl (isG k (.like r) c x)) (by omega) (fun i z μ2 X hi hsub hx => ?_) (ret_same h)
    simp only [isG, getD_of hi] at hx
    walk_at "wps"
    have hr : r < c.length := by rw [hl]; exact ha
    refine ⟨.int c[r], atI_nat (by rw [List.getElem?_map, List.getElem?_eq_getElem hr]; rfl), ?_⟩
    walk_at "wps"
    rw [getD_of (List.getElem?_eq_getElem hr)] at hx
    exact hx
def c_unlike_flags : Con := FlC (fun a => ∃ i, a = .unlike i)
theorem len_unlike_flags {ds μ Φ Ψ} (h : c_unlike_flags ds μ Φ Ψ) : ds.length = 3 := h.len
theorem ok_unlike_flags {cx : CXT} (T : Txt P w K mg) : FnOk P w K mg base cx 1 T.f_unlike_flags T.d_unlike_flags ["term", "context", "outcomes"] (spOf K c_unlike_flags) := by
  refine def_okC T.F_unlike_flags sc_unlike_flags _ (fun ds μ Φ Ψ h => len_unlike_flags h) (fun cdv A outer s H E B hW hr =>
    ⟨_, (pss_one (ps_ret (pe_lc (own := [("outcome", 3)]) rfl sc_unlike_flags.nd (pi_tup (pv 1)) (blkOk_by (N := N_unlike_flags) (sc := defScope s_unlike_flags) (by decide +kernel)) (fun _ _ _ _ _ => (pg_name (i := 3) sc_unlike_flags.nd rfl (Or.inl rfl))) (fun _ _ _ _ _ => pts_nil) (fun _ _ _ _ _ => (pe_cmpR op_ne (pv 3) (pe_ix ix_tup (pv 1) (pe_ix ix_tup (pv 0) pe_int (fun _ _ => rfl)) (fun _ _ => rfl)) (nomark _)))))),
      (sRet (sLc (siT sVar) (gwName List.mem_cons_self) (fun _ _ _ => sName) (fun _ _ _ => sYes) (fun _ _ _ => (sOp roNe sVar (sOp roIxT sVar (sOp roIxT sVar sInt))))))⟩) (fun ds μ Φ Ψ h => ?hv)
  case hv =>
    obtain ⟨n, k, a, c, ⟨r, rfl⟩, ha, hc, rfl, h⟩ := h
    simp only [Am.d, Am.iT]
    walk_at "wps"
    have hl := hc.len
    have h64 := hc.n64
    refine lcI (fun x => .bl (isG k (.unlike r) c x)) (by omega) (fun i z μ2 X hi hsub hx => ?_) (ret_same h)
    simp only [isG, getD_of hi] at hx
    walk_at "wps"
    have hr : r < c.length := by rw [hl]; exact ha
    refine ⟨.int c[r], atI_nat (by rw [List.getElem?_map, List.getElem?_eq_getElem hr]; rfl), ?_⟩
    walk_at "wps"
    rw [getD_of (List.getElem?_eq_getElem hr)] at hx
    exact hx
def c_among_flags : Con := FlC (fun a => ∃ l, a = .among l)
theorem len_among_flags {ds μ Φ Ψ} (h : c_among_flags ds μ Φ Ψ) : ds.length = 3 := h.len
theorem ok_among_flags {cx : CXT} (T : Txt P w K mg) : FnOk P w K mg base cx 1 T.f_among_flags T.d_among_flags ["term", "context", "outcomes"] (spOf K c_among_flags) := by
  refine def_okC T.F_among_flags sc_among_flags _ (fun ds μ Φ Ψ h => len_among_flags h) (fun cdv A outer s H E B hW hr =>
    ⟨_, (pss_one (ps_ret (pe_lc (own := [("outcome", 3)]) rfl sc_among_flags.nd (pi_tup (pv 1)) (blkOk_by (N := N_among_flags) (sc := defScope s_among_flags) (by decide +kernel)) (fun _ _ _ _ _ => (pg_name (i := 3) sc_among_flags.nd rfl (Or.inl rfl))) (fun _ _ _ _ _ => pts_nil) (fun _ _ _ _ _ => (pe_cmpR op_in_seq (pv 3) (pe_ix ix_tup (pv 0) pe_int (fun _ _ => rfl)) (by with_unfolding_all rfl)))))),
      (sRet (sLc (siT sVar) (gwName List.mem_cons_self) (fun _ _ _ => sName) (fun _ _ _ => sYes) (fun _ _ _ => (sOp (roIn (neg := false)) sVar (sOp roIxT sVar sInt)))))⟩) (fun ds μ Φ Ψ h => ?hv)
  case hv =>
    obtain ⟨n, k, a, c, ⟨r, rfl⟩, ha, hc, rfl, h⟩ := h
    simp only [Am.d, Am.iT]
    walk_at "wps"
    have hl := hc.len
    have h64 := hc.n64
    refine lcI (fun x => .bl (isG k (.among r) c x)) (by omega) (fun i z μ2 X hi hsub hx => ?_) (ret_same h)
    simp only [isG, getD_of hi] at hx
    walk_at "wps"
    exact in_I hx
def c_only_flags : Con := FlC (fun a => ∃ l, a = .only l)
theorem len_only_flags {ds μ Φ Ψ} (h : c_only_flags ds μ Φ Ψ) : ds.length = 3 := h.len
theorem ok_only_flags {cx : CXT} (T : Txt P w K mg) : FnOk P w K mg base cx 1 T.f_only_flags T.d_only_flags ["term", "context", "outcomes"] (spOf K c_only_flags) := by
  refine def_okC T.F_only_flags sc_only_flags _ (fun ds μ Φ Ψ h => len_only_flags h) (fun cdv A outer s H E B hW hr =>
    ⟨_, (pss_one (ps_ret (pe_lc (own := [("option", 3)]) rfl sc_only_flags.nd (pi_range1 rfl T.z_range (pa_cons (pe_callB call_len_seq (by rfl) T.z_len PySem.boot_len (pa_cons (pv 1) pa_nil)) pa_nil)) (blkOk_by (N := N_only_flags) (sc := defScope s_only_flags) (by decide +kernel)) (fun _ _ _ _ _ => (pg_name (i := 3) sc_only_flags.nd rfl (Or.inl rfl))) (fun _ _ _ _ _ => pts_nil) (fun _ _ _ _ _ => (pe_cmpR op_in_seq (pv 3) (pe_ix ix_tup (pv 0) pe_int (fun _ _ => rfl)) (by with_unfolding_all rfl)))))),
      (sRet (sLc (siR1 (sCB rcLen (sCons sVar sNil))) (gwName List.mem_cons_self) (fun _ _ _ => sName) (fun _ _ _ => sYes) (fun _ _ _ => (sOp (roIn (neg := false)) sVar (sOp roIxT sVar sInt)))))⟩) (fun ds μ Φ Ψ h => ?hv)
  case hv =>
    obtain ⟨n, k, a, c, ⟨r, rfl⟩, ha, hc, rfl, h⟩ := h
    simp only [Am.d, Am.iT]
    walk_at "wps"
    have hl := hc.len
    have h64 := hc.n64
    refine ⟨by omega, by omega, lcR (fun x => .bl (isG k (.only r) c x)) (by omega) (fun i μ2 X hi hsub hx => ?_) (ret_same h)⟩
    simp only [isG] at hx
    walk_at "wps"
    exact in_I hx
def c_table_flags : Con := FlC (fun a => ∃ l, a = .table l)
theorem len_table_flags {ds μ Φ Ψ} (h : c_table_flags ds μ Φ Ψ) : ds.length = 3 := h.len
theorem ok_table_flags (T : Txt P w K mg) : FnOk P w K mg base (L2N.CX P w) 5 T.f_table_flags T.d_table_flags ["term", "context", "outcomes"] (spOf K c_table_flags) := by
  refine def_okC T.F_table_flags sc_table_flags _ (fun ds μ Φ Ψ h => len_table_flags h) (fun cdv A outer s H E B hW hr =>
    have tk : L2N.Takes (cxOf (L2N.CX P w) P w K mg base N_table_flags "table_flags" (defScope s_table_flags) T.f_table_flags cdv A outer s H E) (fun cls d _ H => E cls d H) := L2N.takes_of rfl rfl rfl rfl
    ⟨_, (pss_cons (ps_set (i := 3) sc_table_flags.nd rfl (Or.inr rfl) (pe_ix ix_tup (pe_ix ix_tup (pv 0) pe_int (fun _ _ => rfl)) (pe_callS (ok_context_index T) hr rfl T.g_context_index T.F_context_index.kp T.b_context_index (fun σ => L2N.passAt tk σ) (pa_cons (pv 1) (pa_cons (pv 2) pa_nil))) (fun _ _ => rfl)))
      (pss_one (ps_ret (pe_lc (own := [("option", 4)]) rfl sc_table_flags.nd (pi_range1 rfl T.z_range (pa_cons (pe_callB call_len_seq (by rfl) T.z_len PySem.boot_len (pa_cons (pv 1) pa_nil)) pa_nil)) (blkOk_by (N := N_table_flags) (sc := defScope s_table_flags) (by decide +kernel)) (fun _ _ _ _ _ => (pg_name (i := 4) sc_table_flags.nd rfl (Or.inl rfl))) (fun _ _ _ _ _ => pts_nil) (fun _ _ _ _ _ => (pe_cmpR op_in_seq (pv 4) (pv 3) (by with_unfolding_all rfl))))))),
      (sSeq (sAsg (sOp roIxT (sOp roIxT sVar sInt) (sCallSW (W := fun cls d _ H => E cls d H) (by exact hW) (sCons sVar (sCons sVar sNil)))) sName)
      (sRet (sLc (siR1 (sCB rcLen (sCons sVar sNil))) (gwName List.mem_cons_self) (fun _ _ _ => sName) (fun _ _ _ => sYes) (fun _ _ _ => (sOp (roIn (neg := false)) sVar sVar)))))⟩) (fun ds μ Φ Ψ h => ?hv)
  case hv =>
    obtain ⟨n, k, a, c, ⟨r, rfl⟩, ha, hc, rfl, h⟩ := h
    simp only [Am.d, Am.iT]
    walk_at "wps"
    have hl := hc.len
    have h64 := hc.n64
    refine ⟨n, k, c, rfl, hc, ha.1, ?_⟩
    walk_at "wps"
    have hi : (ctxIx k c).toNat < r.length ∧ 0 ≤ ctxIx k c := ⟨by rw [ha.2.2.1]; exact (ctxIx_ok hc).2, (ctxIx_ok hc).1⟩
    refine ⟨Am.iT r[(ctxIx k c).toNat], atI_map hi.2 hi.1, by omega, by omega, lcR (fun x => .bl (isG k (.table r) c x)) (by omega) (fun i μ2 X hj hsub hx => ?_) (ret_same h)⟩
    simp only [isG, List.getD_eq_getElem?_getD, List.getElem?_eq_getElem hi.1, Option.getD_some] at hx
    simp only [Am.iT]
    walk_at "wps"
    exact in_I hx
end
section
variable {P : Program} {w : World} {K : Fg} {mg : Str → Option Value} {base : Heap}
def c_good_flags (m : Nat) : Con := FlC (fun a => a.dep ≤ m)
def c_either_flags (m : Nat) : Con := FlC (fun a => (∃ x y, a = .either x y) ∧ a.dep ≤ m)
theorem len_either_flags {m ds μ Φ Ψ} (h : c_either_flags m ds μ Φ Ψ) : ds.length = 3 := h.len
theorem step_either_flags (T : Txt P w K mg) {k : Nat} (hk : 5 ≤ k) (n : Nat) (ih_good_flags : FnOk P w K mg base (L2N.CX P w) k T.f_good_flags T.d_good_flags ["term", "context", "outcomes"] (spOf K (c_good_flags n))) : FnOk P w K mg base (L2N.CX P w) (k + 1) T.f_either_flags T.d_either_flags ["term", "context", "outcomes"] (spOf K (c_either_flags (n + 1))) := by
  refine def_okC T.F_either_flags sc_either_flags _ (fun ds μ Φ Ψ h => len_either_flags h) (fun cdv A outer s H E B hW hr =>
    have tk : L2N.Takes (cxOf (L2N.CX P w) P w K mg base N_either_flags "either_flags" (defScope s_either_flags) T.f_either_flags cdv A outer s H E) (fun cls d _ H => E cls d H) := L2N.takes_of rfl rfl rfl rfl
    ⟨_, (pss_cons (ps_set (i := 3) sc_either_flags.nd rfl (Or.inl rfl) (pe_callS ih_good_flags hr rfl T.g_good_flags T.F_good_flags.kp T.b_good_flags (fun σ => L2N.passAt tk σ) (pa_cons (pe_ix ix_tup (pv 0) pe_int (fun _ _ => rfl)) (pa_cons (pv 1) (pa_cons (pv 2) pa_nil)))))
      (pss_cons (ps_set (i := 4) sc_either_flags.nd rfl (Or.inl rfl) (pe_callS ih_good_flags hr rfl T.g_good_flags T.F_good_flags.kp T.b_good_flags (fun σ => L2N.passAt tk σ) (pa_cons (pe_ix ix_tup (pv 0) pe_int (fun _ _ => rfl)) (pa_cons (pv 1) (pa_cons (pv 2) pa_nil)))))
      (pss_one (ps_ret (pe_lc (own := [("one", 5), ("other", 6)]) rfl sc_either_flags.nd (RZ.pi_zipA (by rfl) T.z_zip (pa_cons (pv 3) (pa_cons (pv 4) pa_nil))) (blkOk_by (N := N_either_flags) (sc := defScope s_either_flags) (by decide +kernel)) (fun _ _ _ _ _ => (pg_tup (n := 2) rfl (pgs_cons (pg_name (i := 5) sc_either_flags.nd rfl (Or.inl rfl)) (pgs_cons (pg_name (i := 6) sc_either_flags.nd rfl (Or.inl rfl)) pgs_nil)))) (fun _ _ _ _ _ => pts_nil) (fun _ _ _ _ _ => (pe_or (pv 5) (pe_one (pv 6))))))))),
      (sSeq (sAsg (sCallSW (W := fun cls d _ H => E cls d H) (by exact hW) (sCons (sOp roIxT sVar sInt) (sCons sVar (sCons sVar sNil)))) sName)
      (sSeq (sAsg (sCallSW (W := fun cls d _ H => E cls d H) (by exact hW) (sCons (sOp roIxT sVar sInt) (sCons sVar (sCons sVar sNil)))) sName)
      (sRet (sLc (siZipL sVar sVar) (gwTup (gwConsN List.mem_cons_self (gwConsN (List.mem_cons_of_mem _ List.mem_cons_self) gwNil))) (fun _ _ _ => (sgTup (sgCons sName (sgCons sName sgNil)))) (fun _ _ _ => sYes) (fun _ _ _ => (sOrV sVar sVar))))))⟩) (fun ds μ Φ Ψ h => ?hv)
  case hv =>
    obtain ⟨nn, k, a, c, ⟨⟨x, y, rfl⟩, hd⟩, ha, hc, rfl, h⟩ := h
    simp only [Am.d, Am.iT]
    simp only [Am.dep] at hd
    walk_at "wps"
    refine ⟨nn, k, x, c, by omega, ha.1, hc, rfl, ?_⟩
    walk_at "wps"
    refine ⟨nn, k, y, c, by omega, ha.2, hc, rfl, ?_⟩
    walk_at "wps"
    have hl := hc.len
    have h64 := hc.n64
    refine lcFF (fun i => .bl (isG k (.either x y) c i)) (by omega) (fun i μ2 X hi hsub hx => ?_) (ret_same h)
    simp only [isG] at hx
    walk_at "wps"
    refine ⟨fun h1 => ?_, fun h1 => ?_⟩
    · rw [h1, Bool.true_or] at hx; exact hx
    · rw [h1, Bool.false_or] at hx; exact hx
def c_both_flags (m : Nat) : Con := FlC (fun a => (∃ x y, a = .both x y) ∧ a.dep ≤ m)
theorem len_both_flags {m ds μ Φ Ψ} (h : c_both_flags m ds μ Φ Ψ) : ds.length = 3 := h.len
theorem step_both_flags (T : Txt P w K mg) {k : Nat} (hk : 5 ≤ k) (n : Nat) (ih_good_flags : FnOk P w K mg base (L2N.CX P w) k T.f_good_flags T.d_good_flags ["term", "context", "outcomes"] (spOf K (c_good_flags n))) : FnOk P w K mg base (L2N.CX P w) (k + 1) T.f_both_flags T.d_both_flags ["term", "context", "outcomes"] (spOf K (c_both_flags (n + 1))) := by
  refine def_okC T.F_both_flags sc_both_flags _ (fun ds μ Φ Ψ h => len_both_flags h) (fun cdv A outer s H E B hW hr =>
    have tk : L2N.Takes (cxOf (L2N.CX P w) P w K mg base N_both_flags "both_flags" (defScope s_both_flags) T.f_both_flags cdv A outer s H E) (fun cls d _ H => E cls d H) := L2N.takes_of rfl rfl rfl rfl
    ⟨_, (pss_cons (ps_set (i := 3) sc_both_flags.nd rfl (Or.inl rfl) (pe_callS ih_good_flags hr rfl T.g_good_flags T.F_good_flags.kp T.b_good_flags (fun σ => L2N.passAt tk σ) (pa_cons (pe_ix ix_tup (pv 0) pe_int (fun _ _ => rfl)) (pa_cons (pv 1) (pa_cons (pv 2) pa_nil)))))
      (pss_cons (ps_set (i := 4) sc_both_flags.nd rfl (Or.inl rfl) (pe_callS ih_good_flags hr rfl T.g_good_flags T.F_good_flags.kp T.b_good_flags (fun σ => L2N.passAt tk σ) (pa_cons (pe_ix ix_tup (pv 0) pe_int (fun _ _ => rfl)) (pa_cons (pv 1) (pa_cons (pv 2) pa_nil)))))
      (pss_one (ps_ret (pe_lc (own := [("one", 5), ("other", 6)]) rfl sc_both_flags.nd (RZ.pi_zipA (by rfl) T.z_zip (pa_cons (pv 3) (pa_cons (pv 4) pa_nil))) (blkOk_by (N := N_both_flags) (sc := defScope s_both_flags) (by decide +kernel)) (fun _ _ _ _ _ => (pg_tup (n := 2) rfl (pgs_cons (pg_name (i := 5) sc_both_flags.nd rfl (Or.inl rfl)) (pgs_cons (pg_name (i := 6) sc_both_flags.nd rfl (Or.inl rfl)) pgs_nil)))) (fun _ _ _ _ _ => pts_nil) (fun _ _ _ _ _ => (pe_and (pv 5) (pe_one (pv 6))))))))),
      (sSeq (sAsg (sCallSW (W := fun cls d _ H => E cls d H) (by exact hW) (sCons (sOp roIxT sVar sInt) (sCons sVar (sCons sVar sNil)))) sName)
      (sSeq (sAsg (sCallSW (W := fun cls d _ H => E cls d H) (by exact hW) (sCons (sOp roIxT sVar sInt) (sCons sVar (sCons sVar sNil)))) sName)
      (sRet (sLc (siZipL sVar sVar) (gwTup (gwConsN List.mem_cons_self (gwConsN (List.mem_cons_of_mem _ List.mem_cons_self) gwNil))) (fun _ _ _ => (sgTup (sgCons sName (sgCons sName sgNil)))) (fun _ _ _ => sYes) (fun _ _ _ => (sAndV sVar sVar))))))⟩) (fun ds μ Φ Ψ h => ?hv)
  case hv =>
    obtain ⟨nn, k, a, c, ⟨⟨x, y, rfl⟩, hd⟩, ha, hc, rfl, h⟩ := h
    simp only [Am.d, Am.iT]
    simp only [Am.dep] at hd
    walk_at "wps"
    refine ⟨nn, k, x, c, by omega, ha.1, hc, rfl, ?_⟩
    walk_at "wps"
    refine ⟨nn, k, y, c, by omega, ha.2, hc, rfl, ?_⟩
    walk_at "wps"
    have hl := hc.len
    have h64 := hc.n64
    refine lcFF (fun i => .bl (isG k (.both x y) c i)) (by omega) (fun i μ2 X hi hsub hx => ?_) (ret_same h)
    simp only [isG] at hx
    walk_at "wps"
    refine ⟨fun h1 => ?_, fun h1 => ?_⟩
    · rw [h1, Bool.true_and] at hx; exact hx
    · rw [h1, Bool.false_and] at hx; exact hx
def c_else_flags (m : Nat) : Con := FlC (fun a => (∃ x y, a = .els x y) ∧ a.dep ≤ m)
theorem len_else_flags {m ds μ Φ Ψ} (h : c_else_flags m ds μ Φ Ψ) : ds.length = 3 := h.len
theorem step_else_flags (T : Txt P w K mg) {k : Nat} (hk : 5 ≤ k) (n : Nat) (ih_good_flags : FnOk P w K mg base (L2N.CX P w) k T.f_good_flags T.d_good_flags ["term", "context", "outcomes"] (spOf K (c_good_flags n))) : FnOk P w K mg base (L2N.CX P w) (k + 1) T.f_else_flags T.d_else_flags ["term", "context", "outcomes"] (spOf K (c_else_flags (n + 1))) := by
  refine def_okC T.F_else_flags sc_else_flags _ (fun ds μ Φ Ψ h => len_else_flags h) (fun cdv A outer s H E B hW hr =>
    have tk : L2N.Takes (cxOf (L2N.CX P w) P w K mg base N_else_flags "else_flags" (defScope s_else_flags) T.f_else_flags cdv A outer s H E) (fun cls d _ H => E cls d H) := L2N.takes_of rfl rfl rfl rfl
    ⟨_, (pss_cons (ps_set (i := 3) sc_else_flags.nd rfl (Or.inl rfl) (pe_callS ih_good_flags hr rfl T.g_good_flags T.F_good_flags.kp T.b_good_flags (fun σ => L2N.passAt tk σ) (pa_cons (pe_ix ix_tup (pv 0) pe_int (fun _ _ => rfl)) (pa_cons (pv 1) (pa_cons (pv 2) pa_nil)))))
      (pss_one (ps_ret (pe_ifExp (pt_cmpR op_in_seq pe_bl (pv 3) (by with_unfolding_all rfl)) (pv 3) (pe_callS ih_good_flags hr rfl T.g_good_flags T.F_good_flags.kp T.b_good_flags (fun σ => L2N.passAt tk σ) (pa_cons (pe_ix ix_tup (pv 0) pe_int (fun _ _ => rfl)) (pa_cons (pv 1) (pa_cons (pv 2) pa_nil)))))))),
      (sSeq (sAsg (sCallSW (W := fun cls d _ H => E cls d H) (by exact hW) (sCons (sOp roIxT sVar sInt) (sCons sVar (sCons sVar sNil)))) sName)
      (sRet (sIf (sTest (sOp (roIn (neg := false)) sBl sVar)) sVar (sCallSW (W := fun cls d _ H => E cls d H) (by exact hW) (sCons (sOp roIxT sVar sInt) (sCons sVar (sCons sVar sNil)))))))⟩) (fun ds μ Φ Ψ h => ?hv)
  case hv =>
    obtain ⟨nn, k, a, c, ⟨⟨x, y, rfl⟩, hd⟩, ha, hc, rfl, h⟩ := h
    simp only [Am.d, Am.iT]
    simp only [Am.dep] at hd
    walk_at "wps"
    refine ⟨nn, k, x, c, by omega, ha.1, hc, rfl, ?_⟩
    walk_at "wps"
    refine in_F ⟨_, rfl, fun hb => ret_same ?_, fun hb => ⟨nn, k, y, c, by omega, ha.2, hc, rfl, ret_same ?_⟩⟩
    · have e : flagL k (.els x y) c = flagL k x c := by unfold flagL; simp only [isG, hb, if_true]
      rw [← e]; exact h
    · have e : flagL k (.els x y) c = flagL k y c := by unfold flagL; simp only [isG, hb, Bool.false_eq_true, if_false]
      rw [← e]; exact h
def c_not_flags (m : Nat) : Con := FlC (fun a => (∃ x, a = .not x) ∧ a.dep ≤ m)
theorem len_not_flags {m ds μ Φ Ψ} (h : c_not_flags m ds μ Φ Ψ) : ds.length = 3 := h.len
theorem step_not_flags (T : Txt P w K mg) {k : Nat} (hk : 5 ≤ k) (n : Nat) (ih_good_flags : FnOk P w K mg base (L2N.CX P w) k T.f_good_flags T.d_good_flags ["term", "context", "outcomes"] (spOf K (c_good_flags n))) : FnOk P w K mg base (L2N.CX P w) (k + 1) T.f_not_flags T.d_not_flags ["term", "context", "outcomes"] (spOf K (c_not_flags (n + 1))) := by
  refine def_okC T.F_not_flags sc_not_flags _ (fun ds μ Φ Ψ h => len_not_flags h) (fun cdv A outer s H E B hW hr =>
    have tk : L2N.Takes (cxOf (L2N.CX P w) P w K mg base N_not_flags "not_flags" (defScope s_not_flags) T.f_not_flags cdv A outer s H E) (fun cls d _ H => E cls d H) := L2N.takes_of rfl rfl rfl rfl
    ⟨_, (pss_one (ps_ret (pe_lc (own := [("flag", 3)]) rfl sc_not_flags.nd (pi_list (pe_callS ih_good_flags hr rfl T.g_good_flags T.F_good_flags.kp T.b_good_flags (fun σ => L2N.passAt tk σ) (pa_cons (pe_ix ix_tup (pv 0) pe_int (fun _ _ => rfl)) (pa_cons (pv 1) (pa_cons (pv 2) pa_nil))))) (blkOk_by (N := N_not_flags) (sc := defScope s_not_flags) (by decide +kernel)) (fun _ _ _ _ _ => (pg_name (i := 3) sc_not_flags.nd rfl (Or.inl rfl))) (fun _ _ _ _ _ => pts_nil) (fun _ _ _ _ _ => (pe_not (pv 3)))))),
      (sRet (sLc (siL (sCallSW (W := fun cls d _ H => E cls d H) (by exact hW) (sCons (sOp roIxT sVar sInt) (sCons sVar (sCons sVar sNil))))) (gwName List.mem_cons_self) (fun _ _ _ => sName) (fun _ _ _ => sYes) (fun _ _ _ => (sNotV sVar))))⟩) (fun ds μ Φ Ψ h => ?hv)
  case hv =>
    obtain ⟨nn, k, a, c, ⟨⟨x, rfl⟩, hd⟩, ha, hc, rfl, h⟩ := h
    simp only [Am.d, Am.iT]
    simp only [Am.dep] at hd
    walk_at "wps"
    refine ⟨nn, k, x, c, by omega, ha, hc, rfl, ?_⟩
    walk_at "wps"
    have hl := hc.len
    have h64 := hc.n64
    refine lcF (fun i => .bl (isG k (.not x) c i)) (by omega) (fun i μ2 X hi hsub hx => ?_) (ret_same h)
    simp only [isG] at hx
    walk_at "wps"
    exact hx
def c_first_flags (m : Nat) : Con := FlC (fun a => (∃ x, a = .first x) ∧ a.dep ≤ m)
theorem len_first_flags {m ds μ Φ Ψ} (h : c_first_flags m ds μ Φ Ψ) : ds.length = 3 := h.len
theorem step_first_flags (T : Txt P w K mg) {k : Nat} (hk : 5 ≤ k) (n : Nat) (ih_good_flags : FnOk P w K mg base (L2N.CX P w) k T.f_good_flags T.d_good_flags ["term", "context", "outcomes"] (spOf K (c_good_flags n))) : FnOk P w K mg base (L2N.CX P w) (k + 1) T.f_first_flags T.d_first_flags ["term", "context", "outcomes"] (spOf K (c_first_flags (n + 1))) := by
  refine def_okC T.F_first_flags sc_first_flags _ (fun ds μ Φ Ψ h => len_first_flags h) (fun cdv A outer s H E B hW hr =>
    have tk : L2N.Takes (cxOf (L2N.CX P w) P w K mg base N_first_flags "first_flags" (defScope s_first_flags) T.f_first_flags cdv A outer s H E) (fun cls d _ H => E cls d H) := L2N.takes_of rfl rfl rfl rfl
    ⟨_, (pss_cons (ps_set (i := 3) sc_first_flags.nd rfl (Or.inl rfl) (pe_callS ih_good_flags hr rfl T.g_good_flags T.F_good_flags.kp T.b_good_flags (fun σ => L2N.passAt tk σ) (pa_cons (pe_ix ix_tup (pv 0) pe_int (fun _ _ => rfl)) (pa_cons (pv 1) (pa_cons (pv 2) pa_nil)))))
      (pss_cons (ps_set (i := 4) sc_first_flags.nd rfl (Or.inr rfl) (pe_ifExp (pt_cmpR op_in_seq pe_bl (pv 3) (by with_unfolding_all rfl)) (pe_bm PySem.F.plainAttrs_list PySem.F.slot_list_index PySem.F.type_list_index mt_index (pv 3) (pa_cons pe_bl pa_nil)) (pe_callB call_len_seq (by rfl) T.z_len PySem.boot_len (pa_cons (pv 3) pa_nil))))
      (pss_one (ps_ret (pe_lc (own := [("option", 5)]) rfl sc_first_flags.nd (pi_range1 rfl T.z_range (pa_cons (pe_callB call_len_seq (by rfl) T.z_len PySem.boot_len (pa_cons (pv 3) pa_nil)) pa_nil)) (blkOk_by (N := N_first_flags) (sc := defScope s_first_flags) (by decide +kernel)) (fun _ _ _ _ _ => (pg_name (i := 5) sc_first_flags.nd rfl (Or.inl rfl))) (fun _ _ _ _ _ => pts_nil) (fun _ _ _ _ _ => (pe_cmpR op_eq (pv 5) (pv 4) (nomark _)))))))),
      (sSeq (sAsg (sCallSW (W := fun cls d _ H => E cls d H) (by exact hW) (sCons (sOp roIxT sVar sInt) (sCons sVar (sCons sVar sNil)))) sName)
      (sSeq (sAsg (sIf (sTest (sOp (roIn (neg := false)) sBl sVar)) (sIdx sVar sBl) (sCB rcLen (sCons sVar sNil))) sName)
      (sRet (sLc (siR1 (sCB rcLen (sCons sVar sNil))) (gwName List.mem_cons_self) (fun _ _ _ => sName) (fun _ _ _ => sYes) (fun _ _ _ => (sOp roEq sVar sVar))))))⟩) (fun ds μ Φ Ψ h => ?hv)
  case hv =>
    obtain ⟨nn, k, a, c, ⟨⟨x, rfl⟩, hd⟩, ha, hc, rfl, h⟩ := h
    simp only [Am.d, Am.iT]
    simp only [Am.dep] at hd
    walk_at "wps"
    refine ⟨nn, k, x, c, by omega, ha, hc, rfl, ?_⟩
    walk_at "wps"
    have hl := hc.len
    have h64 := hc.n64
    refine in_F ⟨_, rfl, fun hb => ?_, fun hb => ?_⟩
    · obtain ⟨j, j1, j2, j3⟩ := some_first hb
      refine ⟨rfl, flat_F, j, _, flagL_get j1, by rw [j2]; rfl, fun m z' hm hz => ?_, by rw [flagL_len]; omega, by rw [flagL_len]; omega, ?_⟩
      · rw [flagL_get (by omega)] at hz
        cases hz
        rw [j3 m hm]; rfl
      · rw [flagL_len]
        refine lcR (fun i => .bl (isG k (.first x) c i)) (by omega) (fun i μ2 X hi hsub hx => ?_) (ret_same h)
        simp only [isG] at hx
        rw [← first_iff j2 j3] at hx
        walk_at "wps"
        exact hx
    · refine ⟨by rw [flagL_len]; omega, by rw [flagL_len]; omega, ?_⟩
      rw [flagL_len]
      refine lcR (fun i => .bl (isG k (.first x) c i)) (by omega) (fun i μ2 X hi hsub hx => ?_) (ret_same h)
      simp only [isG, some_no hb hi, Bool.false_and] at hx
      walk_at "wps"
      rw [decide_eq_false (by omega)]
      exact hx
def c_recode_flags (m : Nat) : Con := FlC (fun a => (∃ l x, a = .recode l x) ∧ a.dep ≤ m)
theorem len_recode_flags {m ds μ Φ Ψ} (h : c_recode_flags m ds μ Φ Ψ) : ds.length = 3 := h.len
theorem step_recode_flags (T : Txt P w K mg) {k : Nat} (hk : 5 ≤ k) (n : Nat) (ih_good_flags : FnOk P w K mg base (L2N.CX P w) k T.f_good_flags T.d_good_flags ["term", "context", "outcomes"] (spOf K (c_good_flags n))) : FnOk P w K mg base (L2N.CX P w) (k + 1) T.f_recode_flags T.d_recode_flags ["term", "context", "outcomes"] (spOf K (c_recode_flags (n + 1))) := by
  refine def_okC T.F_recode_flags sc_recode_flags _ (fun ds μ Φ Ψ h => len_recode_flags h) (fun cdv A outer s H E B hW hr =>
    have tk : L2N.Takes (cxOf (L2N.CX P w) P w K mg base N_recode_flags "recode_flags" (defScope s_recode_flags) T.f_recode_flags cdv A outer s H E) (fun cls d _ H => E cls d H) := L2N.takes_of rfl rfl rfl rfl
    ⟨_, (pss_one (ps_ret (pe_callS ih_good_flags hr rfl T.g_good_flags T.F_good_flags.kp T.b_good_flags (fun σ => L2N.passAt tk σ) (pa_cons (pe_ix ix_tup (pv 0) pe_int (fun _ _ => rfl)) (pa_cons (pe_callTy call_tupleN (by rfl) T.z_tuple (by decide +kernel) (pa_cons (pe_lc (own := [("outcome", 3)]) rfl sc_recode_flags.nd (pi_tup (pv 1)) (blkOk_by (N := N_recode_flags) (sc := defScope s_recode_flags) (by decide +kernel)) (fun _ _ _ _ _ => (pg_name (i := 3) sc_recode_flags.nd rfl (Or.inl rfl))) (fun _ _ _ _ _ => pts_nil) (fun _ _ _ _ _ => (pe_ix ix_tup (pe_ix ix_tup (pv 0) pe_int (fun _ _ => rfl)) (pv 3) (fun _ _ => rfl)))) pa_nil)) (pa_cons (pv 2) pa_nil)))))),
      (sRet (sCallSW (W := fun cls d _ H => E cls d H) (by exact hW) (sCons (sOp roIxT sVar sInt) (sCons (sCB rcTuple (sCons (sLc (siT sVar) (gwName List.mem_cons_self) (fun _ _ _ => sName) (fun _ _ _ => sYes) (fun _ _ _ => (sOp roIxT (sOp roIxT sVar sInt) sVar))) sNil)) (sCons sVar sNil)))))⟩) (fun ds μ Φ Ψ h => ?hv)
  case hv =>
    obtain ⟨nn, k, a, c, ⟨⟨l, x, rfl⟩, hd⟩, ha, hc, rfl, h⟩ := h
    simp only [Am.d, Am.iT]
    simp only [Am.dep] at hd
    walk_at "wps"
    have hl := hc.len
    have h64 := hc.n64
    have inn : ∀ z ∈ c, z.toNat < l.length := fun z hz => by have := hc.lo z hz; have := hc.hi z hz; rw [ha.1.1]; omega
    refine lcZ (fun z => .int (at' l z)) (by omega) (fun z μ2 X hz hsub hx => ?_) ?_
    · walk_at "wps"
      refine ⟨_, atI_map (hc.lo z hz) (inn z hz), ?_⟩
      unfold at' at hx
      rw [getD_of (List.getElem?_eq_getElem (inn z hz))] at hx
      exact hx
    · have e1 : c.map (fun z => D.int (at' l z)) = (c.map (at' l)).map .int := by rw [List.map_map]; rfl
      rw [e1]
      have lim : ∀ r ∈ c.map (at' l), 0 ≤ r ∧ r < (k : Int) := fun r hr => by
        obtain ⟨z, hz, rfl⟩ := List.mem_map.mp hr
        exact ha.1.2 _ (by unfold at'; rw [getD_of (List.getElem?_eq_getElem (inn z hz))]; exact List.getElem_mem _)
      refine ⟨_, .lst _, nn, k, x, c.map (at' l), by omega, ha.2, ⟨by rw [List.length_map]; exact hl, fun r hr => (lim r hr).1, fun r hr => (lim r hr).2, hc.n1, hc.n64, hc.k1, hc.k4⟩, rfl, ret_same ?_⟩
      have e : flagL k (.recode l x) c = flagL k x (c.map (at' l)) := by unfold flagL; rw [List.length_map]; rfl
      rw [← e]; exact h
def c_reorder_flags (m : Nat) : Con := FlC (fun a => (∃ l x, a = .reorder l x) ∧ a.dep ≤ m)
theorem len_reorder_flags {m ds μ Φ Ψ} (h : c_reorder_flags m ds μ Φ Ψ) : ds.length = 3 := h.len
theorem step_reorder_flags (T : Txt P w K mg) {k : Nat} (hk : 5 ≤ k) (n : Nat) (ih_good_flags : FnOk P w K mg base (L2N.CX P w) k T.f_good_flags T.d_good_flags ["term", "context", "outcomes"] (spOf K (c_good_flags n))) : FnOk P w K mg base (L2N.CX P w) (k + 1) T.f_reorder_flags T.d_reorder_flags ["term", "context", "outcomes"] (spOf K (c_reorder_flags (n + 1))) := by
  refine def_okC T.F_reorder_flags sc_reorder_flags _ (fun ds μ Φ Ψ h => len_reorder_flags h) (fun cdv A outer s H E B hW hr =>
    have tk : L2N.Takes (cxOf (L2N.CX P w) P w K mg base N_reorder_flags "reorder_flags" (defScope s_reorder_flags) T.f_reorder_flags cdv A outer s H E) (fun cls d _ H => E cls d H) := L2N.takes_of rfl rfl rfl rfl
    ⟨_, (pss_cons (ps_set (i := 3) sc_reorder_flags.nd rfl (Or.inl rfl) (pe_ix ix_tup (pv 0) pe_int (fun _ _ => rfl)))
      (pss_cons (ps_set (i := 4) sc_reorder_flags.nd rfl (Or.inl rfl) (pe_callTy call_list_of (by rfl) T.z_list (by decide +kernel) (pa_cons (pv 1) pa_nil)))
      (pss_cons (ps_for (passes_of rfl) rfl (RZ.pi_zipA (by rfl) T.z_zip (pa_cons (pv 3) (pa_cons (pv 1) pa_nil))) (pg_tup (n := 2) rfl (pgs_cons (pg_name (i := 6) sc_reorder_flags.nd rfl (Or.inl rfl)) (pgs_cons (pg_name (i := 7) sc_reorder_flags.nd rfl (Or.inl rfl)) pgs_nil))) (pss_one (ps_asg (pv 7) (pg_sub (pv 4) (pv 6) set_list))))
      (pss_cons (ps_set (i := 5) sc_reorder_flags.nd rfl (Or.inr rfl) (pe_callS ih_good_flags hr rfl T.g_good_flags T.F_good_flags.kp T.b_good_flags (fun σ => L2N.passAt tk σ) (pa_cons (pe_ix ix_tup (pv 0) pe_int (fun _ _ => rfl)) (pa_cons (pe_callTy call_tupleN (by rfl) T.z_tuple (by decide +kernel) (pa_cons (pv 4) pa_nil)) (pa_cons (pv 2) pa_nil)))))
      (pss_one (ps_ret (pe_lc (own := [("place", 6)]) rfl sc_reorder_flags.nd (pi_tup (pv 3)) (blkOk_by (N := N_reorder_flags) (sc := defScope s_reorder_flags) (by decide +kernel)) (fun _ _ _ _ _ => (pg_name (i := 6) sc_reorder_flags.nd rfl (Or.inl rfl))) (fun _ _ _ _ _ => pts_nil) (fun _ _ _ _ _ => (pe_ix ix_list (pv 5) (pv 6) (fun _ _ => rfl)))))))))),
      (sSeq (sAsg (sOp roIxT sVar sInt) sName)
      (sSeq (sAsg (sCB rcListOwn (sCons sVar sNil)) sName)
      (sSeq (sFor (siZipT sVar sVar) (fun _ _ _ => (sgTup (sgCons sName (sgCons sName sgNil)))) (fun _ _ _ => (sAsgS sVar sVar sVar)))
      (sSeq (sAsg (sCallSW (W := fun cls d _ H => E cls d H) (by exact hW) (sCons (sOp roIxT sVar sInt) (sCons (sCB rcTuple (sCons sVar sNil)) (sCons sVar sNil)))) sName)
      (sRet (sLc (siT sVar) (gwName List.mem_cons_self) (fun _ _ _ => sName) (fun _ _ _ => sYes) (fun _ _ _ => (sOp roIxL sVar sVar))))))))⟩) (fun ds μ Φ Ψ h => ?hv)
  case hv =>
    obtain ⟨nn, k, a, c, ⟨⟨l, x, rfl⟩, hd⟩, ha, hc, rfl, h⟩ := h
    simp only [Am.d, Am.iT]
    simp only [Am.dep] at hd
    walk_at "wps"
    have hl := hc.len
    have h64 := hc.n64
    have ln : l.length = nn := ha.1.1
    intro p hp
    refine ⟨fun i δ' μ' => ∃ (ms : List Int) (x6 x7 : Option D), δ' = [some (.tup [.str "reorder", .tup (l.map .int), x.d]), some (.tup (c.map .int)), some (.int k), some (.tup (l.map .int)), some (.hd (.ref p)), none, x6, x7] ∧ μ' = sset μ p (.lst (ms.map .int)) ∧ ms.length = nn ∧
      ∀ j, j < i → ∀ q z : Int, l[j]? = some q → c[j]? = some z → ms[q.toNat]? = some z, ⟨c, none, none, rfl, rfl, hl, fun j hj => absurd hj (Nat.not_lt_zero j)⟩, ?_, ?_⟩
    · rintro i d δ' μ' hi ⟨ms, x6, x7, rfl, rfl, hm, hms⟩
      rw [List.getElem?_map, Option.map_eq_some_iff] at hi
      obtain ⟨⟨d1, d2⟩, hi, rfl⟩ := hi
      obtain ⟨g1, g2⟩ := List.getElem?_zip_eq_some.mp hi
      obtain ⟨q, hq, rfl⟩ := mapI_get g1
      obtain ⟨z, hz, rfl⟩ := mapI_get g2
      have q01 := ha.1.2 q (List.mem_of_getElem? hq)
      have qn : q.toNat < ms.length := by omega
      refine ⟨_, rfl, rfl, _, _, rfl, _, _, rfl, rfl, _, rfl, _, rfl, _, rfl, p, ms.map .int, q, q.toNat, rfl, rfl, sset_same, ?_, ms.set q.toNat z, some (.int q), some (.int z), rfl, ?_, by rw [List.length_set]; exact hm, ?_⟩
      · rw [List.length_map]
        unfold ixN
        rw [if_pos q01.1, if_pos (by omega)]
      · rw [sset_sset, List.map_set]
      · intro j hj q' z' hq' hz'
        by_cases e : j = i
        · subst e
          rw [hq] at hq'; rw [hz] at hz'; cases hq'; cases hz'
          rw [List.getElem?_set_self qn]
        · have ne : q.toNat ≠ q'.toNat := fun e2 => by
            have q02 := ha.1.2 q' (List.mem_of_getElem? hq')
            have e3 : q = q' := by omega
            subst e3
            obtain ⟨b1, b2⟩ := List.getElem?_eq_some_iff.mp hq
            obtain ⟨b3, b4⟩ := List.getElem?_eq_some_iff.mp hq'
            rcases Nat.lt_or_gt_of_ne e with lt | lt
            · exact (List.pairwise_iff_getElem.mp ha.2.1) j i b3 b1 lt (b4.trans b2.symm)
            · exact (List.pairwise_iff_getElem.mp ha.2.1) i j b1 b3 lt (b2.trans b4.symm)
          rw [List.getElem?_set_ne ne]
          exact hms j (by omega) q' z' hq' hz'
    · rintro δ' μ' ⟨ms, x6, x7, rfl, rfl, hm, hms⟩
      have lz : ((l.map D.int).zip (c.map D.int)).length = nn := by rw [List.length_zip, List.length_map, List.length_map, ln, hl, Nat.min_self]
      rw [lz] at hms
      have em : ms = (List.range c.length).map fun (y : Nat) => c.getD (l.idxOf (y : Int)) (0 : Int) := by
        apply List.ext_getElem
        · simp [hm, hl]
        · intro y h1 h2
          have yn : y < nn := by omega
          have yl := perm_all ha.1 ha.2.1 yn
          have jl : l.idxOf (y : Int) < l.length := List.idxOf_lt_length_iff.mpr yl
          have jc : l.idxOf (y : Int) < c.length := by omega
          have := hms (l.idxOf (y : Int)) (by omega) (y : Int) _ (by rw [List.getElem?_eq_getElem jl, List.getElem_idxOf jl]) (List.getElem?_eq_getElem jc)
          rw [Int.toNat_natCast, List.getElem?_eq_getElem h1] at this
          rw [List.getElem_map, List.getElem_range, getD_of (List.getElem?_eq_getElem jc)]
          exact Option.some.inj this
      have cm : CtxOk nn k ms := by
        have mem : ∀ r ∈ ms, r ∈ c := fun r hr => by
          rw [em] at hr
          obtain ⟨y, hy, rfl⟩ := List.mem_map.mp hr
          have yl := perm_all ha.1 ha.2.1 (show y < nn by have := List.mem_range.mp hy; omega)
          have jl : l.idxOf (y : Int) < l.length := List.idxOf_lt_length_iff.mpr yl
          have jc : l.idxOf (y : Int) < c.length := by omega
          rw [getD_of (List.getElem?_eq_getElem jc)]
          exact List.getElem_mem jc
        exact ⟨hm, fun r hr => hc.lo r (mem r hr), fun r hr => hc.hi r (mem r hr), hc.n1, hc.n64, hc.k1, hc.k4⟩
      walk_at "wps"
      refine ⟨nn, k, x, ms, by omega, ha.2.2, cm, rfl, ?_⟩
      refine lcI (fun i => .bl (isG k (.reorder l x) c i)) (by omega) (fun i z μ2 X hi hsub hx => ?_) ?_
      · have z01 := ha.1.2 z (List.mem_of_getElem? hi)
        have zl : z.toNat < ms.length := by omega
        walk_at "wps"
        simp only [isG, at', Int.toNat_natCast, getD_of hi, ← em] at hx
        exact ⟨_, (show z = ((z.toNat : Nat) : Int) by omega) ▸ atI_nat (flagL_get zl), hx⟩
      · rw [ln, ← hl]
        exact ⟨μ, Sub.refl.set hp, h⟩
theorem len_good_flags {m ds μ Φ Ψ} (h : c_good_flags m ds μ Φ Ψ) : ds.length = 3 := h.len
section
variable {P : Program} {w : World} {K : Fg} {mg : Str → Option Value}
def FL (T : Txt P w K mg) (n : Nat) : List (Addr × Con) := [(T.f_any_flags, c_any_flags), (T.f_best_flags, c_best_flags), (T.f_second_flags, c_second_flags), (T.f_most_flags, c_most_flags), (T.f_fewest_flags, c_fewest_flags), (T.f_fixed_flags, c_fixed_flags), (T.f_like_flags, c_like_flags), (T.f_unlike_flags, c_unlike_flags), (T.f_among_flags, c_among_flags), (T.f_only_flags, c_only_flags), (T.f_table_flags, c_table_flags),
  (T.f_either_flags, c_either_flags (n + 1)), (T.f_both_flags, c_both_flags (n + 1)), (T.f_else_flags, c_else_flags (n + 1)), (T.f_not_flags, c_not_flags (n + 1)), (T.f_first_flags, c_first_flags (n + 1)), (T.f_recode_flags, c_recode_flags (n + 1)), (T.f_reorder_flags, c_reorder_flags (n + 1))]
def FF (T : Txt P w K mg) (n : Nat) (f : Addr) (c : Con) : Prop := (f, c) ∈ FL T n
end
theorem step_good_flags (T : Txt P w K mg) {k : Nat} (n : Nat) (ih : ∀ f c, FF T n f c → ∃ fd, FnOk P w K mg base (L2N.CX P w) k f fd ["term", "context", "outcomes"] (spOf K c) ∧ PySem.W.keepIn K (.ref f) = true ∧ Binds K fd ["term", "context", "outcomes"] []) : FnOk P w K mg base (L2N.CX P w) (k + 1) T.f_good_flags T.d_good_flags ["term", "context", "outcomes"] (spOf K (c_good_flags (n + 1))) := by
  refine def_okC T.F_good_flags sc_good_flags _ (fun ds μ Φ Ψ h => len_good_flags h) (fun cdv A outer s H E B hW hr =>
    have tk : L2N.Takes (cxOf (L2N.CX P w) P w K mg base N_good_flags "good_flags" (defScope s_good_flags) T.f_good_flags cdv A outer s H E) (fun cls d _ H => E cls d H) := L2N.takes_of rfl rfl rfl rfl
    ⟨_, (pss_cons (ps_set (i := 3) sc_good_flags.nd rfl (Or.inl rfl) (pe_ix ix_kdict (pe_glob (v := .ref T.c_RULES) rfl T.g_RULES rfl) (pe_ix ix_tup (pv 0) pe_int (fun _ _ => rfl)) (fun _ _ => rfl)))
      (pss_one (ps_ret (pe_callF (i := 3) (F := fun f sp => ∃ c, FF T n f c ∧ sp = spOf K c) (by rintro f sp ⟨c, h, rfl⟩; exact ih f c h) hr (fun σ => L2N.passAt tk σ) rfl (Or.inl rfl) (pa_cons (pv 0) (pa_cons (pv 1) (pa_cons (pv 2) pa_nil))))))),
      (sSeq (sAsg (sOp (roIxD T.D_RULES) sHd (sOp roIxT sVar sInt)) sName)
      (sRet (sCallFW (W := fun cls d _ H => E cls d H) (by exact hW) (sCons sVar (sCons sVar (sCons sVar sNil))))))⟩) (fun ds μ Φ Ψ h => ?hv)
  case hv =>
    obtain ⟨nn, k, a, c, hd, ha, hc, rfl, h⟩ := h
    cases a
    all_goals simp only [Am.d, Am.iT]
    all_goals walk_at "wps"
    case any =>
      refine ⟨_, by rfl, T.f_any_flags, c_any_flags, List.mem_of_getElem? (i := 0) rfl, rfl, ?_⟩
      exact ⟨nn, k, _, c, rfl, ha, hc, rfl, ret_same h⟩
    case best =>
      refine ⟨_, by rfl, T.f_best_flags, c_best_flags, List.mem_of_getElem? (i := 1) rfl, rfl, ?_⟩
      exact ⟨nn, k, _, c, ⟨_, rfl⟩, ha, hc, rfl, ret_same h⟩
    case second =>
      refine ⟨_, by rfl, T.f_second_flags, c_second_flags, List.mem_of_getElem? (i := 2) rfl, rfl, ?_⟩
      exact ⟨nn, k, _, c, ⟨_, rfl⟩, ha, hc, rfl, ret_same h⟩
    case most =>
      refine ⟨_, by rfl, T.f_most_flags, c_most_flags, List.mem_of_getElem? (i := 3) rfl, rfl, ?_⟩
      exact ⟨nn, k, _, c, rfl, ha, hc, rfl, ret_same h⟩
    case fewest =>
      refine ⟨_, by rfl, T.f_fewest_flags, c_fewest_flags, List.mem_of_getElem? (i := 4) rfl, rfl, ?_⟩
      exact ⟨nn, k, _, c, rfl, ha, hc, rfl, ret_same h⟩
    case fixed =>
      refine ⟨_, by rfl, T.f_fixed_flags, c_fixed_flags, List.mem_of_getElem? (i := 5) rfl, rfl, ?_⟩
      exact ⟨nn, k, _, c, rfl, ha, hc, rfl, ret_same h⟩
    case like =>
      refine ⟨_, by rfl, T.f_like_flags, c_like_flags, List.mem_of_getElem? (i := 6) rfl, rfl, ?_⟩
      exact ⟨nn, k, _, c, ⟨_, rfl⟩, ha, hc, rfl, ret_same h⟩
    case unlike =>
      refine ⟨_, by rfl, T.f_unlike_flags, c_unlike_flags, List.mem_of_getElem? (i := 7) rfl, rfl, ?_⟩
      exact ⟨nn, k, _, c, ⟨_, rfl⟩, ha, hc, rfl, ret_same h⟩
    case among =>
      refine ⟨_, by rfl, T.f_among_flags, c_among_flags, List.mem_of_getElem? (i := 8) rfl, rfl, ?_⟩
      exact ⟨nn, k, _, c, ⟨_, rfl⟩, ha, hc, rfl, ret_same h⟩
    case only =>
      refine ⟨_, by rfl, T.f_only_flags, c_only_flags, List.mem_of_getElem? (i := 9) rfl, rfl, ?_⟩
      exact ⟨nn, k, _, c, ⟨_, rfl⟩, ha, hc, rfl, ret_same h⟩
    case table =>
      refine ⟨_, by rfl, T.f_table_flags, c_table_flags, List.mem_of_getElem? (i := 10) rfl, rfl, ?_⟩
      exact ⟨nn, k, _, c, ⟨_, rfl⟩, ha, hc, rfl, ret_same h⟩
    case either =>
      refine ⟨_, by rfl, T.f_either_flags, c_either_flags (n + 1), List.mem_of_getElem? (i := 11) rfl, rfl, ?_⟩
      exact ⟨nn, k, _, c, ⟨⟨_, _, rfl⟩, hd⟩, ha, hc, rfl, ret_same h⟩
    case both =>
      refine ⟨_, by rfl, T.f_both_flags, c_both_flags (n + 1), List.mem_of_getElem? (i := 12) rfl, rfl, ?_⟩
      exact ⟨nn, k, _, c, ⟨⟨_, _, rfl⟩, hd⟩, ha, hc, rfl, ret_same h⟩
    case els =>
      refine ⟨_, by rfl, T.f_else_flags, c_else_flags (n + 1), List.mem_of_getElem? (i := 13) rfl, rfl, ?_⟩
      exact ⟨nn, k, _, c, ⟨⟨_, _, rfl⟩, hd⟩, ha, hc, rfl, ret_same h⟩
    case not =>
      refine ⟨_, by rfl, T.f_not_flags, c_not_flags (n + 1), List.mem_of_getElem? (i := 14) rfl, rfl, ?_⟩
      exact ⟨nn, k, _, c, ⟨⟨_, rfl⟩, hd⟩, ha, hc, rfl, ret_same h⟩
    case first =>
      refine ⟨_, by rfl, T.f_first_flags, c_first_flags (n + 1), List.mem_of_getElem? (i := 15) rfl, rfl, ?_⟩
      exact ⟨nn, k, _, c, ⟨⟨_, rfl⟩, hd⟩, ha, hc, rfl, ret_same h⟩
    case recode =>
      refine ⟨_, by rfl, T.f_recode_flags, c_recode_flags (n + 1), List.mem_of_getElem? (i := 16) rfl, rfl, ?_⟩
      exact ⟨nn, k, _, c, ⟨⟨_, _, rfl⟩, hd⟩, ha, hc, rfl, ret_same h⟩
    case reorder =>
      refine ⟨_, by rfl, T.f_reorder_flags, c_reorder_flags (n + 1), List.mem_of_getElem? (i := 17) rfl, rfl, ?_⟩
      exact ⟨nn, k, _, c, ⟨⟨_, _, rfl⟩, hd⟩, ha, hc, rfl, ret_same h⟩
end
section
variable {P : Program} {w : World} {K : Fg} {mg : Str → Option Value} {base : Heap}
theorem dep_pos (a : Am) : 1 ≤ a.dep := by cases a <;> simp [Am.dep]
theorem fn_never {P : Program} {w : World} {K : Fg} {mg : Str → Option Value} {base : Heap} {CX : CXT} {k : Nat} {f : Addr} {fd : FuncData} {ps : List Str} {c : Con} (h : ∀ ds μ Φ Ψ, ¬ c ds μ Φ Ψ) : FnOk P w K mg base CX k f fd ps (spOf K c) :=
  ⟨fun vs H Q E q => by obtain ⟨μ, ds, Φ, Ψ, _, _, hc, _⟩ := q; exact absurd hc (h _ _ _ _), fun A outer s H args us vs Q E _ _ _ _ q => by obtain ⟨μ, ds, Φ, Ψ, _, _, hc, _⟩ := q; exact absurd hc (h _ _ _ _)⟩
section
variable {P : Program} {w : World} {K : Fg} {mg : Str → Option Value} {base : Heap}
theorem okN_good_flags (T : Txt P w K mg) : ∀ n, FnOk P w K mg base (L2N.CX P w) (6 + 2 * n) T.f_good_flags T.d_good_flags ["term", "context", "outcomes"] (spOf K (c_good_flags n))
  | 0 => fn_never fun ds μ Φ Ψ ⟨_, _, a, _, h, _⟩ => by have := dep_pos a; omega
  | n + 1 => by
    have ih := okN_good_flags T n
    refine step_good_flags T n (k := 6 + 2 * n + 1) fun f c h => ?_
    simp only [FF, FL, List.mem_cons, List.not_mem_nil, Prod.mk.injEq, or_false] at h
    rcases h with ⟨rfl, rfl⟩ | ⟨rfl, rfl⟩ | ⟨rfl, rfl⟩ | ⟨rfl, rfl⟩ | ⟨rfl, rfl⟩ | ⟨rfl, rfl⟩ | ⟨rfl, rfl⟩ | ⟨rfl, rfl⟩ | ⟨rfl, rfl⟩ | ⟨rfl, rfl⟩ | ⟨rfl, rfl⟩ | ⟨rfl, rfl⟩ | ⟨rfl, rfl⟩ | ⟨rfl, rfl⟩ | ⟨rfl, rfl⟩ | ⟨rfl, rfl⟩ | ⟨rfl, rfl⟩ | ⟨rfl, rfl⟩
    · exact ⟨T.d_any_flags, (ok_any_flags T).mono (by omega), T.F_any_flags.kp, T.b_any_flags⟩
    · exact ⟨T.d_best_flags, (ok_best_flags T).mono (by omega), T.F_best_flags.kp, T.b_best_flags⟩
    · exact ⟨T.d_second_flags, (ok_second_flags T).mono (by omega), T.F_second_flags.kp, T.b_second_flags⟩
    · exact ⟨T.d_most_flags, (ok_most_flags T).mono (by omega), T.F_most_flags.kp, T.b_most_flags⟩
    · exact ⟨T.d_fewest_flags, (ok_fewest_flags T).mono (by omega), T.F_fewest_flags.kp, T.b_fewest_flags⟩
    · exact ⟨T.d_fixed_flags, (ok_fixed_flags T).mono (by omega), T.F_fixed_flags.kp, T.b_fixed_flags⟩
    · exact ⟨T.d_like_flags, (ok_like_flags T).mono (by omega), T.F_like_flags.kp, T.b_like_flags⟩
    · exact ⟨T.d_unlike_flags, (ok_unlike_flags T).mono (by omega), T.F_unlike_flags.kp, T.b_unlike_flags⟩
    · exact ⟨T.d_among_flags, (ok_among_flags T).mono (by omega), T.F_among_flags.kp, T.b_among_flags⟩
    · exact ⟨T.d_only_flags, (ok_only_flags T).mono (by omega), T.F_only_flags.kp, T.b_only_flags⟩
    · exact ⟨T.d_table_flags, (ok_table_flags T).mono (by omega), T.F_table_flags.kp, T.b_table_flags⟩
    · exact ⟨T.d_either_flags, step_either_flags T (by omega) n ih, T.F_either_flags.kp, T.b_either_flags⟩
    · exact ⟨T.d_both_flags, step_both_flags T (by omega) n ih, T.F_both_flags.kp, T.b_both_flags⟩
    · exact ⟨T.d_else_flags, step_else_flags T (by omega) n ih, T.F_else_flags.kp, T.b_else_flags⟩
    · exact ⟨T.d_not_flags, step_not_flags T (by omega) n ih, T.F_not_flags.kp, T.b_not_flags⟩
    · exact ⟨T.d_first_flags, step_first_flags T (by omega) n ih, T.F_first_flags.kp, T.b_first_flags⟩
    · exact ⟨T.d_recode_flags, step_recode_flags T (by omega) n ih, T.F_recode_flags.kp, T.b_recode_flags⟩
    · exact ⟨T.d_reorder_flags, step_reorder_flags T (by omega) n ih, T.F_reorder_flags.kp, T.b_reorder_flags⟩
theorem ok_good_flags (T : Txt P w K mg) : FnOk P w K mg base (L2N.CX P w) 20 T.f_good_flags T.d_good_flags ["term", "context", "outcomes"] (spOf K (c_good_flags 6)) := (okN_good_flags T 6).mono (by decide)
end
def c_has_shape : Con := fun ds μ Φ _ => ∃ (n k : Nat) (a : Am), ds = [a.d] ∧ AmOk n k a ∧ Φ (.bl true) μ
theorem len_has_shape {ds μ Φ Ψ} (h : c_has_shape ds μ Φ Ψ) : ds.length = 1 := by obtain ⟨_, _, _, rfl, _⟩ := h; rfl
theorem ok_has_shape {cx : CXT} (T : Txt P w K mg) : FnOk P w K mg base cx 1 T.f_has_shape T.d_has_shape ["term"] (spOf K c_has_shape) := by
  refine def_okC T.F_has_shape sc_has_shape _ (fun ds μ Φ Ψ h => len_has_shape h) (fun cdv A outer s H E B hW hr =>
    ⟨_, (pss_cons (ps_if (PW.pt (pw_or (pt_not (pt_val (pe_callB call_isi (by rfl) T.z_isinstance (by decide +kernel) (pa_cons (pv 0) (pa_cons (pe_bltn (v := .ty "tuple") rfl T.z_tuple (by decide +kernel) rfl) pa_nil))))) (pw_or1 (pt_cmpR op_eq (pe_callB call_len_seq (by rfl) T.z_len PySem.boot_len (pa_cons (pv 0) pa_nil)) pe_int (nomark _))))) (pss_one (ps_ret pe_bl)) pss_nil)
      (pss_cons (ps_if (PW.pt (pw_or (pt_not (pt_val (pe_callB call_isi (by rfl) T.z_isinstance (by decide +kernel) (pa_cons (pe_ix ix_tup (pv 0) pe_int (fun _ _ => rfl)) (pa_cons (pe_bltn (v := .ty "str") rfl T.z_str (by decide +kernel) rfl) pa_nil))))) (pw_or1 (pt_cmpR (op_notInKd T.D_SHAPES.kd) (pe_ix ix_tup (pv 0) pe_int (fun _ _ => rfl)) (pe_glob (v := .ref T.c_SHAPES) rfl T.g_SHAPES rfl) (by with_unfolding_all rfl))))) (pss_one (ps_ret pe_bl)) pss_nil)
      (pss_one (ps_ret (pe_cmpR op_eq (pe_callB call_len_seq (by rfl) T.z_len PySem.boot_len (pa_cons (pv 0) pa_nil)) (pe_op op_add (pe_callB call_len_seq (by rfl) T.z_len PySem.boot_len (pa_cons (pe_ix ix_kdict (pe_glob (v := .ref T.c_SHAPES) rfl T.g_SHAPES rfl) (pe_ix ix_tup (pv 0) pe_int (fun _ _ => rfl)) (fun _ _ => rfl)) pa_nil)) pe_int) (nomark _)))))),
      (sSeq (sIfS (sOr (sNot (sB (sCB (rcIsi (T := "tuple")) (sCons sVar (sCons sHd sNil))))) (sTest (sOp roEq (sCB rcLen (sCons sVar sNil)) sInt))) (sRet sBl) sNext)
      (sSeq (sIfS (sOr (sNot (sB (sCB (rcIsi (T := "str")) (sCons (sOp roIxT sVar sInt) (sCons sHd sNil))))) (sTest (sOp (roInD (neg := true) T.D_SHAPES) (sOp roIxT sVar sInt) sHd))) (sRet sBl) sNext)
      (sRet (sOp roEq (sCB rcLen (sCons sVar sNil)) (sOp roInt0 (sCB rcLen (sCons (sOp (roIxD T.D_SHAPES) sHd (sOp roIxT sVar sInt)) sNil)) sInt)))))⟩) (fun ds μ Φ Ψ h => ?hv)
  case hv =>
    obtain ⟨n, k, a, rfl, ha, h⟩ := h
    cases a
    all_goals simp only [Am.d, Am.iT]
    all_goals walk_at "wps"
    all_goals exact ⟨fun z => absurd z (by decide), fun _ => ⟨fun z => absurd z (by decide +kernel), fun _ => ⟨_, rfl, _, .tup _, ret_same h⟩⟩⟩
def c_wrong_numbers : Con := fun ds μ Φ _ => ∃ (n k : Nat) (l : List Int), ds = [.tup (l.map .int), .int n, .int k] ∧ NumOk n k l ∧ n ≤ 1000 ∧ Φ .non μ
theorem len_wrong_numbers {ds μ Φ Ψ} (h : c_wrong_numbers ds μ Φ Ψ) : ds.length = 3 := by obtain ⟨_, _, _, rfl, _⟩ := h; rfl
theorem ok_wrong_numbers (T : Txt P w K mg) : FnOk P w K mg base (L2N.CX P w) 3 T.f_wrong_numbers T.d_wrong_numbers ["item", "length", "limit"] (spOf K c_wrong_numbers) := by
  refine def_okC T.F_wrong_numbers sc_wrong_numbers _ (fun ds μ Φ Ψ h => len_wrong_numbers h) (fun cdv A outer s H E B hW hr =>
    have tk : L2N.Takes (cxOf (L2N.CX P w) P w K mg base N_wrong_numbers "wrong_numbers" (defScope s_wrong_numbers) T.f_wrong_numbers cdv A outer s H E) (fun cls d _ H => E cls d H) := L2N.takes_of rfl rfl rfl rfl
    ⟨_, (pss_cons (ps_if (PW.pt (pw_or (pt_not (pt_val (pe_callB call_isi (by rfl) T.z_isinstance (by decide +kernel) (pa_cons (pv 0) (pa_cons (pe_bltn (v := .ty "tuple") rfl T.z_tuple (by decide +kernel) rfl) pa_nil))))) (pw_or1 (pt_cmpR op_ne (pe_callB call_len_seq (by rfl) T.z_len PySem.boot_len (pa_cons (pv 0) pa_nil)) (pv 1) (nomark _))))) (pss_one (ps_ret (pe_tupN pa_nil))) pss_nil)
      (pss_cons (ps_for (passes_of rfl) rfl (pi_enumT (by rfl) T.z_enumerate (pa_cons (pv 0) pa_nil)) (pg_tup (n := 2) rfl (pgs_cons (pg_name (i := 3) sc_wrong_numbers.nd rfl (Or.inl rfl)) (pgs_cons (pg_name (i := 4) sc_wrong_numbers.nd rfl (Or.inl rfl)) pgs_nil))) (pss_one (ps_if (pt_not (pt_val (pe_call (ok_is_below T) hr rfl T.g_is_below T.F_is_below.kp T.b_is_below .nil passN (pa_cons (pv 4) (pa_cons (pv 2) pa_nil))))) (pss_one (ps_ret (pe_tupN (pa_cons (pv 3) pa_nil)))) pss_nil)))
      (pss_one (ps_ret pe_non)))),
      (sSeq (sIfS (sOr (sNot (sB (sCB (rcIsi (T := "tuple")) (sCons sVar (sCons sHd sNil))))) (sTest (sOp roNe (sCB rcLen (sCons sVar sNil)) sVar))) (sRet (sTup sNil)) sNext)
      (sSeq (sFor (siEnumT sVar) (fun _ _ _ => (sgTup (sgCons sName (sgCons sName sgNil)))) (fun _ _ _ => (sIfS (sNot (sB (sCall (sCons sVar (sCons sVar sNil))))) (sRet (sTup (sCons sVar sNil))) sNext)))
      (sRet sNon)))⟩) (fun ds μ Φ Ψ h => ?hv)
  case hv =>
    obtain ⟨n, k, l, rfl, hl, hn, h⟩ := h
    walk_at "wps"
    refine ⟨fun z => by rw [hl.1] at z; simp at z, fun _ => ⟨fun i δ' μ' => μ' = μ ∧ ∃ x y, δ' = [some (.tup (l.map .int)), some (.int n), some (.int k), x, y], ⟨rfl, _, _, rfl⟩, ?_, ?_⟩⟩
    · rintro i d δ' μ' hi ⟨rfl, x, y, rfl⟩
      obtain ⟨z, hz, rfl⟩ := en_get hi
      have e : decide (0 ≤ z ∧ z < (k : Int)) = true := decide_eq_true (hl.2 z (List.mem_of_getElem? hz))
      walk_at "wps"
      simp only [w_is_below, e]
      walk_at "wps"
      exact ⟨_, _, rfl⟩
    · rintro δ' μ' ⟨rfl, x, y, rfl⟩
      exact ret_same h
def c_wrong_places : Con := fun ds μ Φ _ => ∃ (n : Nat) (l : List Int), ds = [.tup (l.map .int), .int n] ∧ NumOk n n l ∧ l.Nodup ∧ n ≤ 1000 ∧ Φ .non μ
theorem len_wrong_places {ds μ Φ Ψ} (h : c_wrong_places ds μ Φ Ψ) : ds.length = 2 := by obtain ⟨_, _, rfl, _⟩ := h; rfl
theorem ok_wrong_places (T : Txt P w K mg) : FnOk P w K mg base (L2N.CX P w) 3 T.f_wrong_places T.d_wrong_places ["item", "options"] (spOf K c_wrong_places) := by
  refine def_okC T.F_wrong_places sc_wrong_places _ (fun ds μ Φ Ψ h => len_wrong_places h) (fun cdv A outer s H E B hW hr =>
    have tk : L2N.Takes (cxOf (L2N.CX P w) P w K mg base N_wrong_places "wrong_places" (defScope s_wrong_places) T.f_wrong_places cdv A outer s H E) (fun cls d _ H => E cls d H) := L2N.takes_of rfl rfl rfl rfl
    ⟨_, (pss_cons (ps_if (PW.pt (pw_or (pt_not (pt_val (pe_callB call_isi (by rfl) T.z_isinstance (by decide +kernel) (pa_cons (pv 0) (pa_cons (pe_bltn (v := .ty "tuple") rfl T.z_tuple (by decide +kernel) rfl) pa_nil))))) (pw_or1 (pt_cmpR op_ne (pe_callB call_len_seq (by rfl) T.z_len PySem.boot_len (pa_cons (pv 0) pa_nil)) (pv 1) (nomark _))))) (pss_one (ps_ret (pe_tupN pa_nil))) pss_nil)
      (pss_cons (ps_for (passes_of rfl) rfl (pi_enumT (by rfl) T.z_enumerate (pa_cons (pv 0) pa_nil)) (pg_tup (n := 2) rfl (pgs_cons (pg_name (i := 2) sc_wrong_places.nd rfl (Or.inl rfl)) (pgs_cons (pg_name (i := 3) sc_wrong_places.nd rfl (Or.inl rfl)) pgs_nil))) (pss_one (ps_if (PW.pt (pw_or (pt_not (pt_val (pe_call (ok_is_below T) hr rfl T.g_is_below T.F_is_below.kp T.b_is_below .nil passN (pa_cons (pv 3) (pa_cons (pv 1) pa_nil))))) (pw_or1 (pt_cmpR op_in_seq (pv 3) (pe_slice sl_tupN (pv 0) po_none (po_some (pv 2))) (by with_unfolding_all rfl))))) (pss_one (ps_ret (pe_tupN (pa_cons (pv 2) pa_nil)))) pss_nil)))
      (pss_one (ps_ret pe_non)))),
      (sSeq (sIfS (sOr (sNot (sB (sCB (rcIsi (T := "tuple")) (sCons sVar (sCons sHd sNil))))) (sTest (sOp roNe (sCB rcLen (sCons sVar sNil)) sVar))) (sRet (sTup sNil)) sNext)
      (sSeq (sFor (siEnumT sVar) (fun _ _ _ => (sgTup (sgCons sName (sgCons sName sgNil)))) (fun _ _ _ => (sIfS (sOr (sNot (sB (sCall (sCons sVar (sCons sVar sNil))))) (sTest (sOp (roIn (neg := false)) sVar (sSlT sVar sNoPart (sPart sVar))))) (sRet (sTup (sCons sVar sNil))) sNext)))
      (sRet sNon)))⟩) (fun ds μ Φ Ψ h => ?hv)
  case hv =>
    obtain ⟨n, l, rfl, hl, hd, hn, h⟩ := h
    walk_at "wps"
    refine ⟨fun z => by rw [hl.1] at z; simp at z, fun _ => ⟨fun i δ' μ' => μ' = μ ∧ ∃ x y, δ' = [some (.tup (l.map .int)), some (.int n), x, y], ⟨rfl, _, _, rfl⟩, ?_, ?_⟩⟩
    · rintro i d δ' μ' hi ⟨rfl, x, y, rfl⟩
      obtain ⟨z, hz, rfl⟩ := en_get hi
      have e : decide (0 ≤ z ∧ z < (n : Int)) = true := decide_eq_true (hl.2 z (List.mem_of_getElem? hz))
      have nin : (l.take i).contains z = false := by
        rw [Bool.eq_false_iff]
        intro hh
        rw [List.contains_iff_mem] at hh
        obtain ⟨j, hj, ej⟩ := List.mem_iff_getElem.mp hh
        rw [List.length_take] at hj
        rw [List.getElem_take] at ej
        obtain ⟨b1, b2⟩ := List.getElem?_eq_some_iff.mp hz
        exact (List.pairwise_iff_getElem.mp hd) j i (by omega) b1 (by omega) (ej.trans b2.symm)
      walk_at "wps"
      simp only [w_is_below, e]
      walk_at "wps"
      rw [← List.map_take]
      refine in_I ⟨_, rfl, ?_, fun _ => ⟨rfl, _, _, rfl⟩⟩
      rw [nin]
      nofun
    · rintro δ' μ' ⟨rfl, x, y, rfl⟩
      exact ret_same h
def c_wrong_ascending : Con := fun ds μ Φ _ => ∃ (n : Nat) (l : List Int), ds = [.tup (l.map .int), .int n] ∧ Asc n 0 l ∧ Φ .non μ
theorem len_wrong_ascending {ds μ Φ Ψ} (h : c_wrong_ascending ds μ Φ Ψ) : ds.length = 2 := by obtain ⟨_, _, rfl, _⟩ := h; rfl
theorem ok_wrong_ascending (T : Txt P w K mg) : FnOk P w K mg base (L2N.CX P w) 3 T.f_wrong_ascending T.d_wrong_ascending ["item", "limit"] (spOf K c_wrong_ascending) := by
  refine def_okC T.F_wrong_ascending sc_wrong_ascending _ (fun ds μ Φ Ψ h => len_wrong_ascending h) (fun cdv A outer s H E B hW hr =>
    have tk : L2N.Takes (cxOf (L2N.CX P w) P w K mg base N_wrong_ascending "wrong_ascending" (defScope s_wrong_ascending) T.f_wrong_ascending cdv A outer s H E) (fun cls d _ H => E cls d H) := L2N.takes_of rfl rfl rfl rfl
    ⟨_, (pss_cons (ps_if (pt_not (pt_val (pe_callB call_isi (by rfl) T.z_isinstance (by decide +kernel) (pa_cons (pv 0) (pa_cons (pe_bltn (v := .ty "tuple") rfl T.z_tuple (by decide +kernel) rfl) pa_nil))))) (pss_one (ps_ret (pe_tupN pa_nil))) pss_nil)
      (pss_cons (ps_set (i := 2) sc_wrong_ascending.nd rfl (Or.inl rfl) pe_int)
      (pss_cons (ps_for (passes_of rfl) rfl (pi_enumT (by rfl) T.z_enumerate (pa_cons (pv 0) pa_nil)) (pg_tup (n := 2) rfl (pgs_cons (pg_name (i := 3) sc_wrong_ascending.nd rfl (Or.inl rfl)) (pgs_cons (pg_name (i := 4) sc_wrong_ascending.nd rfl (Or.inl rfl)) pgs_nil))) (pss_cons (ps_if (PW.pt (pw_or (pt_not (pt_val (pe_call (ok_is_below T) hr rfl T.g_is_below T.F_is_below.kp T.b_is_below .nil passN (pa_cons (pv 4) (pa_cons (pv 1) pa_nil))))) (pw_or1 (pt_cmpR op_lt (pv 4) (pv 2) (nomark _))))) (pss_one (ps_ret (pe_tupN (pa_cons (pv 3) pa_nil)))) pss_nil)
      (pss_one (ps_set (i := 2) sc_wrong_ascending.nd rfl (Or.inl rfl) (pe_op op_add (pv 4) pe_int)))))
      (pss_one (ps_ret pe_non))))),
      (sSeq (sIfS (sNot (sB (sCB (rcIsi (T := "tuple")) (sCons sVar (sCons sHd sNil))))) (sRet (sTup sNil)) sNext)
      (sSeq (sAsg sInt sName)
      (sSeq (sFor (siEnumT sVar) (fun _ _ _ => (sgTup (sgCons sName (sgCons sName sgNil)))) (fun _ _ _ => (sSeq (sIfS (sOr (sNot (sB (sCall (sCons sVar (sCons sVar sNil))))) (sTest (sOp roBl0 sVar sVar))) (sRet (sTup (sCons sVar sNil))) sNext)
      (sAsg (sOp roInt0 sVar sInt) sName))))
      (sRet sNon))))⟩) (fun ds μ Φ Ψ h => ?hv)
  case hv =>
    obtain ⟨n, l, rfl, hl, h⟩ := h
    walk_at "wps"
    refine ⟨fun i δ' μ' => μ' = μ ∧ ∃ (lo : Int) (x y : Option D), δ' = [some (.tup (l.map .int)), some (.int n), some (.int lo), x, y] ∧ 0 ≤ lo ∧ Asc n lo (l.drop i), ⟨rfl, 0, _, _, rfl, by omega, hl⟩, ?_, ?_⟩
    · rintro i d δ' μ' hi ⟨rfl, lo, x, y, rfl, h0, as⟩
      obtain ⟨z, hz, rfl⟩ := en_get hi
      obtain ⟨b1, b2⟩ := List.getElem?_eq_some_iff.mp hz
      rw [List.drop_eq_getElem_cons b1, b2] at as
      obtain ⟨a1, a2, a3⟩ := as
      have e : decide (0 ≤ z ∧ z < (n : Int)) = true := decide_eq_true ⟨by omega, a2⟩
      walk_at "wps"
      simp only [w_is_below, e]
      walk_at "wps"
      exact ⟨fun z => by omega, fun _ => ⟨z + 1, _, _, rfl, by omega, a3⟩⟩
    · rintro δ' μ' ⟨rfl, lo, x, y, rfl, h0, as⟩
      exact ret_same h
def c_wrong_rows : Con := fun ds μ Φ _ => ∃ (n k : Nat) (rows : List (List Int)), ds = [.tup (rows.map Am.iT), .int n, .int k] ∧ AmOk n k (.table rows) ∧ 1 ≤ k ∧ k ≤ 4 ∧ Φ .non μ
theorem len_wrong_rows {ds μ Φ Ψ} (h : c_wrong_rows ds μ Φ Ψ) : ds.length = 3 := by obtain ⟨_, _, _, rfl, _⟩ := h; rfl
theorem ok_wrong_rows (T : Txt P w K mg) : FnOk P w K mg base (L2N.CX P w) 4 T.f_wrong_rows T.d_wrong_rows ["item", "options", "outcomes"] (spOf K c_wrong_rows) := by
  refine def_okC T.F_wrong_rows sc_wrong_rows _ (fun ds μ Φ Ψ h => len_wrong_rows h) (fun cdv A outer s H E B hW hr =>
    have tk : L2N.Takes (cxOf (L2N.CX P w) P w K mg base N_wrong_rows "wrong_rows" (defScope s_wrong_rows) T.f_wrong_rows cdv A outer s H E) (fun cls d _ H => E cls d H) := L2N.takes_of rfl rfl rfl rfl
    ⟨_, (pss_cons (ps_if (PW.pt (pw_or (pt_not (pt_val (pe_callB call_isi (by rfl) T.z_isinstance (by decide +kernel) (pa_cons (pv 0) (pa_cons (pe_bltn (v := .ty "tuple") rfl T.z_tuple (by decide +kernel) rfl) pa_nil))))) (pw_or1 (pt_cmpR op_ne (pe_callB call_len_seq (by rfl) T.z_len PySem.boot_len (pa_cons (pv 0) pa_nil)) (pe_call (ok_count_contexts T) (hr.mono (by decide)) rfl T.g_count_contexts T.F_count_contexts.kp T.b_count_contexts .nil passN (pa_cons (pv 1) (pa_cons (pv 2) pa_nil))) (nomark _))))) (pss_one (ps_ret (pe_tupN pa_nil))) pss_nil)
      (pss_cons (ps_for (passes_of rfl) rfl (pi_enumT (by rfl) T.z_enumerate (pa_cons (pv 0) pa_nil)) (pg_tup (n := 2) rfl (pgs_cons (pg_name (i := 3) sc_wrong_rows.nd rfl (Or.inl rfl)) (pgs_cons (pg_name (i := 4) sc_wrong_rows.nd rfl (Or.inl rfl)) pgs_nil))) (pss_cons (ps_set (i := 5) sc_wrong_rows.nd rfl (Or.inl rfl) (pe_call (ok_wrong_ascending T) hr rfl T.g_wrong_ascending T.F_wrong_ascending.kp T.b_wrong_ascending .nil passN (pa_cons (pv 4) (pa_cons (pv 1) pa_nil))))
      (pss_one (ps_if (pt_cmpR op_notN (pv 5) pe_non (nomark _)) (pss_one (ps_ret (pe_op op_catN (pe_tupN (pa_cons (pv 3) pa_nil)) (pv 5)))) pss_nil))))
      (pss_one (ps_ret pe_non)))),
      (sSeq (sIfS (sOr (sNot (sB (sCB (rcIsi (T := "tuple")) (sCons sVar (sCons sHd sNil))))) (sTest (sOp roNe (sCB rcLen (sCons sVar sNil)) (sCall (sCons sVar (sCons sVar sNil)))))) (sRet (sTup sNil)) sNext)
      (sSeq (sFor (siEnumT sVar) (fun _ _ _ => (sgTup (sgCons sName (sgCons sName sgNil)))) (fun _ _ _ => (sSeq (sAsg (sCall (sCons sVar (sCons sVar sNil))) sName)
      (sIfS (sTest (sOp roNotN sVar sNon)) (sRet (sOp roCatT (sTup (sCons sVar sNil)) sVar)) sNext))))
      (sRet sNon)))⟩) (fun ds μ Φ Ψ h => ?hv)
  case hv =>
    obtain ⟨n, k, l, rfl, ha, hk1, hk, h⟩ := h
    walk_at "wps"
    refine ⟨n, k, rfl, ha.1, hk, hk1, ?_⟩
    walk_at "wps"
    refine ⟨fun z => by rw [ha.2.2.1] at z; simp at z, fun _ => ⟨fun i δ' μ' => μ' = μ ∧ ∃ x y q, δ' = [some (.tup (l.map Am.iT)), some (.int n), some (.int k), x, y, q], ⟨rfl, _, _, _, rfl⟩, ?_, ?_⟩⟩
    · rintro i d δ' μ' hi ⟨rfl, x, y, q, rfl⟩
      obtain ⟨z, hz, rfl⟩ := en_getR hi
      walk_at "wps"
      refine ⟨n, z, rfl, ha.2.2.2 z (List.mem_of_getElem? hz), ?_⟩
      walk_at "wps"
      exact ⟨_, _, _, rfl⟩
    · rintro δ' μ' ⟨rfl, x, y, q, rfl⟩
      exact ret_same h
end
section
variable {P : Program} {w : World} {K : Fg} {mg : Str → Option Value} {base : Heap}
inductive WIt (n k : Nat) (m : Nat) (dp : Int) : Str → D → Prop
  | aim (a : Am) (h : AmOk n k a) (hd : a.dep + 1 ≤ m) (h6 : dp + a.dep ≤ 6) : WIt n k m dp "aim" a.d
  | option (i : Nat) (h : i < n) : WIt n k m dp "option" (.int i)
  | ranks (l : List Int) (h : NumOk k 10 l) : WIt n k m dp "ranks" (.tup (l.map .int))
  | codes (l : List Int) (h : NumOk k k l) : WIt n k m dp "codes" (.tup (l.map .int))
  | places (l : List Int) (h : NumOk n n l) (hd : l.Nodup) : WIt n k m dp "places" (.tup (l.map .int))
  | outcomes (l : List Int) (h : Asc k 0 l) : WIt n k m dp "outcomes" (.tup (l.map .int))
  | options (l : List Int) (h : Asc n 0 l) : WIt n k m dp "options" (.tup (l.map .int))
  | rows (l : List (List Int)) (h : AmOk n k (.table l)) : WIt n k m dp "rows" (.tup (l.map Am.iT))
structure SzOk (n k : Nat) : Prop where
  n1 : 1 ≤ n
  n64 : n ≤ 64
  k1 : 1 ≤ k
  k4 : k ≤ 4
def c_wrong_item (m : Nat) : Con := fun ds μ Φ _ => ∃ (n k : Nat) (dp : Int) (kd : Str) (d : D), ds = [.str kd, d, .int n, .int k, .int dp] ∧ SzOk n k ∧ WIt n k m dp kd d ∧ Φ .non μ
theorem len_wrong_item {m ds μ Φ Ψ} (h : c_wrong_item m ds μ Φ Ψ) : ds.length = 5 := by obtain ⟨_, _, _, _, _, rfl, _⟩ := h; rfl
def c_wrong_aim (m : Nat) : Con := fun ds μ Φ _ => ∃ (n k : Nat) (dp : Int) (a : Am), ds = [a.d, .int n, .int k, .int dp] ∧ SzOk n k ∧ AmOk n k a ∧ a.dep ≤ m ∧ dp + a.dep ≤ 7 ∧ Φ .non μ
theorem len_wrong_aim {m ds μ Φ Ψ} (h : c_wrong_aim m ds μ Φ Ψ) : ds.length = 4 := by obtain ⟨_, _, _, _, rfl, _⟩ := h; rfl
theorem step_wrong_item (T : Txt P w K mg) {k : Nat} (hk : 4 ≤ k) (n : Nat) (ih_wrong_aim : FnOk P w K mg base (L2N.CX P w) k T.f_wrong_aim T.d_wrong_aim ["term", "options", "outcomes", "depth"] (spOf K (c_wrong_aim n))) : FnOk P w K mg base (L2N.CX P w) (k + 1) T.f_wrong_item T.d_wrong_item ["kind", "item", "options", "outcomes", "depth"] (spOf K (c_wrong_item (n + 1))) := by
  refine def_okC T.F_wrong_item sc_wrong_item _ (fun ds μ Φ Ψ h => len_wrong_item h) (fun cdv A outer s H E B hW hr =>
    have tk : L2N.Takes (cxOf (L2N.CX P w) P w K mg base N_wrong_item "wrong_item" (defScope s_wrong_item) T.f_wrong_item cdv A outer s H E) (fun cls d _ H => E cls d H) := L2N.takes_of rfl rfl rfl rfl
    ⟨_, (pss_cons (ps_if (pt_cmpR op_eq (pv 0) pe_str (nomark _)) (pss_one (ps_ret (pe_call ih_wrong_aim hr rfl T.g_wrong_aim T.F_wrong_aim.kp T.b_wrong_aim .nil passN (pa_cons (pv 1) (pa_cons (pv 2) (pa_cons (pv 3) (pa_cons (pe_op op_add (pv 4) pe_int) pa_nil))))))) pss_nil)
      (pss_cons (ps_if (pt_cmpR op_eq (pv 0) pe_str (nomark _)) (pss_one (ps_ret (pe_ifExp (pt_val (pe_call (ok_is_below T) (hr.mono (by omega)) rfl T.g_is_below T.F_is_below.kp T.b_is_below .nil passN (pa_cons (pv 1) (pa_cons (pv 2) pa_nil)))) pe_non (pe_tupN pa_nil)))) pss_nil)
      (pss_cons (ps_if (pt_cmpR op_eq (pv 0) pe_str (nomark _)) (pss_one (ps_ret (pe_call (ok_wrong_numbers T) (hr.mono (by omega)) rfl T.g_wrong_numbers T.F_wrong_numbers.kp T.b_wrong_numbers .nil passN (pa_cons (pv 1) (pa_cons (pv 3) (pa_cons (pe_glob (v := .int 10) rfl T.g_RANKS_END.choose_spec ⟨_, rfl⟩) pa_nil)))))) pss_nil)
      (pss_cons (ps_if (pt_cmpR op_eq (pv 0) pe_str (nomark _)) (pss_one (ps_ret (pe_call (ok_wrong_numbers T) (hr.mono (by omega)) rfl T.g_wrong_numbers T.F_wrong_numbers.kp T.b_wrong_numbers .nil passN (pa_cons (pv 1) (pa_cons (pv 3) (pa_cons (pv 3) pa_nil)))))) pss_nil)
      (pss_cons (ps_if (pt_cmpR op_eq (pv 0) pe_str (nomark _)) (pss_one (ps_ret (pe_call (ok_wrong_places T) (hr.mono (by omega)) rfl T.g_wrong_places T.F_wrong_places.kp T.b_wrong_places .nil passN (pa_cons (pv 1) (pa_cons (pv 2) pa_nil))))) pss_nil)
      (pss_cons (ps_if (pt_cmpR op_eq (pv 0) pe_str (nomark _)) (pss_one (ps_ret (pe_call (ok_wrong_ascending T) (hr.mono (by omega)) rfl T.g_wrong_ascending T.F_wrong_ascending.kp T.b_wrong_ascending .nil passN (pa_cons (pv 1) (pa_cons (pv 3) pa_nil))))) pss_nil)
      (pss_cons (ps_if (pt_cmpR op_eq (pv 0) pe_str (nomark _)) (pss_one (ps_ret (pe_call (ok_wrong_ascending T) (hr.mono (by omega)) rfl T.g_wrong_ascending T.F_wrong_ascending.kp T.b_wrong_ascending .nil passN (pa_cons (pv 1) (pa_cons (pv 2) pa_nil))))) pss_nil)
      (pss_one (ps_ret (pe_call (ok_wrong_rows T) (hr.mono (by omega)) rfl T.g_wrong_rows T.F_wrong_rows.kp T.b_wrong_rows .nil passN (pa_cons (pv 1) (pa_cons (pv 2) (pa_cons (pv 3) pa_nil))))))))))))),
      (sSeq (sIfS (sTest (sOp roEq sVar sStr)) (sRet (sCall (sCons sVar (sCons sVar (sCons sVar (sCons (sOp roInt0 sVar sInt) sNil)))))) sNext)
      (sSeq (sIfS (sTest (sOp roEq sVar sStr)) (sRet (sIf (sB (sCall (sCons sVar (sCons sVar sNil)))) sNon (sTup sNil))) sNext)
      (sSeq (sIfS (sTest (sOp roEq sVar sStr)) (sRet (sCall (sCons sVar (sCons sVar (sCons sInt sNil))))) sNext)
      (sSeq (sIfS (sTest (sOp roEq sVar sStr)) (sRet (sCall (sCons sVar (sCons sVar (sCons sVar sNil))))) sNext)
      (sSeq (sIfS (sTest (sOp roEq sVar sStr)) (sRet (sCall (sCons sVar (sCons sVar sNil)))) sNext)
      (sSeq (sIfS (sTest (sOp roEq sVar sStr)) (sRet (sCall (sCons sVar (sCons sVar sNil)))) sNext)
      (sSeq (sIfS (sTest (sOp roEq sVar sStr)) (sRet (sCall (sCons sVar (sCons sVar sNil)))) sNext)
      (sRet (sCall (sCons sVar (sCons sVar (sCons sVar sNil))))))))))))⟩) (fun ds μ Φ Ψ h => ?hv)
  case hv =>
    obtain ⟨nn, k, dp, kd, d, rfl, hs, hw, h⟩ := h
    cases hw
    all_goals walk_at "wps"
    all_goals simp (config := { decide := true }) only [false_implies, true_implies, and_true, true_and, w_is_below]
    case aim a h' hd h6 => exact ⟨nn, k, dp + 1, a, rfl, hs, h', by omega, by omega, ret_same h⟩
    case option i h' =>
      rw [decide_eq_true (show (0 : Int) ≤ (i : Int) ∧ (i : Int) < (nn : Int) by omega)]
      exact ⟨true, rfl, fun _ => ret_same h, nofun⟩
    case ranks l h' => exact ⟨k, 10, l, rfl, h', by have := hs.k4; omega, ret_same h⟩
    case codes l h' => exact ⟨k, k, l, rfl, h', by have := hs.k4; omega, ret_same h⟩
    case places l h' hd => exact ⟨nn, l, rfl, h', hd, by have := hs.n64; omega, ret_same h⟩
    case outcomes l h' => exact ⟨k, l, rfl, h', ret_same h⟩
    case options l h' => exact ⟨nn, l, rfl, h', ret_same h⟩
    case rows l h' => exact ⟨nn, k, l, rfl, h', hs.k1, hs.k4, ret_same h⟩
def tblS : List (Str × D) := [("any", .tup []), ("best", .tup [.str "ranks"]), ("second", .tup [.str "ranks"]), ("most", .tup []), ("fewest", .tup []), ("fixed", .tup []), ("like", .tup [.str "option"]), ("unlike", .tup [.str "option"]), ("among", .tup [.str "outcomes"]), ("only", .tup [.str "options"]), ("table", .tup [.str "rows"]), ("either", .tup [.str "aim", .str "aim"]), ("both", .tup [.str "aim", .str "aim"]), ("else", .tup [.str "aim", .str "aim"]), ("not", .tup [.str "aim"]), ("first", .tup [.str "aim"]), ("recode", .tup [.str "codes", .str "aim"]), ("reorder", .tup [.str "places", .str "aim"])]
theorem parts {nn k n : Nat} {dp : Int} (a : Am) (ha : AmOk nn k a) (hd : a.dep ≤ n + 1) (h7 : dp + a.dep ≤ 7) : ∃ (w : Str) (its : List (Str × D)), a.d = .tup (.str w :: its.map (·.2)) ∧ tblS.lookup w = some (.tup (its.map fun p => .str p.1)) ∧ (w = "table" → ∃ rows, a = .table rows) ∧ ∀ p ∈ its, WIt nn k (n + 1) dp p.1 p.2 := by
  cases a <;> simp only [Am.dep] at hd h7
  case any => exact ⟨"any", [], rfl, rfl, fun z => absurd z (by decide), by simp⟩
  case best r => exact ⟨"best", [("ranks", .tup (r.map .int))], rfl, rfl, fun z => absurd z (by decide), fun p hp => by rw [List.mem_singleton.mp hp]; exact .ranks r ha⟩
  case second r => exact ⟨"second", [("ranks", .tup (r.map .int))], rfl, rfl, fun z => absurd z (by decide), fun p hp => by rw [List.mem_singleton.mp hp]; exact .ranks r ha⟩
  case most => exact ⟨"most", [], rfl, rfl, fun z => absurd z (by decide), by simp⟩
  case fewest => exact ⟨"fewest", [], rfl, rfl, fun z => absurd z (by decide), by simp⟩
  case fixed => exact ⟨"fixed", [], rfl, rfl, fun z => absurd z (by decide), by simp⟩
  case like i => exact ⟨"like", [("option", .int i)], rfl, rfl, fun z => absurd z (by decide), fun p hp => by rw [List.mem_singleton.mp hp]; exact .option i ha⟩
  case unlike i => exact ⟨"unlike", [("option", .int i)], rfl, rfl, fun z => absurd z (by decide), fun p hp => by rw [List.mem_singleton.mp hp]; exact .option i ha⟩
  case among l => exact ⟨"among", [("outcomes", .tup (l.map .int))], rfl, rfl, fun z => absurd z (by decide), fun p hp => by rw [List.mem_singleton.mp hp]; exact .outcomes l ha⟩
  case only l => exact ⟨"only", [("options", .tup (l.map .int))], rfl, rfl, fun z => absurd z (by decide), fun p hp => by rw [List.mem_singleton.mp hp]; exact .options l ha⟩
  case table l => exact ⟨"table", [("rows", .tup (l.map Am.iT))], rfl, rfl, fun _ => ⟨l, rfl⟩, fun p hp => by rw [List.mem_singleton.mp hp]; exact .rows l ha⟩
  case either a b =>
    refine ⟨"either", [("aim", a.d), ("aim", b.d)], rfl, rfl, fun z => absurd z (by decide), fun p hp => ?_⟩
    rcases List.mem_cons.mp hp with e | e
    · rw [e]; exact .aim a ha.1 (by omega) (by omega)
    · rw [List.mem_singleton.mp e]; exact .aim b ha.2 (by omega) (by omega)
  case both a b =>
    refine ⟨"both", [("aim", a.d), ("aim", b.d)], rfl, rfl, fun z => absurd z (by decide), fun p hp => ?_⟩
    rcases List.mem_cons.mp hp with e | e
    · rw [e]; exact .aim a ha.1 (by omega) (by omega)
    · rw [List.mem_singleton.mp e]; exact .aim b ha.2 (by omega) (by omega)
  case els a b =>
    refine ⟨"else", [("aim", a.d), ("aim", b.d)], rfl, rfl, fun z => absurd z (by decide), fun p hp => ?_⟩
    rcases List.mem_cons.mp hp with e | e
    · rw [e]; exact .aim a ha.1 (by omega) (by omega)
    · rw [List.mem_singleton.mp e]; exact .aim b ha.2 (by omega) (by omega)
  case not a => exact ⟨"not", [("aim", a.d)], rfl, rfl, fun z => absurd z (by decide), fun p hp => by rw [List.mem_singleton.mp hp]; exact .aim a ha (by omega) (by omega)⟩
  case first a => exact ⟨"first", [("aim", a.d)], rfl, rfl, fun z => absurd z (by decide), fun p hp => by rw [List.mem_singleton.mp hp]; exact .aim a ha (by omega) (by omega)⟩
  case recode l a =>
    refine ⟨"recode", [("codes", .tup (l.map .int)), ("aim", a.d)], rfl, rfl, fun z => absurd z (by decide), fun p hp => ?_⟩
    rcases List.mem_cons.mp hp with e | e
    · rw [e]; exact .codes l ha.1
    · rw [List.mem_singleton.mp e]; exact .aim a ha.2 (by omega) (by omega)
  case reorder l a =>
    refine ⟨"reorder", [("places", .tup (l.map .int)), ("aim", a.d)], rfl, rfl, fun z => absurd z (by decide), fun p hp => ?_⟩
    rcases List.mem_cons.mp hp with e | e
    · rw [e]; exact .places l ha.1 ha.2.1
    · rw [List.mem_singleton.mp e]; exact .aim a ha.2.2 (by omega) (by omega)
theorem en_getS {its : List (Str × D)} {i : Nat} {d : D} (h : ((List.range (its.map fun p => D.str p.1).length).map fun (i : Nat) => D.pr [D.int (1 + (i : Int)), (its.map fun p => D.str p.1).getD i D.non])[i]? = some d) : ∃ p, p ∈ its ∧ its[i]? = some p ∧ d = .pr [.int (1 + (i : Int)), .str p.1] := by
  rw [List.getElem?_map, Option.map_eq_some_iff] at h
  obtain ⟨j, hj, rfl⟩ := h
  obtain ⟨hj1, hj2⟩ := List.getElem?_eq_some_iff.mp hj
  simp at hj2
  subst hj2
  have hlt : i < its.length := by simpa using hj1
  have e : (its.map fun p => D.str p.1).getD i D.non = .str its[i].1 := by simp [List.getD_eq_getElem?_getD, hlt]
  rw [e]
  exact ⟨its[i], List.getElem_mem hlt, List.getElem?_eq_getElem hlt, rfl⟩
theorem step_wrong_aim (T : Txt P w K mg) {k : Nat} (hk : 4 ≤ k) (n : Nat) (ih_wrong_item : FnOk P w K mg base (L2N.CX P w) k T.f_wrong_item T.d_wrong_item ["kind", "item", "options", "outcomes", "depth"] (spOf K (c_wrong_item (n + 1)))) : FnOk P w K mg base (L2N.CX P w) (k + 1) T.f_wrong_aim T.d_wrong_aim ["term", "options", "outcomes", "depth"] (spOf K (c_wrong_aim (n + 1))) := by
  refine def_okC T.F_wrong_aim sc_wrong_aim _ (fun ds μ Φ Ψ h => len_wrong_aim h) (fun cdv A outer s H E B hW hr =>
    have tk : L2N.Takes (cxOf (L2N.CX P w) P w K mg base N_wrong_aim "wrong_aim" (defScope s_wrong_aim) T.f_wrong_aim cdv A outer s H E) (fun cls d _ H => E cls d H) := L2N.takes_of rfl rfl rfl rfl
    ⟨_, (pss_cons (ps_if (PW.pt (pw_or (pt_not (pt_val (pe_call (ok_has_shape T) (hr.mono (by omega)) rfl T.g_has_shape T.F_has_shape.kp T.b_has_shape .nil passN (pa_cons (pv 0) pa_nil)))) (pw_or1 (pt_cmpR op_gt (pv 3) (pe_glob (v := .int 6) rfl T.g_DEEPEST_AIM.choose_spec ⟨_, rfl⟩) (nomark _))))) (pss_one (ps_ret (pe_tupN pa_nil))) pss_nil)
      (pss_cons (ps_if (PW.pt (pw_and (pt_cmpR op_eq (pe_ix ix_tup (pv 0) pe_int (fun _ _ => rfl)) pe_str (nomark _)) (pw_and1 (pt_not (pt_val (pe_call (ok_is_small T) (hr.mono (by omega)) rfl T.g_is_small T.F_is_small.kp T.b_is_small .nil passN (pa_cons (pv 1) (pa_cons (pv 2) pa_nil)))))))) (pss_one (ps_ret (pe_tupN pa_nil))) pss_nil)
      (pss_cons (ps_for (passes_of rfl) rfl (pi_enumTk (n := 1) (by rfl) T.z_enumerate (pa_cons (pe_ix ix_kdict (pe_glob (v := .ref T.c_SHAPES) rfl T.g_SHAPES rfl) (pe_ix ix_tup (pv 0) pe_int (fun _ _ => rfl)) (fun _ _ => rfl)) pa_nil) (by decide) (by decide)) (pg_tup (n := 2) rfl (pgs_cons (pg_name (i := 4) sc_wrong_aim.nd rfl (Or.inl rfl)) (pgs_cons (pg_name (i := 5) sc_wrong_aim.nd rfl (Or.inl rfl)) pgs_nil))) (pss_cons (ps_set (i := 6) sc_wrong_aim.nd rfl (Or.inl rfl) (pe_call ih_wrong_item hr rfl T.g_wrong_item T.F_wrong_item.kp T.b_wrong_item .nil passN (pa_cons (pv 5) (pa_cons (pe_ix ix_tup (pv 0) (pv 4) (fun _ _ => rfl)) (pa_cons (pv 1) (pa_cons (pv 2) (pa_cons (pv 3) pa_nil)))))))
      (pss_one (ps_if (pt_cmpR op_notN (pv 6) pe_non (nomark _)) (pss_one (ps_ret (pe_op op_catN (pe_tupN (pa_cons (pv 4) pa_nil)) (pv 6)))) pss_nil))))
      (pss_one (ps_ret pe_non))))),
      (sSeq (sIfS (sOr (sNot (sB (sCall (sCons sVar sNil)))) (sTest (sOp roBl0 sVar sInt))) (sRet (sTup sNil)) sNext)
      (sSeq (sIfS (sAnd (sTest (sOp roEq (sOp roIxT sVar sInt) sStr)) (sNot (sB (sCall (sCons sVar (sCons sVar sNil)))))) (sRet (sTup sNil)) sNext)
      (sSeq (sFor (siEnumT (sOp (roIxD T.D_SHAPES) sHd (sOp roIxT sVar sInt))) (fun _ _ _ => (sgTup (sgCons sName (sgCons sName sgNil)))) (fun _ _ _ => (sSeq (sAsg (sCall (sCons sVar (sCons (sOp roIxT sVar sVar) (sCons sVar (sCons sVar (sCons sVar sNil)))))) sName)
      (sIfS (sTest (sOp roNotN sVar sNon)) (sRet (sOp roCatT (sTup (sCons sVar sNil)) sVar)) sNext))))
      (sRet sNon))))⟩) (fun ds μ Φ Ψ h => ?hv)
  case hv =>
    obtain ⟨nn, k, dp, a, rfl, hs, ha, hd, h7, h⟩ := h
    obtain ⟨w', its, e, hlk, htab, hits⟩ := parts a ha hd h7
    have := dep_pos a
    rw [e]
    walk_at "wps"
    refine ⟨nn, k, a, by rw [e], ha, ?_⟩
    walk_at "wps"
    refine ⟨fun z => by omega, fun _ => ⟨fun htb => ?_, fun _ => ?_⟩⟩
    · obtain ⟨rows, rfl⟩ := htab htb
      refine ⟨nn, k, rfl, hs.n1, hs.k1, hs.k4, ?_⟩
      rw [decide_eq_true (show nn ≤ 8 ∧ k ^ nn ≤ 256 from ⟨ha.1, ha.2.1⟩)]
      walk_at "wps"
      refine ⟨_, hlk, _, rfl, fun i δ' μ' => μ' = μ ∧ ∃ x y z, δ' = [some (.tup (.str w' :: its.map (·.2))), some (.int nn), some (.int k), some (.int dp), x, y, z], ⟨rfl, _, _, _, rfl⟩, ?_, ?_⟩
      · rintro i d δ' μ' hi ⟨rfl, x, y, z, rfl⟩
        obtain ⟨p, hp1, hp2, rfl⟩ := en_getS hi
        walk_at "wps"
        refine ⟨p.2, ?_, ?_⟩
        · have ei : (1 : Int) + (i : Int) = ((i + 1 : Nat) : Int) := by omega
          rw [ei]
          exact atI_nat (by rw [List.getElem?_cons_succ, List.getElem?_map, hp2]; rfl)
        · refine ⟨nn, k, dp, p.1, p.2, rfl, hs, hits p hp1, ?_⟩
          walk_at "wps"
          exact ⟨_, _, _, rfl⟩
      · rintro δ' μ' ⟨rfl, x, y, z, rfl⟩
        exact ret_same h
    · refine ⟨_, hlk, _, rfl, fun i δ' μ' => μ' = μ ∧ ∃ x y z, δ' = [some (.tup (.str w' :: its.map (·.2))), some (.int nn), some (.int k), some (.int dp), x, y, z], ⟨rfl, _, _, _, rfl⟩, ?_, ?_⟩
      · rintro i d δ' μ' hi ⟨rfl, x, y, z, rfl⟩
        obtain ⟨p, hp1, hp2, rfl⟩ := en_getS hi
        walk_at "wps"
        refine ⟨p.2, ?_, ?_⟩
        · have ei : (1 : Int) + (i : Int) = ((i + 1 : Nat) : Int) := by omega
          rw [ei]
          exact atI_nat (by rw [List.getElem?_cons_succ, List.getElem?_map, hp2]; rfl)
        · refine ⟨nn, k, dp, p.1, p.2, rfl, hs, hits p hp1, ?_⟩
          walk_at "wps"
          exact ⟨_, _, _, rfl⟩
      · rintro δ' μ' ⟨rfl, x, y, z, rfl⟩
        exact ret_same h
end
section
variable {P : Program} {w : World} {K : Fg} {mg : Str → Option Value} {base : Heap}
section
variable {P : Program} {w : World} {K : Fg} {mg : Str → Option Value} {base : Heap}
theorem okN_wrong_aim (T : Txt P w K mg) : ∀ n, FnOk P w K mg base (L2N.CX P w) (4 + 2 * n) T.f_wrong_aim T.d_wrong_aim ["term", "options", "outcomes", "depth"] (spOf K (c_wrong_aim n))
  | 0 => fn_never fun ds μ Φ Ψ ⟨_, _, _, a, _, _, _, h, _⟩ => by have := dep_pos a; omega
  | n + 1 => step_wrong_aim T (k := 4 + 2 * n + 1) (by omega) n (step_wrong_item T (k := 4 + 2 * n) (by omega) n (okN_wrong_aim T n))
theorem ok_wrong_aim (T : Txt P w K mg) : FnOk P w K mg base (L2N.CX P w) 20 T.f_wrong_aim T.d_wrong_aim ["term", "options", "outcomes", "depth"] (spOf K (c_wrong_aim 6)) := (okN_wrong_aim T 6).mono (by decide)
end
def NSA : List Str := ["term", "options", "outcomes"]
def aimO (C : Addr) (a : Am) (n k : Nat) : D := .obj C NSA [a.d, .int n, .int k]
def c_Aim___init__ (C : Addr) : Con := fun ds μ Φ _ => ∃ (x : Addr) (n k : Nat) (a : Am), ds = [.hd (.ref x), a.d, .int n, .int k] ∧ SzOk n k ∧ AmOk n k a ∧ a.dep ≤ 6 ∧ μ x = some (.ins C [] []) ∧ Φ .non (sset μ x (.ins C NSA [a.d, .int n, .int k]))
theorem len_Aim___init__ {C ds μ Φ Ψ} (h : c_Aim___init__ C ds μ Φ Ψ) : ds.length = 4 := by obtain ⟨_, _, _, _, rfl, _⟩ := h; rfl
theorem ok_Aim___init__ (T : Txt P w K mg) : FnOk P w K mg base (L2N.CX P w) 21 T.f_Aim___init__ T.d_Aim___init__ ["self", "term", "options", "outcomes"] (spOf K (c_Aim___init__ T.c_Aim)) := by
  refine def_okC T.F_Aim___init__ sc_Aim___init__ _ (fun ds μ Φ Ψ h => len_Aim___init__ h) (fun cdv A outer s H E B hW hr =>
    have tk : L2N.Takes (cxOf (L2N.CX P w) P w K mg base N_Aim___init__ "Aim.__init__" (defScope s_Aim___init__) T.f_Aim___init__ cdv A outer s H E) (fun cls d _ H => E cls d H) := L2N.takes_of rfl rfl rfl rfl
    ⟨_, (pss_cons (ps_if (pt_not (pt_val (pe_call (ok_is_size T) (hr.mono (by decide)) rfl T.g_is_size T.F_is_size.kp T.b_is_size .nil passN (pa_cons (pv 2) (pa_cons (pv 3) pa_nil))))) (pss_one (L2N.ps_raise rfl tk (L2N.pmk_own PySem.F.excBase_ValueError T.x_OutOfRange T.g_OutOfRange T.k_OutOfRange (raises_own T.e_OutOfRange T.t_OutOfRange) rfl))) pss_nil)
      (pss_cons (ps_set (i := 4) sc_Aim___init__.nd rfl (Or.inl rfl) (pe_call (ok_wrong_aim T) hr rfl T.g_wrong_aim T.F_wrong_aim.kp T.b_wrong_aim .nil passN (pa_cons (pv 1) (pa_cons (pv 2) (pa_cons (pv 3) (pa_cons pe_int pa_nil))))))
      (pss_cons (ps_if (pt_cmpR op_notN (pv 4) pe_non (nomark _)) (pss_one (L2N.ps_raise rfl tk (pmk_sup T.ox_InvalidAim T.ic_InvalidAim T.ti_InvalidAim T.no_InvalidAim T.in_InvalidAim (hr.mono (by decide)) T.bi_InvalidAim passN rfl T.g_InvalidAim (pa_cons (pv 4) pa_nil)))) pss_nil)
      (pss_cons (ps_fld (pv 0) (pv 1) rfl)
      (pss_cons (ps_fld (pv 0) (pv 2) rfl)
      (pss_one (ps_fld (pv 0) (pv 3) rfl))))))),
      (sSeq (sIfS (sNot (sB (sCall (sCons sVar (sCons sVar sNil))))) (sRaise0W (W := fun cls d _ H => E cls d H) (C := T.c_OutOfRange) (by exact hW)) sNext)
      (sSeq (sAsg (sCall (sCons sVar (sCons sVar (sCons sVar (sCons sInt sNil))))) sName)
      (sSeq (sIfS (sTest (sOp roNotN sVar sNon)) (sRaise1 (W := fun cls d _ H => E cls d H) (C := T.c_InvalidAim) (fld := "path") (by exact hW) okdPath_ok sVar) sNext)
      (sSeq (sSetF T.cls_Aim T.na_Aim_term sVar sVar)
      (sSeq (sSetF T.cls_Aim T.na_Aim_options sVar sVar)
      (sSetF T.cls_Aim T.na_Aim_outcomes sVar sVar))))))⟩) (fun ds μ Φ Ψ h => ?hv)
  case hv =>
    obtain ⟨x, n, k, a, rfl, hs, ha, hd, hx, h⟩ := h
    have := hs.n1
    have := hs.n64
    have := hs.k1
    have := hs.k4
    walk_at "wps"
    refine ⟨n, k, rfl, ?_⟩
    rw [decide_eq_true (show (1 : Int) ≤ n ∧ (n : Int) ≤ 64 ∧ (1 : Int) ≤ k ∧ (k : Int) ≤ 4 by omega)]
    walk_at "wps"
    refine ⟨n, k, 1, a, rfl, hs, ha, hd, by omega, ?_⟩
    walk_at "wps"
    refine ⟨x, [], [], rfl, hx, by decide, by decide, x, _, _, rfl, sset_same, by decide, by decide, x, _, _, rfl, sset_same, by decide, by decide, ?_⟩
    rw [sset_sset, sset_sset]
    exact ret_same h
def goodL (k : Nat) (a : Am) (c : List Int) : List Int := ((List.range c.length).filter (isG k a c)).map fun (i : Nat) => (i : Int)
def c_Aim_good (C I : Addr) : Con := fun ds μ Φ Ψ => ∃ (n k : Nat) (a : Am) (c : List Int), ds = [aimO C a n k, .tup (c.map .int)] ∧ SzOk n k ∧ AmOk n k a ∧ a.dep ≤ 6 ∧ c.length ≤ 1000 ∧ (CtxOk n k c → Φ (.tup ((goodL k a c).map .int)) μ) ∧ (¬ CtxOk n k c → Ψ (.mk I none) μ)
theorem len_Aim_good {C I ds μ Φ Ψ} (h : c_Aim_good C I ds μ Φ Ψ) : ds.length = 2 := by obtain ⟨_, _, _, _, rfl, _⟩ := h; rfl
theorem ok_Aim_good (T : Txt P w K mg) : FnOk P w K mg base (L2N.CX P w) 21 T.f_Aim_good T.d_Aim_good ["self", "context"] (spOf K (c_Aim_good T.c_Aim T.c_InvalidContext)) := by
  refine def_okC T.F_Aim_good sc_Aim_good _ (fun ds μ Φ Ψ h => len_Aim_good h) (fun cdv A outer s H E B hW hr =>
    have tk : L2N.Takes (cxOf (L2N.CX P w) P w K mg base N_Aim_good "Aim.good" (defScope s_Aim_good) T.f_Aim_good cdv A outer s H E) (fun cls d _ H => E cls d H) := L2N.takes_of rfl rfl rfl rfl
    ⟨_, (pss_cons (ps_if (pt_not (pt_val (pe_call (ok_is_context T) (hr.mono (by decide)) rfl T.g_is_context T.F_is_context.kp T.b_is_context .nil passN (pa_cons (pv 1) (pa_cons (pe_fld (pv 0) rfl) (pa_cons (pe_fld (pv 0) rfl) pa_nil)))))) (pss_one (L2N.ps_raise rfl tk (L2N.pmk_own PySem.F.excBase_ValueError T.x_InvalidContext T.g_InvalidContext T.k_InvalidContext (raises_own T.e_InvalidContext T.t_InvalidContext) rfl))) pss_nil)
      (pss_cons (ps_set (i := 2) sc_Aim_good.nd rfl (Or.inl rfl) (pe_callS (ok_good_flags T) hr rfl T.g_good_flags T.F_good_flags.kp T.b_good_flags (fun σ => L2N.passAt tk σ) (pa_cons (pe_fld (pv 0) rfl) (pa_cons (pv 1) (pa_cons (pe_fld (pv 0) rfl) pa_nil)))))
      (pss_one (ps_ret (pe_callTy call_tupleN (by rfl) T.z_tuple (by decide +kernel) (pa_cons (pe_lc (own := [("option", 3), ("flag", 4)]) rfl sc_Aim_good.nd (pi_enum (by rfl) T.z_enumerate (pa_cons (pv 2) pa_nil)) (blkOk_by (N := N_Aim_good) (sc := defScope s_Aim_good) (by decide +kernel)) (fun _ _ _ _ _ => (pg_tup (n := 2) rfl (pgs_cons (pg_name (i := 3) sc_Aim_good.nd rfl (Or.inl rfl)) (pgs_cons (pg_name (i := 4) sc_Aim_good.nd rfl (Or.inl rfl)) pgs_nil)))) (fun _ _ _ _ _ => (pts_one (pt_val (pv 4)))) (fun _ _ _ _ _ => (pv 3))) pa_nil)))))),
      (sSeq (sIfS (sNot (sB (sCall (sCons sVar (sCons (sFldO (NS := NSA) (i := 1) T.cls_Aim T.na_Aim_options rfl (by decide) sVar) (sCons (sFldO (NS := NSA) (i := 2) T.cls_Aim T.na_Aim_outcomes rfl (by decide) sVar) sNil)))))) (sRaise0W (W := fun cls d _ H => E cls d H) (C := T.c_InvalidContext) (by exact hW)) sNext)
      (sSeq (sAsg (sCallSW (W := fun cls d _ H => E cls d H) (by exact hW) (sCons (sFldO (NS := NSA) (i := 0) T.cls_Aim T.na_Aim_term rfl (by decide) sVar) (sCons sVar (sCons (sFldO (NS := NSA) (i := 2) T.cls_Aim T.na_Aim_outcomes rfl (by decide) sVar) sNil)))) sName)
      (sRet (sCB rcTuple (sCons (sLc (siEnumL sVar) (gwTup (gwConsN List.mem_cons_self (gwConsN (List.mem_cons_of_mem _ List.mem_cons_self) gwNil))) (fun _ _ _ => (sgTup (sgCons sName (sgCons sName sgNil)))) (fun _ _ _ => (sB sVar)) (fun _ _ _ => sVar)) sNil)))))⟩) (fun ds μ Φ Ψ h => ?hv)
  case hv =>
    obtain ⟨n, k, a, c, rfl, hs, ha, hd, hl, h1, h2⟩ := h
    unfold aimO
    walk_at "wps"
    refine ⟨n, k, c, rfl, hl, ?_⟩
    by_cases hok : c.length = n ∧ ∀ r ∈ c, 0 ≤ r ∧ r < (k : Int)
    · have hc : CtxOk n k c := ⟨hok.1, fun r hr => (hok.2 r hr).1, fun r hr => (hok.2 r hr).2, hs.n1, hs.n64, hs.k1, hs.k4⟩
      rw [decide_eq_true hok]
      walk_at "wps"
      refine ⟨n, k, a, c, hd, ha, hc, rfl, _, rfl, ?_⟩
      rw [flagL_len]
      have hlen : ((List.range c.length).map fun (i : Nat) => D.pr [D.int (i : Int), (flagL k a c).getD i D.non]).length = c.length := by simp
      refine lcG_pure (isG k a c) (fun i => .int (i : Int)) (by rw [hlen]; omega) (fun i d μ2 X Y hi hsub hx hy => ?_) ?_
      · rw [List.getElem?_map, Option.map_eq_some_iff] at hi
        obtain ⟨j, hj, rfl⟩ := hi
        obtain ⟨hj1, hj2⟩ := List.getElem?_eq_some_iff.mp hj
        simp at hj2
        subst hj2
        have hlt : i < c.length := by simpa using hj1
        have e : (flagL k a c).getD i D.non = .bl (isG k a c i) := by rw [List.getD_eq_getElem?_getD, flagL_get hlt]; rfl
        rw [e]
        walk_at "wps"
        exact ⟨hx, hy⟩
      · rw [hlen]
        refine ⟨_, .lst _, ret_same ?_⟩
        have e : givenD c.length (isG k a c) (fun i => D.int (i : Int)) = (goodL k a c).map .int := by
          unfold givenD goodL
          rw [List.map_map]
          rfl
        rw [e]
        exact h1 hc
    · rw [decide_eq_false hok]
      walk_at "wps"
      exact ⟨_, Sub.refl, h2 fun hc => hok ⟨hc.len, fun r hr => ⟨hc.lo r hr, hc.hi r hr⟩⟩⟩
end
section
variable {P : Program} {w : World} {K : Fg} {mg : Str → Option Value} {base : Heap}
structure StC (ns : List Int) (c : List D) : Prop where
  ex : ∃ seed idx rest : Int, c = [.int seed, .lst (ns.map .int), .int idx, .int rest] ∧ 0 ≤ seed ∧ seed < 2147483647 ∧ 0 ≤ idx ∧ 0 ≤ rest
def c__law_pick : Con := fun ds μ Φ _ => ∃ st ns c n, ds = [.hd (.ref st), .int n] ∧ μ st = some (.lst c) ∧ StC ns c ∧ 0 < n ∧ n.natAbs.log2 < 9000 ∧ ∀ r c', 0 ≤ r → r < n → StC ns c' → Φ (.int r) (sset μ st (.lst c'))
theorem len__law_pick {ds μ Φ Ψ} (h : c__law_pick ds μ Φ Ψ) : ds.length = 2 := by obtain ⟨i, _, _, _, rfl, _⟩ := h; rfl
theorem pick_cell {ns : List Int} {idx : Int} {P : D → Prop} (h0 : 0 ≤ idx) (h1 : idx < ns.length) (k : ∀ z, P (.int z)) : ∃ d, atI (ns.map D.int) idx = some d ∧ P d := by
  obtain ⟨j, rfl⟩ : ∃ j : Nat, idx = (j : Int) := ⟨idx.toNat, by omega⟩
  have hj : j < ns.length := by omega
  exact ⟨.int ns[j], atI_nat (by rw [List.getElem?_map, List.getElem?_eq_getElem hj]; rfl), k _⟩
theorem ok__law_pick {cx : CXT} (T : Txt P w K mg) : FnOk P w K mg base cx 1 T.f__law_pick T.d__law_pick ["_law_state", "_law_limit"] (spOf K c__law_pick) := by
  refine def_okC T.F__law_pick sc__law_pick _ (fun ds μ Φ Ψ h => len__law_pick h) (fun cdv A outer s H E B hW hr =>
    ⟨_, (pss_cons (ps_if (pt_cmpR op_ge (pe_ix ix_list (pv 0) pe_int (fun _ _ => rfl)) (pv 1) (nomark _)) (pss_cons (ps_set (i := 4) sc__law_pick.nd rfl (Or.inl rfl) (pe_callTy call_int1 (by rfl) T.z_int (by decide +kernel) (pa_cons (pe_ix ix_list (pv 0) pe_int (fun _ _ => rfl)) pa_nil)))
      (pss_cons (ps_asg (pe_op op_fdivW (pv 4) (pv 1)) (pg_sub (pv 0) pe_int set_list))
      (pss_one (ps_ret (pe_op op_mod (pv 4) (pv 1)))))) pss_nil)
      (pss_cons (ps_set (i := 2) sc__law_pick.nd rfl (Or.inl rfl) pe_int)
      (pss_cons (ps_if (pt_cmpR op_lt (pe_ix ix_list (pv 0) pe_int (fun _ _ => rfl)) (pe_callB call_len_seq (by rfl) T.z_len PySem.boot_len (pa_cons (pe_ix ix_list (pv 0) pe_int (fun _ _ => rfl)) pa_nil)) (nomark _)) (pss_cons (ps_set (i := 2) sc__law_pick.nd rfl (Or.inl rfl) (pe_callTy call_int1 (by rfl) T.z_int (by decide +kernel) (pa_cons (pe_ix ix_list (pe_ix ix_list (pv 0) pe_int (fun _ _ => rfl)) (pe_ix ix_list (pv 0) pe_int (fun _ _ => rfl)) (fun _ _ => rfl)) pa_nil)))
      (pss_cons (ps_asg (pe_op op_add (pe_ix ix_list (pv 0) pe_int (fun _ _ => rfl)) pe_int) (pg_sub (pv 0) pe_int set_list))
      (pss_cons (ps_if (pt_cmpR op_lt (pv 2) pe_int (nomark _)) (pss_one (ps_set (i := 2) sc__law_pick.nd rfl (Or.inl rfl) (pe_op op_sub pe_int (pv 2)))) pss_nil)
      (pss_one (ps_if (pt_cmpR op_ge (pv 2) (pe_op op_pow pe_int pe_int) (nomark _)) (pss_cons (ps_asg (pe_op op_fdivW (pv 2) (pv 1)) (pg_sub (pv 0) pe_int set_list))
      (pss_one (ps_ret (pe_op op_mod (pv 2) (pv 1))))) pss_nil))))) pss_nil)
      (pss_cons (ps_set (i := 3) sc__law_pick.nd rfl (Or.inl rfl) (pe_op op_mod (pe_op op_mulX (pe_op op_add (pe_op op_add (pe_callTy call_int1 (by rfl) T.z_int (by decide +kernel) (pa_cons (pe_ix ix_list (pv 0) pe_int (fun _ _ => rfl)) pa_nil)) (pe_op op_mod (pv 2) pe_int)) pe_int) pe_int) pe_int))
      (pss_cons (ps_asg (pe_op op_mod (pe_op op_add (pe_op op_mulX (pv 3) pe_int) pe_int) pe_int) (pg_sub (pv 0) pe_int set_list))
      (pss_one (ps_ret (pe_op op_mod (pe_op op_fdivW (pe_callTy call_int1 (by rfl) T.z_int (by decide +kernel) (pa_cons (pe_ix ix_list (pv 0) pe_int (fun _ _ => rfl)) pa_nil)) pe_int) (pv 1))))))))),
      (sSeq (sIfS (sTest (sOp roBl0 (sOp roIxL sVar sInt) sVar)) (sSeq (sAsg (sCB rcInt (sCons (sOp roIxL sVar sInt) sNil)) sName)
      (sSeq (sAsgS (sOp roInt sVar sVar) sVar sInt)
      (sRet (sOp roInt sVar sVar)))) sNext)
      (sSeq (sAsg sInt sName)
      (sSeq (sIfS (sTest (sOp roBl0 (sOp roIxL sVar sInt) (sCB rcLen (sCons (sOp roIxL sVar sInt) sNil)))) (sSeq (sAsg (sCB rcInt (sCons (sOp roIxL (sOp roIxL sVar sInt) (sOp roIxL sVar sInt)) sNil)) sName)
      (sSeq (sAsgS (sOp roInt0 (sOp roIxL sVar sInt) sInt) sVar sInt)
      (sSeq (sIfS (sTest (sOp roBl0 sVar sInt)) (sAsg (sOp roInt0 sInt sVar) sName) sNext)
      (sIfS (sTest (sOp roBl0 sVar (sOp roInt sInt sInt))) (sSeq (sAsgS (sOp roInt sVar sVar) sVar sInt)
      (sRet (sOp roInt sVar sVar))) sNext)))) sNext)
      (sSeq (sAsg (sOp roInt (sOp roInt (sOp roInt0 (sOp roInt0 (sCB rcInt (sCons (sOp roIxL sVar sInt) sNil)) (sOp roInt sVar sInt)) sInt) sInt) sInt) sName)
      (sSeq (sAsgS (sOp roInt (sOp roInt0 (sOp roInt sVar sInt) sInt) sInt) sVar sInt)
      (sRet (sOp roInt (sOp roInt (sCB rcInt (sCons (sOp roIxL sVar sInt) sNil)) sInt) sVar)))))))⟩) (fun ds μ Φ Ψ h => ?hv)
  case hv =>
    obtain ⟨st, ns, c, n, rfl, hc, ⟨seed, idx, rest, rfl, h1, h2, h3, h4⟩, hn, hl, h⟩ := h
    have hmod : ∀ a : Int, 0 ≤ a % n ∧ a % n < n := fun a => ⟨Int.emod_nonneg _ (by omega), Int.emod_lt_of_pos _ hn⟩
    have hM : ∀ a : Int, 0 ≤ a % 2147483647 ∧ a % 2147483647 < 2147483647 := fun a => ⟨Int.emod_nonneg _ (by omega), Int.emod_lt_of_pos _ (by omega)⟩
    -- what stands at the end, whatever the cell is
    have tail : ∀ (μ' : Sto) (cell idx' : Int) (x4 : Option D), (∀ c', sset μ' st (.lst c') = sset μ st (.lst c')) → μ' st = some (.lst [.int seed, .lst (ns.map .int), .int idx', .int rest]) → 0 ≤ idx' → (dSeq
      (dAsg
        (dOp (oI (fun x j => 0 < j) fun i j => D.int (i % j))
          (dOp (oI CMulX fun i j => D.int (i * j))
            (dOp (oI0 fun i j => D.int (i + j))
              (dOp (oI0 fun i j => D.int (i + j)) (dCB cInt (dCons (dOp oIxL (dVar 0) (dC (D.int 0))) dNil))
                (dOp (oI (fun x j => 0 < j) fun i j => D.int (i % j)) (dVar 2) (dC (D.int 2147483647))))
              (dC (D.int 1)))
            (dC (D.int 48271)))
          (dC (D.int 2147483647)))
        (eName 3))
      (dSeq
        (dAsgS
          (dOp (oI (fun x j => 0 < j) fun i j => D.int (i % j))
            (dOp (oI0 fun i j => D.int (i + j)) (dOp (oI CMulX fun i j => D.int (i * j)) (dVar 3) (dC (D.int 69621)))
              (dC (D.int 12345)))
            (dC (D.int 2147483647)))
          (dVar 0) (dC (D.int 0)))
        (dRet
          (dOp (oI (fun x j => 0 < j) fun i j => D.int (i % j))
            (dOp (oI CDivW fun i j => D.int (i / j)) (dCB cInt (dCons (dOp oIxL (dVar 0) (dC (D.int 0))) dNil))
              (dC (D.int 7)))
            (dVar 1))))) (goalX Ψ) (goalE Φ) [some (.hd (.ref st)), some (.int n), some (.int cell), none, x4] μ' := by
      intro μ' cell idx' x4 hs hc' hi'
      have b1 := hM cell
      have b2 := hM ((seed + cell % 2147483647 + 1) * 48271)
      have b3 := hM ((seed + cell % 2147483647 + 1) * 48271 % 2147483647 * 69621 + 12345)
      clear hM hc
      walk_at "wps"
      simp only [hc']
      walk_at "wp"
      simp only [hc']
      walk_at "wp"
      refine ⟨by decide, mulx 33 17 (by omega) (by decide) (by decide), by decide, mulx 31 18 (by omega) (by decide) (by decide), by decide, wide_div (b := 3) (by decide) (by decide) (by decide) (by decide), hn, ?_⟩
      rw [hs]
      exact ret_same (h _ _ (hmod _).1 (hmod _).2 ⟨_, _, _, rfl, b3.1, b3.2, hi', h4⟩)
    refine q_seq fun nx hnx => ?_
    walk_at "wp"
    simp only [hc]
    walk_at "wp"
    refine ⟨fun c1 => ?_, fun c1 => ?_⟩
    · walk_at "wps"
      simp only [hc]
      walk_at "wp"
      simp only [hc]
      walk_at "wp"
      exact ⟨⟨hn, hl⟩, hn, ret_same (h _ _ (hmod _).1 (hmod _).2 ⟨_, _, _, rfl, h1, h2, h3, Int.ediv_nonneg h4 (by omega)⟩)⟩
    · subst hnx
      refine q_seq fun nx hnx => ?_
      walk_at "wp"
      subst hnx
      refine q_seq fun nx hnx => ?_
      walk_at "wp"
      simp only [hc]
      walk_at "wp"
      refine ⟨fun c2 => ?_, fun c2 => ?_⟩
      · refine q_seq fun nx2 hnx2 => ?_
        walk_at "wp"
        simp only [hc]
        walk_at "wp"
        refine pick_cell h3 c2 fun z => ?_
        walk_at "wp"
        subst hnx2
        refine q_seq fun nx2 hnx2 => ?_
        walk_at "wp"
        simp only [hc]
        walk_at "wp"
        simp only [hc]
        walk_at "wp"
        subst hnx2
        have hc2 : sset μ st (.lst [.int seed, .lst (ns.map .int), .int (idx + 1), .int rest]) st = some (.lst [.int seed, .lst (ns.map .int), .int (idx + 1), .int rest]) := sset_same
        have fin : ∀ z : Int, 0 ≤ z → dIfS (dTest (dOp (oI0 fun i j => D.bl (decide (j ≤ i))) (dVar 2) (dOp (oI CPow fun i j => D.int (i ^ j.toNat)) (dC (D.int 10)) (dC (D.int 18))))) (dSeq (dAsgS (dOp (oI CDivW fun i j => D.int (i / j)) (dVar 2) (dVar 1)) (dVar 0) (dC (D.int 3))) (dRet (dOp (oI (fun x j => 0 < j) fun i j => D.int (i % j)) (dVar 2) (dVar 1)))) dNext
            (goalX Ψ) ⟨nx, (goalE Φ).rt, (goalE Φ).bk, (goalE Φ).ct⟩ [some (.hd (.ref st)), some (.int n), some (.int z), none, none] (sset μ st (.lst [.int seed, .lst (ns.map .int), .int (idx + 1), .int rest])) := by
          intro z hz
          walk_at "wp"
          refine ⟨⟨by decide, by decide, by decide⟩, fun c3 => ?_, fun c3 => ?_⟩
          · walk_at "wps"
            exact ⟨⟨hn, hl⟩, hn, ret_same (h _ _ (hmod _).1 (hmod _).2 ⟨_, _, _, rfl, h1, h2, by omega, Int.ediv_nonneg hz (by omega)⟩)⟩
          · subst hnx
            exact tail _ z (idx + 1) none (fun c' => sset_sset) sset_same (by omega)
        refine q_seq fun nx2 hnx2 => ?_
        walk_at "wp"
        subst hnx2
        refine ⟨fun c3 => ?_, fun c3 => ?_⟩
        · exact fin _ (by omega)
        · exact fin _ (by omega)
      · subst hnx
        exact tail μ 11 idx none (fun _ => rfl) hc h3
def c__law_start : Con := fun ds μ Φ _ => ∃ ns, ds = [.scr ns] ∧ ns.length ≤ 63 ∧ ∀ p c, μ p = none → StC ns c → Φ (.hd (.ref p)) (sset μ p (.lst c))
theorem len__law_start {ds μ Φ Ψ} (h : c__law_start ds μ Φ Ψ) : ds.length = 1 := by obtain ⟨i, rfl, _⟩ := h; rfl
theorem ok__law_start {cx : CXT} (T : Txt P w K mg) : FnOk P w K mg base cx 1 T.f__law_start T.d__law_start ["_law_script"] (spOf K c__law_start) := by
  refine def_okC T.F__law_start sc__law_start _ (fun ds μ Φ Ψ h => len__law_start h) (fun cdv A outer s H E B hW hr =>
    ⟨_, (pss_cons (ps_set (i := 1) sc__law_start.nd rfl (Or.inl rfl) pe_int)
      (pss_cons (ps_for (passes_of rfl) rfl (pi_range1 rfl T.z_range (pa_cons (pe_callB call_len_seq (by rfl) T.z_len PySem.boot_len (pa_cons (pv 0) pa_nil)) pa_nil)) (pg_name (i := 2) sc__law_start.nd rfl (Or.inl rfl)) (pss_one (ps_set (i := 1) sc__law_start.nd rfl (Or.inl rfl) (pe_op op_mod (pe_op op_add (pe_op op_add (pe_op op_add (pe_op op_mulX (pv 1) pe_int) (pe_op op_mod (pe_callTy call_int1 (by rfl) T.z_int (by decide +kernel) (pa_cons (pe_ix ix_list (pv 0) (pv 2) (fun _ _ => rfl)) pa_nil)) pe_int)) (pv 2)) pe_int) pe_int))))
      (pss_one (ps_ret (pe_lst (pa_cons (pv 1) (pa_cons (pe_callTy call_list_of (by rfl) T.z_list (by decide +kernel) (pa_cons (pv 0) pa_nil)) (pa_cons pe_int (pa_cons pe_int pa_nil))))))))),
      (sSeq (sAsg sInt sName)
      (sSeq (sFor (siR1 (sCB rcLen (sCons sVar sNil))) (fun _ _ _ => sName) (fun _ _ _ => (sAsg (sOp roInt (sOp roInt0 (sOp roInt0 (sOp roInt0 (sOp roInt sVar sInt) (sOp roInt (sCB rcInt (sCons (sOp roIxL sVar sVar) sNil)) sInt)) sVar) sInt) sInt) sName)))
      (sRet (sOwn (sCons sVar (sCons (sCB rcList (sCons sVar sNil)) (sCons sInt (sCons sInt sNil))))))))⟩) (fun ds μ Φ Ψ h => ?hv)
  case hv =>
    obtain ⟨ns, rfl, hl, h⟩ := h
    have hM : ∀ a : Int, 0 ≤ a % 2147483647 ∧ a % 2147483647 < 2147483647 := fun a => ⟨Int.emod_nonneg _ (by omega), Int.emod_lt_of_pos _ (by omega)⟩
    walk_at "wps"
    refine ⟨by omega, by omega, fun i δ' μ' => μ' = μ ∧ ∃ seed x, 0 ≤ seed ∧ seed < 2147483647 ∧ δ' = [some (.scr ns), some (.int seed), x], ⟨rfl, 7, none, by omega, by omega, rfl⟩, ?_, ?_⟩
    · rintro i d δ' μ' hi ⟨rfl, seed, x, h1, h2, rfl⟩
      obtain ⟨hj, rfl⟩ := rngD_get hi
      walk_at "wps"
      refine ⟨mulx 31 17 (by omega) (by decide) (by decide), .int ns[i], ?_, ?_⟩
      · exact atI_nat (by rw [List.getElem?_map, List.getElem?_eq_getElem hj]; rfl)
      · walk_at "wps"
        exact ⟨by decide, by decide, _, _, (hM _).1, (hM _).2, rfl⟩ -- (hM _).1, (hM _).2, rfl⟩
    · rintro δ' μ' ⟨rfl, seed, x, h1, h2, rfl⟩
      walk_at "wps"
      exact ⟨by decide, fun p hp => ret_same (h p _ hp ⟨seed, 0, 0, rfl, h1, h2, by omega, by omega⟩)⟩
mutual
/-- what the law compares: plain data -/
def plainD : D → Bool
  | .non => true
  | .bl _ => true
  | .int _ => true
  | .str _ => true
  | .tup ds => plainDs ds && decide (ds.length ≤ 100000)
  | _ => false
def plainDs : List D → Bool
  | [] => true
  | d :: ds => plainD d && plainDs ds
end
mutual
def depD : D → Nat
  | .tup ds => depDs ds + 1
  | _ => 1
def depDs : List D → Nat
  | [] => 0
  | d :: ds => max (depD d) (depDs ds)
end
mutual
def sameD : D → D → Bool
  | a, .tup ds => match a with
    | .tup es => sameDs es ds
    | _ => false
  | a, .non => match a with
    | .non => true
    | _ => false
  | a, .str s => match a with
    | .str t => decide (t = s)
    | _ => false
  | a, .bl s => match a with
    | .bl t => decide (t = s)
    | _ => false
  | a, .int s => match a with
    | .int t => decide (t = s)
    | _ => false
  | _, _ => false
def sameDs : List D → List D → Bool
  | [], [] => true
  | e :: es, d :: ds => sameD e d && sameDs es ds
  | _, _ => false
end
/-- what may be handed to it -/
def c__law_same : Nat → Con
  | 0 => fun _ _ _ _ => False
  | n + 1 => fun ds μ Φ _ => ∃ a d, ds = [a, d] ∧ plainD a = true ∧ plainD d = true ∧ depD d ≤ n + 1 ∧ Φ (.bl (sameD a d)) μ
theorem len__law_same {n ds μ Φ Ψ} (h : c__law_same n ds μ Φ Ψ) : ds.length = 2 := by
  cases n with
  | zero => exact h.elim
  | succ n => obtain ⟨i, _, rfl, _⟩ := h; rfl
theorem depD_pos (d : D) : 0 < depD d := by cases d <;> simp [depD]
theorem same_at {n a d μ Φ Ψ} (pa : plainD a = true) (pd : plainD d = true) (hd : depD d ≤ n) (h : Φ (.bl (sameD a d)) μ) : c__law_same n [a, d] μ Φ Ψ := by
  cases n with
  | zero => have := depD_pos d; omega
  | succ n => exact ⟨a, d, rfl, pa, pd, hd, h⟩
theorem plain_get : ∀ {ds : List D} {i : Nat} {d : D}, plainDs ds = true → ds[i]? = some d → plainD d = true
  | [], i, d, _, e => by cases e
  | x :: xs, 0, d, h, e => by cases e; simp [plainDs] at h; exact h.1
  | x :: xs, i + 1, d, h, e => by simp [plainDs] at h; exact plain_get h.2 e
theorem dep_get : ∀ {ds : List D} {i : Nat} {d : D}, ds[i]? = some d → depD d ≤ depDs ds
  | [], i, d, e => by cases e
  | x :: xs, 0, d, e => by cases e; simp only [depDs]; omega
  | x :: xs, i + 1, d, e => by have := dep_get (ds := xs) (i := i) e; simp only [depDs]; omega
theorem sameDs_len : ∀ {es ds : List D}, es.length ≠ ds.length → sameDs es ds = false
  | [], [], h => absurd rfl h
  | [], _ :: _, h => by simp [sameDs]
  | _ :: _, [], h => by simp [sameDs]
  | e :: es, d :: ds, h => by simp [sameDs]; intro _; exact sameDs_len (by simpa using h)
theorem sameDs_all : ∀ {es ds : List D}, es.length = ds.length → ((List.range ds.length).map fun i => sameD (es.getD i .non) (ds.getD i .non)).all id = sameDs es ds
  | [], [], h => by simp [sameDs]
  | [], _ :: _, h => by simp at h
  | _ :: _, [], h => by simp at h
  | e :: es, d :: ds, h => by
    have ih := sameDs_all (es := es) (ds := ds) (by simpa using h)
    rw [List.length_cons, List.range_succ_eq_map, List.map_cons, List.map_map, List.all_cons, sameDs, ← ih]
    rfl
theorem step__law_same (T : Txt P w K mg) {k : Nat} (hk : 0 ≤ k) (n : Nat) (ih__law_same : FnOk P w K mg base (L2N.CX P w) k T.f__law_same T.d__law_same ["_law_actual", "_law_due"] (spOf K (c__law_same n))) : FnOk P w K mg base (L2N.CX P w) (k + 1) T.f__law_same T.d__law_same ["_law_actual", "_law_due"] (spOf K (c__law_same (n + 1))) := by
  refine def_okC T.F__law_same sc__law_same _ (fun ds μ Φ Ψ h => len__law_same h) (fun cdv A outer s H E B hW hr =>
    have tk : L2N.Takes (cxOf (L2N.CX P w) P w K mg base N__law_same "_law_same" (defScope s__law_same) T.f__law_same cdv A outer s H E) (fun cls d _ H => E cls d H) := L2N.takes_of rfl rfl rfl rfl
    ⟨_, (pss_cons (ps_if (pt_val (pe_callB call_isi (by rfl) T.z_isinstance (by decide +kernel) (pa_cons (pv 1) (pa_cons (pe_bltn (v := .ty "tuple") rfl T.z_tuple (by decide +kernel) rfl) pa_nil)))) (pss_cons (ps_if (PW.pt (pw_or (pt_not (pt_val (pe_callB call_isi (by rfl) T.z_isinstance (by decide +kernel) (pa_cons (pv 0) (pa_cons (pe_bltn (v := .ty "tuple") rfl T.z_tuple (by decide +kernel) rfl) pa_nil))))) (pw_or1 (pt_cmpR op_ne (pe_callB call_len_seq (by rfl) T.z_len PySem.boot_len (pa_cons (pv 0) pa_nil)) (pe_callB call_len_seq (by rfl) T.z_len PySem.boot_len (pa_cons (pv 1) pa_nil)) (nomark _))))) (pss_one (ps_ret pe_bl)) pss_nil)
      (pss_one (ps_ret (pe_callB (cr_all rfl) (by rfl) T.z_all (by decide +kernel) (pa_cons (pe_lc (own := [("_law_p", 2)]) rfl sc__law_same.nd (pi_range1 rfl T.z_range (pa_cons (pe_callB call_len_seq (by rfl) T.z_len PySem.boot_len (pa_cons (pv 1) pa_nil)) pa_nil)) (blkOk_by (N := N__law_same) (sc := defScope s__law_same) (by decide +kernel)) (fun _ _ _ _ _ => (pg_name (i := 2) sc__law_same.nd rfl (Or.inl rfl))) (fun _ _ _ _ _ => pts_nil) (fun _ _ _ _ _ => (pe_call ih__law_same hr rfl T.g__law_same T.F__law_same.kp T.b__law_same .nil passN (pa_cons (pe_ix ix_tup (pv 0) (pv 2) (fun _ _ => rfl)) (pa_cons (pe_ix ix_tup (pv 1) (pv 2) (fun _ _ => rfl)) pa_nil))))) pa_nil))))) pss_nil)
      (pss_cons (ps_if (pt_cmpR op_isN (pv 1) pe_non (nomark _)) (pss_one (ps_ret (pe_cmpR op_isN (pv 0) pe_non (nomark _)))) pss_nil)
      (pss_cons (ps_if (pt_val (pe_callB call_isi (by rfl) T.z_isinstance (by decide +kernel) (pa_cons (pv 1) (pa_cons (pe_bltn (v := .ty "str") rfl T.z_str (by decide +kernel) rfl) pa_nil)))) (pss_one (ps_ret (pe_and (pe_callB call_isi (by rfl) T.z_isinstance (by decide +kernel) (pa_cons (pv 0) (pa_cons (pe_bltn (v := .ty "str") rfl T.z_str (by decide +kernel) rfl) pa_nil))) (pe_one (pe_cmpR op_eq (pv 0) (pv 1) (nomark _)))))) pss_nil)
      (pss_cons (ps_if (pt_val (pe_callB call_isi (by rfl) T.z_isinstance (by decide +kernel) (pa_cons (pv 1) (pa_cons (pe_bltn (v := .ty "bool") rfl T.z_bool (by decide +kernel) rfl) pa_nil)))) (pss_one (ps_ret (pe_and (pe_callB call_isi (by rfl) T.z_isinstance (by decide +kernel) (pa_cons (pv 0) (pa_cons (pe_bltn (v := .ty "bool") rfl T.z_bool (by decide +kernel) rfl) pa_nil))) (pe_one (pe_cmpR op_eq (pv 0) (pv 1) (nomark _)))))) pss_nil)
      (pss_one (ps_ret (pe_and (pe_callB call_isi (by rfl) T.z_isinstance (by decide +kernel) (pa_cons (pv 0) (pa_cons (pe_bltn (v := .ty "int") rfl T.z_int (by decide +kernel) rfl) pa_nil))) (pe_and (pe_not (pe_callB call_isi (by rfl) T.z_isinstance (by decide +kernel) (pa_cons (pv 0) (pa_cons (pe_bltn (v := .ty "bool") rfl T.z_bool (by decide +kernel) rfl) pa_nil)))) (pe_one (pe_cmpR op_eq (pv 0) (pv 1) (nomark _))))))))))),
      (sSeq (sIfS (sB (sCB (rcIsi (T := "tuple")) (sCons sVar (sCons sHd sNil)))) (sSeq (sIfS (sOr (sNot (sB (sCB (rcIsi (T := "tuple")) (sCons sVar (sCons sHd sNil))))) (sTest (sOp roNe (sCB rcLen (sCons sVar sNil)) (sCB rcLen (sCons sVar sNil))))) (sRet sBl) sNext)
      (sRet (sCB rcAll (sCons (sLc (siR1 (sCB rcLen (sCons sVar sNil))) (gwName List.mem_cons_self) (fun _ _ _ => sName) (fun _ _ _ => sYes) (fun _ _ _ => (sCall (sCons (sOp roIxT sVar sVar) (sCons (sOp roIxT sVar sVar) sNil))))) sNil)))) sNext)
      (sSeq (sIfS (sTest (sOp roIsN sVar sNon)) (sRet (sOp roIsN sVar sNon)) sNext)
      (sSeq (sIfS (sB (sCB (rcIsi (T := "str")) (sCons sVar (sCons sHd sNil)))) (sRet (sAndV (sCB (rcIsi (T := "str")) (sCons sVar (sCons sHd sNil))) (sOp roEq sVar sVar))) sNext)
      (sSeq (sIfS (sB (sCB (rcIsi (T := "bool")) (sCons sVar (sCons sHd sNil)))) (sRet (sAndV (sCB (rcIsi (T := "bool")) (sCons sVar (sCons sHd sNil))) (sOp roEq sVar sVar))) sNext)
      (sRet (sAndV (sCB (rcIsi (T := "int")) (sCons sVar (sCons sHd sNil))) (sAndV (sNotV (sCB (rcIsi (T := "bool")) (sCons sVar (sCons sHd sNil)))) (sOp roEq sVar sVar))))))))⟩) (fun ds μ Φ Ψ h => ?hv)
  case hv =>
    obtain ⟨a, d, rfl, pa, pd, hd, h⟩ := h
    cases d with
    | tup ds =>
      cases a with
      | tup es =>
        walk_at "wps"
        refine ⟨fun c => ?_, fun c => ?_⟩
        · have c : es.length ≠ ds.length := by intro z; rw [z] at c; simp at c
          rw [sameD, sameDs_len c] at h
          exact ret_same h
        · have c : es.length = ds.length := by simp at c; omega
          simp [plainD] at pa pd
          refine ⟨by omega, by omega, lcG_mapN (fun i => .bl (sameD (es.getD i .non) (ds.getD i .non))) (by rw [rngD_len]; omega) (fun i d μ2 X hi hsub hx => ?_) ?_⟩
          · obtain ⟨hj, rfl⟩ := rngD_get hi
            have h1 : es[i]? = some es[i] := List.getElem?_eq_getElem (by omega)
            have h2 : ds[i]? = some ds[i] := List.getElem?_eq_getElem (by omega)
            walk_at "wps"
            refine ⟨_, atI_n h1, ?_⟩
            walk_at "wps"
            refine ⟨_, atI_n h2, same_at (plain_get pa.1 h1) (plain_get pd.1 h2) (by have := dep_get h2; simp only [depD] at hd; omega) ?_⟩
            simpa [List.getD_eq_getElem?_getD, h1, h2] using hx
          · rw [rngD_len]
            refine w_allB (P := (List.range ds.length).map fun i => sameD (es.getD i .non) (ds.getD i .non)) (by rw [List.map_map]; rfl) (ret_same ?_)
            rw [sameDs_all c]
            exact h
      | non => walk_at "wps"; exact ret_same h
      | int i => walk_at "wps"; exact ret_same h
      | bl i => walk_at "wps"; exact ret_same h
      | str i => walk_at "wps"; exact ret_same h
      | _ => simp [plainD] at pa
    | non =>
      cases a with
      | tup es => walk_at "wps"; exact ret_same h
      | non => walk_at "wps"; exact ret_same h
      | int i => walk_at "wps"; exact ret_same h
      | bl i => walk_at "wps"; exact ret_same h
      | str i => walk_at "wps"; exact ret_same h
      | _ => simp [plainD] at pa
    | str t =>
      cases a with
      | tup es => walk_at "wps"; exact ret_same h
      | non => walk_at "wps"; exact ret_same h
      | int i => walk_at "wps"; exact ret_same h
      | bl i => walk_at "wps"; exact ret_same h
      | str i => walk_at "wps"; exact ret_same h
      | _ => simp [plainD] at pa
    | bl t =>
      cases a with
      | tup es => walk_at "wps"; exact ret_same h
      | non => walk_at "wps"; exact ret_same h
      | int i => walk_at "wps"; exact ret_same h
      | bl i => walk_at "wps"; exact ret_same h
      | str i => walk_at "wps"; exact ret_same h
      | _ => simp [plainD] at pa
    | int t =>
      cases a with
      | tup es => walk_at "wps"; exact ret_same h
      | non => walk_at "wps"; exact ret_same h
      | int i => walk_at "wps"; exact ret_same h
      | bl i => walk_at "wps"; exact ret_same h
      | str i => walk_at "wps"; exact ret_same h
      | _ => simp [plainD] at pa
    | _ => simp [plainD] at pd
def c__law_contexts : Con := fun ds μ Φ _ => ∃ n k : Nat, ds = [.int n, .int k] ∧ n ≤ 8 ∧ k ≤ 4 ∧ 1 ≤ k ∧ Φ (.int ((k ^ n : Nat) : Int)) μ
theorem len__law_contexts {ds μ Φ Ψ} (h : c__law_contexts ds μ Φ Ψ) : ds.length = 2 := by obtain ⟨i, j, rfl, _⟩ := h; rfl
theorem ok__law_contexts {cx : CXT} (T : Txt P w K mg) : FnOk P w K mg base cx 1 T.f__law_contexts T.d__law_contexts ["_law_n", "_law_k"] (spOf K c__law_contexts) := by
  refine def_okC T.F__law_contexts sc__law_contexts _ (fun ds μ Φ Ψ h => len__law_contexts h) (fun cdv A outer s H E B hW hr =>
    ⟨_, (pss_cons (ps_set (i := 2) sc__law_contexts.nd rfl (Or.inl rfl) pe_int)
      (pss_cons (ps_for (passes_of rfl) rfl (pi_range1 rfl T.z_range (pa_cons (pv 0) pa_nil)) (pg_name (i := 3) sc__law_contexts.nd rfl (Or.inl rfl)) (pss_one (ps_set (i := 2) sc__law_contexts.nd rfl (Or.inl rfl) (pe_op op_mulX (pv 2) (pv 1)))))
      (pss_one (ps_ret (pv 2))))),
      (sSeq (sAsg sInt sName)
      (sSeq (sFor (siR1 sVar) (fun _ _ _ => sName) (fun _ _ _ => (sAsg (sOp roInt sVar sVar) sName)))
      (sRet sVar)))⟩) (fun ds μ Φ Ψ h => ?hv)
  case hv =>
    obtain ⟨n, k, rfl, hn, hk, hk1, h⟩ := h
    walk_at "wps"
    refine ⟨by omega, by omega, fun i δ' μ' => μ' = μ ∧ ∃ x : Option D, δ' = [some (.int n), some (.int k), some (.int ((k ^ i : Nat) : Int)), x] ∧ i ≤ n, ⟨rfl, none, rfl, by omega⟩, ?_, ?_⟩
    · rintro i d δ' μ' hi ⟨rfl, x, rfl, hin⟩
      obtain ⟨hj, rfl⟩ := rngD_get hi
      walk_at "wps"
      have := pow_small hk1 hk (show i ≤ 64 by omega)
      refine ⟨mulx 140 10 (by rw [Int.natAbs_natCast]; exact Nat.lt_of_le_of_lt this (by decide)) (by rw [Int.natAbs_natCast]; exact Nat.lt_of_le_of_lt hk (by decide)) (by decide), some (.int (i : Int)), ?_, by omega⟩
      rw [Nat.pow_succ, Int.natCast_mul]
    · rintro δ' μ' ⟨rfl, x, rfl, hin⟩
      walk_at "wps"
      exact ret_same h
def c__law_some : Con := fun ds μ Φ _ => ∃ (st : Addr) (ns : List Int) (c : List D) (m : Nat), ds = [.hd (.ref st), .int m] ∧ μ st = some (.lst c) ∧ StC ns c ∧ m ≤ 1000 ∧ ∀ l c', Asc m 0 l → StC ns c' → Φ (.tup (l.map .int)) (sset μ st (.lst c'))
theorem len__law_some {ds μ Φ Ψ} (h : c__law_some ds μ Φ Ψ) : ds.length = 2 := by obtain ⟨_, _, _, _, rfl, _⟩ := h; rfl
theorem ok__law_some (T : Txt P w K mg) : FnOk P w K mg base (L2N.CX P w) 2 T.f__law_some T.d__law_some ["_law_state", "_law_limit"] (spOf K c__law_some) := by
  refine def_okC T.F__law_some sc__law_some _ (fun ds μ Φ Ψ h => len__law_some h) (fun cdv A outer s H E B hW hr =>
    have tk : L2N.Takes (cxOf (L2N.CX P w) P w K mg base N__law_some "_law_some" (defScope s__law_some) T.f__law_some cdv A outer s H E) (fun cls d _ H => E cls d H) := L2N.takes_of rfl rfl rfl rfl
    ⟨_, (pss_one (ps_ret (pe_callTy call_tupleN (by rfl) T.z_tuple (by decide +kernel) (pa_cons (pe_lc (own := [("_law_x", 2)]) rfl sc__law_some.nd (pi_range1 rfl T.z_range (pa_cons (pv 1) pa_nil)) (blkOk_by (N := N__law_some) (sc := defScope s__law_some) (by decide +kernel)) (fun _ _ _ _ _ => (pg_name (i := 2) sc__law_some.nd rfl (Or.inl rfl))) (fun _ _ _ _ _ => (pts_one (pt_cmpR op_eq (pe_call (ok__law_pick T) hr rfl T.g__law_pick T.F__law_pick.kp T.b__law_pick .nil passN (pa_cons (pv 0) (pa_cons pe_int pa_nil))) pe_int (nomark _)))) (fun _ _ _ _ _ => (pv 2))) pa_nil)))),
      (sRet (sCB rcTuple (sCons (sLc (siR1 sVar) (gwName List.mem_cons_self) (fun _ _ _ => sName) (fun _ _ _ => (sTest (sOp roEq (sCall (sCons sVar (sCons sInt sNil))) sInt))) (fun _ _ _ => sVar)) sNil)))⟩) (fun ds μ Φ Ψ h => ?hv)
  case hv =>
    obtain ⟨st, ns, c, m, rfl, hst, hc, hm, h⟩ := h
    walk_at "wps"
    refine ⟨by omega, by omega, lcG_drawG (StC ns) (fun i acc => ∃ l : List Int, acc = l.map .int ∧ Asc i 0 l) (by rw [rngD_len]; omega) hst hc ⟨[], rfl, trivial⟩ (fun i d μ2 X Y acc c2 hi hs2 sc ⟨l, e, as⟩ hl hx hy => ?_) (fun acc c2 ⟨l, e, as⟩ hl sc => ?_)⟩
    · obtain ⟨hj, rfl⟩ := rngD_get hi
      walk_at "wps"
      refine ⟨st, ns, c2, 2, rfl, hs2, sc, by decide, by decide, fun r c' r0 r1 sc' => ?_⟩
      walk_at "wps"
      refine ⟨fun _ => hx _ c' sc' ⟨l ++ [(i : Int)], by rw [e, List.map_append]; rfl, asc_snoc (by omega) as⟩, fun _ => hy c' sc' ⟨l, e, asc_mono (by omega) as⟩⟩
    · rw [rngD_len] at as
      refine ⟨_, .lst _, ret_same ?_⟩
      rw [e]
      exact h l c2 as sc
theorem erase_map {α β : Type} (f : α → β) (l : List α) (i : Nat) : (l.map f).eraseIdx i = (l.eraseIdx i).map f := by
  rw [List.eraseIdx_eq_take_drop_succ, List.eraseIdx_eq_take_drop_succ, List.map_append, List.map_take, List.map_drop]
theorem erase_perm {l : List Int} {i : Nat} (h : i < l.length) : (l[i] :: l.eraseIdx i).Perm l := by
  rw [List.eraseIdx_eq_take_drop_succ]
  have e : l.take i ++ l[i] :: l.drop (i + 1) = l := by rw [← List.drop_eq_getElem_cons h, List.take_append_drop]
  exact List.perm_middle.symm.trans (List.Perm.of_eq e)
def c__law_places : Con := fun ds μ Φ _ => ∃ (st : Addr) (ns : List Int) (c : List D) (m : Nat), ds = [.hd (.ref st), .int m] ∧ μ st = some (.lst c) ∧ StC ns c ∧ m ≤ 1000 ∧ ∀ l c', NumOk m m l → l.Nodup → StC ns c' → Φ (.tup (l.map .int)) (sset μ st (.lst c'))
theorem len__law_places {ds μ Φ Ψ} (h : c__law_places ds μ Φ Ψ) : ds.length = 2 := by obtain ⟨_, _, _, _, rfl, _⟩ := h; rfl
theorem ok__law_places (T : Txt P w K mg) : FnOk P w K mg base (L2N.CX P w) 2 T.f__law_places T.d__law_places ["_law_state", "_law_many"] (spOf K c__law_places) := by
  refine def_okC T.F__law_places sc__law_places _ (fun ds μ Φ Ψ h => len__law_places h) (fun cdv A outer s H E B hW hr =>
    have tk : L2N.Takes (cxOf (L2N.CX P w) P w K mg base N__law_places "_law_places" (defScope s__law_places) T.f__law_places cdv A outer s H E) (fun cls d _ H => E cls d H) := L2N.takes_of rfl rfl rfl rfl
    ⟨_, (pss_cons (ps_set (i := 2) sc__law_places.nd rfl (Or.inr rfl) (pe_listRg rfl rfl T.z_list (prg_1 rfl T.z_range (pv 1))))
      (pss_one (ps_ret (pe_callTy call_tupleN (by rfl) T.z_tuple (by decide +kernel) (pa_cons (pe_lc (own := [("_law_k", 3)]) rfl sc__law_places.nd (pi_range1 rfl T.z_range (pa_cons (pv 1) pa_nil)) (blkOk_by (N := N__law_places) (sc := defScope s__law_places) (by decide +kernel)) (fun _ _ _ _ _ => (pg_name (i := 3) sc__law_places.nd rfl (Or.inl rfl))) (fun _ _ _ _ _ => pts_nil) (fun _ _ _ _ _ => (pe_bm PySem.F.plainAttrs_list PySem.F.slot_list_pop PySem.F.type_list_pop mt_popAt (pv 2) (by exact pa_cons (pe_call (ok__law_pick T) hr rfl T.g__law_pick T.F__law_pick.kp T.b__law_pick .nil passN (pa_cons (pv 0) (pa_cons (pe_callB call_len_seq (by rfl) T.z_len PySem.boot_len (pa_cons (pv 2) pa_nil)) pa_nil))) pa_nil)))) pa_nil))))),
      (sSeq (sAsg (sLstR1O sVar) sName)
      (sRet (sCB rcTuple (sCons (sLc (siR1 sVar) (gwName List.mem_cons_self) (fun _ _ _ => sName) (fun _ _ _ => sYes) (fun _ _ _ => (sPopAt sVar (sCall (sCons sVar (sCons (sCB rcLen (sCons sVar sNil)) sNil)))))) sNil))))⟩) (fun ds μ Φ Ψ h => ?hv)
  case hv =>
    obtain ⟨st, ns, c, m, rfl, hst, hc, hm, h⟩ := h
    walk_at "wps"
    refine ⟨by omega, by omega, fun q hq => ⟨by omega, by omega, ?_⟩⟩
    have ne : st ≠ q := fun z => by rw [z, hq] at hst; cases hst
    have e0 : rngD 0 m = ((List.range m).map fun (i : Nat) => (i : Int)).map .int := by
      unfold rngD
      rw [List.map_map]
      exact List.map_congr_left fun i _ => by show D.int (0 + (i : Int)) = D.int (i : Int); rw [Int.zero_add]
    refine lcG_sto (fun i acc ν => ∃ (ps rest : List Int) (c2 : List D), acc = ps.map .int ∧ StC ns c2 ∧ ν = sset (sset μ st (.lst c2)) q (.lst (rest.map .int)) ∧ ps.length = i ∧ i + rest.length = m ∧ (ps ++ rest).Perm ((List.range m).map fun (i : Nat) => (i : Int)))
      (by rw [rngD_len]; omega) ⟨[], (List.range m).map fun (i : Nat) => (i : Int), c, rfl, hc, ?_, rfl, by simp, by rw [List.nil_append]⟩ (fun i d ν p X Y acc hi hp ⟨ps, rest, c2, e, sc, en, hl, hr, pm⟩ hla hx hy => ?_) (fun acc ν ⟨ps, rest, c2, e, sc, en, hl, hr, pm⟩ hla => ?_)
    · rw [e0]
      funext b
      by_cases h1 : b = q
      · subst h1; rw [sset_same, sset_same]
      · rw [sset_ne h1, sset_ne h1]
        by_cases h2 : b = st
        · subst h2; rw [sset_same]; exact hst
        · rw [sset_ne h2]
    · obtain ⟨hj, rfl⟩ := rngD_get hi
      have np : p ≠ q := fun z => by rw [en, z, sset_same] at hp; cases hp
      have nst : p ≠ st := fun z => by rw [en, z, sset_ne ne, sset_same] at hp; cases hp
      walk_at "wps"
      have Mq : sset ν p (.lst acc) q = some (.lst (rest.map .int)) := by rw [sset_ne (Ne.symm np), en, sset_same]
      have Mst : sset ν p (.lst acc) st = some (.lst c2) := by rw [sset_ne (Ne.symm nst), en, sset_ne ne, sset_same]
      have hp0 := hp
      rw [en, sset_ne np, sset_ne nst] at hp0
      have rl : 0 < rest.length := by omega
      refine ⟨_, Mq, .inl ⟨_, Mq, st, ns, c2, _, rfl, Mst, sc, by rw [List.length_map]; omega, ?_, fun r c' r0 r1 sc' => ?_⟩⟩
      · rw [List.length_map, Int.natAbs_natCast]
        have := Nat.log2_le_self rest.length
        omega
      · rw [List.length_map] at r1
        have rn : r.toNat < rest.length := by omega
        refine ⟨rest.map .int, by rw [sset_ne (Ne.symm ne)]; exact Mq, by rw [List.length_map]; omega, r.toNat, .int rest[r.toNat], by rw [Int.toNat_of_nonneg r0], by rw [List.getElem?_map, List.getElem?_eq_getElem rn]; rfl, ?_⟩
        have es : sset (sset (sset ν p (.lst acc)) st (.lst c')) q (.lst ((rest.map D.int).eraseIdx r.toNat)) = sset (sset (sset μ st (.lst c')) q (.lst ((rest.eraseIdx r.toNat).map .int))) p (.lst acc) := by
          rw [sset_comm (a := p) (b := st) nst, sset_comm (a := p) (b := q) np, en, sset_comm (a := q) (b := st) (Ne.symm ne), sset_sset, sset_sset, erase_map]
        rw [es]
        refine hx _ _ (by rw [sset_ne np, sset_ne nst]; exact hp0) ⟨ps ++ [rest[r.toNat]], rest.eraseIdx r.toNat, c', by rw [e, List.map_append]; rfl, sc', rfl, by rw [List.length_append, hl]; rfl, by rw [List.length_eraseIdx, if_pos rn]; omega, ?_⟩
        refine List.Perm.trans ?_ pm
        rw [List.append_assoc]
        exact List.Perm.append_left ps (erase_perm rn)
    · rw [rngD_len] at hr hl
      have r0 : rest = [] := by cases rest with
        | nil => rfl
        | cons x y => simp at hr
      subst r0
      rw [List.append_nil] at pm
      refine ⟨_, .lst _, sset μ st (.lst c2), ?_, ?_⟩
      · rw [en]
        exact Sub.refl.set (by rw [sset_ne (Ne.symm ne)]; exact hq)
      · rw [e]
        refine h ps c2 ⟨hl, fun x hx => ?_⟩ ?_ sc
        · obtain ⟨y, hy, rfl⟩ := List.mem_map.mp (pm.mem_iff.mp hx)
          have := List.mem_range.mp hy
          omega
        · refine pm.nodup_iff.mpr ?_
          refine List.pairwise_map.mpr (List.Pairwise.imp (fun hab => ?_) List.pairwise_lt_range)
          omega
end
section
variable {P : Program} {w : World} {K : Fg} {mg : Str → Option Value} {base : Heap}
def W12 : List Str := ["any", "best", "second", "most", "fewest", "fixed", "like", "unlike", "among", "only", "table", "best"]
theorem inD_S (z : Str) : ∀ l : List Str, inD (.str z) (l.map .str) = l.contains z
  | [] => rfl
  | x :: l => by
    have ih := inD_S z l
    unfold inD at ih ⊢
    rw [List.map_cons, List.any_cons, ih, List.contains_cons]
    show (x == z || l.contains z) = _
    by_cases hh : x = z
    · rw [hh]
    · rw [beq_eq_false_iff_ne.mpr hh, beq_eq_false_iff_ne.mpr (Ne.symm hh)]
theorem in_S {z : Str} {l : List Str} {μ : Sto} {X : DK} (h : X (.bl (l.contains z)) μ) : oIn false (.str z) (.lst (l.map .str)) μ X :=
  ⟨_, .lst _, rfl, by rw [List.all_map]; exact List.all_eq_true.mpr fun _ _ => rfl, by rw [if_neg Bool.false_ne_true, inD_S]; exact h⟩
theorem seq_cut {ω ζ : DSt} {Ψ : XP} {Δ : DEnds} {δ : DEnv} {μ : Sto} (h : ∀ M, M = ζ Ψ Δ → ω Ψ { Δ with nx := M } δ μ) : dSeq ω ζ Ψ Δ δ μ := h _ rfl
theorem lcNum {Ψ : XP} {Φ : DK} {n : Nat} {φ : DE} {δw : DEnv} {μ1 : Sto} {m lim : Nat} {st : Addr} {ns : List Int} {c : List D} (hm : m ≤ 1000) (hst : μ1 st = some (.lst c)) (h0 : StC ns c)
    (hs : ∀ (i : Nat) (μ2 : Sto) (X : DK) (c : List D), μ2 st = some (.lst c) → StC ns c → (∀ (y : Int) c', StC ns c' → 0 ≤ y → y < (lim : Int) → X (.int y) (sset μ2 st (.lst c'))) → φ Ψ (δw.set n (some (.int (i : Int)))) μ2 X)
    (hd : ∀ l c, NumOk m lim l → StC ns c → Φ (.lst (l.map .int)) (sset μ1 st (.lst c))) : LcG (eName n) dYes φ δw Ψ (rngD 0 m) μ1 Φ := by
  refine lcG_drawN (StC ns) (fun i acc => ∃ l : List Int, acc = l.map .int ∧ NumOk i lim l) (by rw [rngD_len]; omega) hst h0 ⟨[], rfl, rfl, by simp⟩ (fun i d μ2 X acc c2 hi hs2 sc ⟨l, e, hl⟩ hla hx => ?_) (fun acc c2 ⟨l, e, hl⟩ hla sc => ?_)
  · obtain ⟨hj, rfl⟩ := rngD_get hi
    rw [Int.zero_add]
    refine hs i μ2 X c2 hs2 sc fun y c' sc' y0 y1 => hx _ c' sc' ⟨l ++ [y], by rw [e, List.map_append]; rfl, by rw [List.length_append, hl.1]; rfl, fun z hz => ?_⟩
    rcases List.mem_append.mp hz with q | q
    · exact hl.2 z q
    · rw [List.mem_singleton.mp q]; exact ⟨y0, y1⟩
  · rw [rngD_len] at hl
    rw [e]
    exact hd l c2 hl sc
def c__law_simple : Con := fun ds μ Φ _ => ∃ (st : Addr) (ns : List Int) (c : List D) (n k : Nat), ds = [.hd (.ref st), .int n, .int k] ∧ μ st = some (.lst c) ∧ StC ns c ∧ SzOk n k ∧ (n ≤ 8 ∧ k ^ n ≤ 256) ∧ ∀ a c', AmOk n k a → a.dep = 1 → StC ns c' → Φ a.d (sset μ st (.lst c'))
theorem len__law_simple {ds μ Φ Ψ} (h : c__law_simple ds μ Φ Ψ) : ds.length = 3 := by obtain ⟨_, _, _, _, _, rfl, _⟩ := h; rfl
theorem ok__law_simple (T : Txt P w K mg) : FnOk P w K mg base (L2N.CX P w) 3 T.f__law_simple T.d__law_simple ["_law_state", "_law_n", "_law_k"] (spOf K c__law_simple) := by
  refine def_okC T.F__law_simple sc__law_simple _ (fun ds μ Φ Ψ h => len__law_simple h) (fun cdv A outer s H E B hW hr =>
    have tk : L2N.Takes (cxOf (L2N.CX P w) P w K mg base N__law_simple "_law_simple" (defScope s__law_simple) T.f__law_simple cdv A outer s H E) (fun cls d _ H => E cls d H) := L2N.takes_of rfl rfl rfl rfl
    ⟨_, (pss_cons (ps_set (i := 3) sc__law_simple.nd rfl (Or.inl rfl) (pe_lst (pa_cons pe_str (pa_cons pe_str (pa_cons pe_str (pa_cons pe_str (pa_cons pe_str (pa_cons pe_str (pa_cons pe_str (pa_cons pe_str (pa_cons pe_str (pa_cons pe_str (pa_cons pe_str (pa_cons pe_str pa_nil))))))))))))))
      (pss_cons (ps_set (i := 4) sc__law_simple.nd rfl (Or.inl rfl) (pe_ix ix_list (pv 3) (pe_call (ok__law_pick T) (hr.mono (by decide)) rfl T.g__law_pick T.F__law_pick.kp T.b__law_pick .nil passN (pa_cons (pv 0) (pa_cons pe_int pa_nil))) (fun _ _ => rfl)))
      (pss_cons (ps_if (pt_cmpR op_in_seq (pv 4) (pe_lst (pa_cons pe_str (pa_cons pe_str pa_nil))) (by with_unfolding_all rfl)) (pss_cons (ps_set (i := 5) sc__law_simple.nd rfl (Or.inr rfl) (pe_ix ix_list (pe_lst (pa_cons pe_int (pa_cons pe_int (pa_cons pe_int pa_nil)))) (pe_call (ok__law_pick T) (hr.mono (by decide)) rfl T.g__law_pick T.F__law_pick.kp T.b__law_pick .nil passN (pa_cons (pv 0) (pa_cons pe_int pa_nil))) (fun _ _ => rfl)))
      (pss_one (ps_ret (pe_tupN (pa_cons (pv 4) (pa_cons (pe_callTy call_tupleN (by rfl) T.z_tuple (by decide +kernel) (pa_cons (pe_lc (own := [("_law_r", 6)]) rfl sc__law_simple.nd (pi_range1 rfl T.z_range (pa_cons (pv 2) pa_nil)) (blkOk_by (N := N__law_simple) (sc := defScope s__law_simple) (by decide +kernel)) (fun _ _ _ _ _ => (pg_name (i := 6) sc__law_simple.nd rfl (Or.inl rfl))) (fun _ _ _ _ _ => pts_nil) (fun _ _ _ _ _ => (pe_call (ok__law_pick T) (hr.mono (by decide)) rfl T.g__law_pick T.F__law_pick.kp T.b__law_pick .nil passN (pa_cons (pv 0) (pa_cons (pv 5) pa_nil))))) pa_nil)) pa_nil)))))) pss_nil)
      (pss_cons (ps_if (pt_cmpR op_in_seq (pv 4) (pe_lst (pa_cons pe_str (pa_cons pe_str pa_nil))) (by with_unfolding_all rfl)) (pss_one (ps_ret (pe_tupN (pa_cons (pv 4) (pa_cons (pe_call (ok__law_pick T) (hr.mono (by decide)) rfl T.g__law_pick T.F__law_pick.kp T.b__law_pick .nil passN (pa_cons (pv 0) (pa_cons (pv 1) pa_nil))) pa_nil))))) pss_nil)
      (pss_cons (ps_if (pt_cmpR op_eq (pv 4) pe_str (nomark _)) (pss_one (ps_ret (pe_tupN (pa_cons (pv 4) (pa_cons (pe_call (ok__law_some T) hr rfl T.g__law_some T.F__law_some.kp T.b__law_some .nil passN (pa_cons (pv 0) (pa_cons (pv 2) pa_nil))) pa_nil))))) pss_nil)
      (pss_cons (ps_if (pt_cmpR op_eq (pv 4) pe_str (nomark _)) (pss_one (ps_ret (pe_tupN (pa_cons (pv 4) (pa_cons (pe_call (ok__law_some T) hr rfl T.g__law_some T.F__law_some.kp T.b__law_some .nil passN (pa_cons (pv 0) (pa_cons (pv 1) pa_nil))) pa_nil))))) pss_nil)
      (pss_cons (ps_if (pt_cmpR op_eq (pv 4) pe_str (nomark _)) (pss_one (ps_ret (pe_tupN (pa_cons (pv 4) (pa_cons (pe_callTy call_tupleN (by rfl) T.z_tuple (by decide +kernel) (pa_cons (pe_lc (own := [("_law_p", 7)]) rfl sc__law_simple.nd (pi_range1 rfl T.z_range (pa_cons (pe_call (ok__law_contexts T) (hr.mono (by decide)) rfl T.g__law_contexts T.F__law_contexts.kp T.b__law_contexts .nil passN (pa_cons (pv 1) (pa_cons (pv 2) pa_nil))) pa_nil)) (blkOk_by (N := N__law_simple) (sc := defScope s__law_simple) (by decide +kernel)) (fun _ _ _ _ _ => (pg_name (i := 7) sc__law_simple.nd rfl (Or.inl rfl))) (fun _ _ _ _ _ => pts_nil) (fun _ _ _ _ _ => (pe_call (ok__law_some T) hr rfl T.g__law_some T.F__law_some.kp T.b__law_some .nil passN (pa_cons (pv 0) (pa_cons (pv 1) pa_nil))))) pa_nil)) pa_nil))))) pss_nil)
      (pss_one (ps_ret (pe_tupN (pa_cons (pv 4) pa_nil))))))))))),
      (sSeq (sAsg (sLst (sCons sStr (sCons sStr (sCons sStr (sCons sStr (sCons sStr (sCons sStr (sCons sStr (sCons sStr (sCons sStr (sCons sStr (sCons sStr (sCons sStr sNil))))))))))))) sName)
      (sSeq (sAsg (sOp roIxL sVar (sCall (sCons sVar (sCons sInt sNil)))) sName)
      (sSeq (sIfS (sTest (sOp (roIn (neg := false)) sVar (sLst (sCons sStr (sCons sStr sNil))))) (sSeq (sAsg (sOp roIxL (sLst (sCons sInt (sCons sInt (sCons sInt sNil)))) (sCall (sCons sVar (sCons sInt sNil)))) sName)
      (sRet (sTup (sCons sVar (sCons (sCB rcTuple (sCons (sLc (siR1 sVar) (gwName List.mem_cons_self) (fun _ _ _ => sName) (fun _ _ _ => sYes) (fun _ _ _ => (sCall (sCons sVar (sCons sVar sNil))))) sNil)) sNil))))) sNext)
      (sSeq (sIfS (sTest (sOp (roIn (neg := false)) sVar (sLst (sCons sStr (sCons sStr sNil))))) (sRet (sTup (sCons sVar (sCons (sCall (sCons sVar (sCons sVar sNil))) sNil)))) sNext)
      (sSeq (sIfS (sTest (sOp roEq sVar sStr)) (sRet (sTup (sCons sVar (sCons (sCall (sCons sVar (sCons sVar sNil))) sNil)))) sNext)
      (sSeq (sIfS (sTest (sOp roEq sVar sStr)) (sRet (sTup (sCons sVar (sCons (sCall (sCons sVar (sCons sVar sNil))) sNil)))) sNext)
      (sSeq (sIfS (sTest (sOp roEq sVar sStr)) (sRet (sTup (sCons sVar (sCons (sCB rcTuple (sCons (sLc (siR1 (sCall (sCons sVar (sCons sVar sNil)))) (gwName List.mem_cons_self) (fun _ _ _ => sName) (fun _ _ _ => sYes) (fun _ _ _ => (sCall (sCons sVar (sCons sVar sNil))))) sNil)) sNil)))) sNext)
      (sRet (sTup (sCons sVar sNil))))))))))⟩) (fun ds μ Φ Ψ h => ?hv)
  case hv =>
    obtain ⟨st, ns, c, n, k, rfl, hst, hc, hs, hsm, h⟩ := h
    refine seq_cut fun M hM => ?_
    walk_at "wp"
    refine ⟨by omega, ?_⟩
    rw [hM]
    refine seq_cut fun M hM => ?_
    walk_at "wp"
    refine ⟨st, ns, c, 12, rfl, hst, hc, by decide, by decide, fun r c' r0 r1 sc => ?_⟩
    have hr : r.toNat < W12.length := by show r.toNat < 12; omega
    refine ⟨W12.map .str, r, .str W12[r.toNat], .lst _, rfl, rfl, atI_map r0 hr, ?_⟩
    have hw := List.getElem_mem hr
    generalize W12[r.toNat] = w' at hw
    clear hr r0 r1
    have tail : ∀ (w : Str) (c2 : List D), w ∈ W12 → (w = "table" → n ≤ 8 ∧ k ^ n ≤ 256) → StC ns c2 → M [some (.hd (.ref st)), some (.int n), some (.int k), some (.lst (W12.map .str)), some (.str w), none, none, none] (sset μ st (.lst c2)) := by
      clear sc hw
      intro w c2 hw ht sc
      have hst2 : sset μ st (.lst c2) st = some (.lst c2) := sset_same
      rw [hM]
      clear hM M
      refine seq_cut fun M hM => ?_
      walk_at "wp"
      refine ⟨by decide, in_S (l := ["best", "second"]) ?_⟩
      refine ⟨_, rfl, fun hb => ?_, fun hb => ?_⟩
      · refine seq_cut fun M hM => ?_
        walk_at "wp"
        have hr' : ∀ r : Int, 0 ≤ r → r < 3 → r.toNat < ([2, 3, 10] : List Int).length := fun r _ _ => by show r.toNat < 3; omega
        refine ⟨by decide, st, ns, c2, 3, rfl, hst2, sc, by decide, by decide, fun r c3 r0 r1 sc3 => ?_⟩
        refine ⟨([2, 3, 10] : List Int).map .int, r, D.int (([2, 3, 10] : List Int)[r.toNat]'(hr' r r0 r1)), .lst _, rfl, rfl, atI_map r0 (hr' r r0 r1), ?_⟩
        have hlim : 0 < ([2, 3, 10] : List Int)[r.toNat]'(hr' r r0 r1) ∧ ([2, 3, 10] : List Int)[r.toNat]'(hr' r r0 r1) ≤ 10 := by
          have := List.getElem_mem (hr' r r0 r1)
          generalize ([2, 3, 10] : List Int)[r.toNat]'(hr' r r0 r1) = x at this
          simp at this
          omega
        generalize ([2, 3, 10] : List Int)[r.toNat]'(hr' r r0 r1) = x at hlim
        rw [sset_sset, hM]
        have k4 := hs.k4
        walk_at "wps"
        refine ⟨by omega, by omega, lcNum (lim := x.toNat) (ns := ns) (by omega) sset_same sc3 (fun i μ2 X c4 hs4 sc4 hx => ?_) (fun l c4 hl sc4 => ?_)⟩
        · walk_at "wps"
          exact ⟨st, ns, c4, x, rfl, hs4, sc4, by omega, by have := Nat.log2_le_self x.natAbs; omega, fun y c5 y0 y1 sc5 => hx y c5 sc5 y0 (by omega)⟩
        · refine ⟨_, .lst _, by decide, ret_same ?_⟩
          rw [sset_sset]
          have nl : NumOk k 10 l := ⟨hl.1, fun z hz => by have := hl.2 z hz; omega⟩
          have hb2 : w = "best" ∨ w = "second" := by simpa using hb
          rcases hb2 with e | e
          · rw [e]; exact h (.best l) c4 nl rfl sc4
          · rw [e]; exact h (.second l) c4 nl rfl sc4
      · rw [hM]
        clear hM M
        refine seq_cut fun M hM => ?_
        walk_at "wp"
        refine ⟨by decide, in_S (l := ["like", "unlike"]) ?_⟩
        refine ⟨_, rfl, fun hl => ?_, fun hl => ?_⟩
        · have n1 := hs.n1
          have n64 := hs.n64
          refine ⟨st, ns, c2, n, rfl, hst2, sc, by omega, by rw [Int.natAbs_natCast]; have := Nat.log2_le_self n; omega, fun r c3 r0 r1 sc3 => ⟨by decide, ret_same ?_⟩⟩
          rw [sset_sset]
          have er : r = ((r.toNat : Nat) : Int) := by omega
          rw [er]
          have hl2 : w = "like" ∨ w = "unlike" := by simpa using hl
          rcases hl2 with e | e
          · rw [e]; exact h (.like r.toNat) c3 (show r.toNat < n by omega) rfl sc3
          · rw [e]; exact h (.unlike r.toNat) c3 (show r.toNat < n by omega) rfl sc3
        · rw [hM]
          clear hM M
          walk_at "wps"
          have k4 := hs.k4
          have n64 := hs.n64
          refine ⟨fun e => ⟨st, ns, c2, k, rfl, hst2, sc, by omega, fun l c3 as sc3 => ⟨by decide, ret_same ?_⟩⟩, fun e1 => ⟨fun e => ⟨st, ns, c2, n, rfl, hst2, sc, by omega, fun l c3 as sc3 => ⟨by decide, ret_same ?_⟩⟩, fun e2 => ⟨fun e => ?_, fun e3 => ⟨by decide, ret_same ?_⟩⟩⟩⟩
          · rw [sset_sset, e]; exact h (.among l) c3 as rfl sc3
          · rw [sset_sset, e]; exact h (.only l) c3 as rfl sc3
          · have hkn := (ht e).2
            refine ⟨n, k, rfl, (ht e).1, hs.k4, hs.k1, _, rfl, by omega, by omega, ?_⟩
            rw [Int.toNat_natCast]
            refine lcG_drawN (StC ns) (fun i acc => ∃ rows : List (List Int), acc = rows.map Am.iT ∧ rows.length = i ∧ ∀ l ∈ rows, Asc n 0 l) (by rw [rngD_len]; omega) hst2 sc ⟨[], rfl, rfl, by simp⟩ (fun i d μ2 X acc c3 hi hs2 sc3 ⟨rows, e4, rl, ra⟩ hla hx => ?_) (fun acc c3 ⟨rows, e4, rl, ra⟩ hla sc3 => ?_)
            · obtain ⟨hj, rfl⟩ := rngD_get hi
              walk_at "wps"
              refine ⟨st, ns, c3, n, rfl, hs2, sc3, by omega, fun l c4 as sc4 => hx _ c4 sc4 ⟨rows ++ [l], by rw [e4, List.map_append]; rfl, by rw [List.length_append, rl]; rfl, fun l' hl' => ?_⟩⟩
              rcases List.mem_append.mp hl' with q | q
              · exact ra l' q
              · rw [List.mem_singleton.mp q]; exact as
            · rw [rngD_len] at rl
              refine ⟨_, .lst _, by decide, ret_same ?_⟩
              rw [sset_sset, e4, e]
              exact h (.table rows) c3 ⟨(ht e).1, by omega, rl, ra⟩ rfl sc3
          · have hw2 : w = "any" ∨ w = "most" ∨ w = "fewest" ∨ w = "fixed" := by
              simp [W12] at hw hb hl
              rcases hw with q | q | q | q | q | q | q | q | q | q | q | q <;> first | (exact absurd q hb.1) | (exact absurd q hb.2) | (exact absurd q hl.1) | (exact absurd q hl.2) | (exact absurd q e1) | (exact absurd q e2) | (exact absurd q e3) | (simp [q])
            rcases hw2 with q | q | q | q
            · rw [q]; exact h .any c2 trivial rfl sc
            · rw [q]; exact h .most c2 trivial rfl sc
            · rw [q]; exact h .fewest c2 trivial rfl sc
            · rw [q]; exact h .fixed c2 trivial rfl sc
    exact tail w' c' hw (fun _ => hsm) sc
end
section
variable {P : Program} {w : World} {K : Fg} {mg : Str → Option Value} {base : Heap}
def W7 : List Str := ["either", "both", "else", "not", "first", "recode", "reorder"]
def c__law_aim (m : Nat) : Con := fun ds μ Φ _ => ∃ (st : Addr) (ns : List Int) (c : List D) (n k L : Nat), ds = [.hd (.ref st), .int n, .int k, .int L] ∧ 1 ≤ L ∧ L ≤ m ∧ μ st = some (.lst c) ∧ StC ns c ∧ SzOk n k ∧ (n ≤ 8 ∧ k ^ n ≤ 256) ∧ ∀ a c', AmOk n k a → a.dep ≤ L → StC ns c' → Φ a.d (sset μ st (.lst c'))
theorem len__law_aim {m ds μ Φ Ψ} (h : c__law_aim m ds μ Φ Ψ) : ds.length = 4 := by obtain ⟨_, _, _, _, _, _, rfl, _⟩ := h; rfl
theorem step__law_aim (T : Txt P w K mg) {k : Nat} (hk : 3 ≤ k) (n : Nat) (ih__law_aim : FnOk P w K mg base (L2N.CX P w) k T.f__law_aim T.d__law_aim ["_law_state", "_law_n", "_law_k", "_law_levels"] (spOf K (c__law_aim n))) : FnOk P w K mg base (L2N.CX P w) (k + 1) T.f__law_aim T.d__law_aim ["_law_state", "_law_n", "_law_k", "_law_levels"] (spOf K (c__law_aim (n + 1))) := by
  refine def_okC T.F__law_aim sc__law_aim _ (fun ds μ Φ Ψ h => len__law_aim h) (fun cdv A outer s H E B hW hr =>
    have tk : L2N.Takes (cxOf (L2N.CX P w) P w K mg base N__law_aim "_law_aim" (defScope s__law_aim) T.f__law_aim cdv A outer s H E) (fun cls d _ H => E cls d H) := L2N.takes_of rfl rfl rfl rfl
    ⟨_, (pss_cons (ps_if (PW.pt (pw_or (pt_cmpR op_eq (pv 3) pe_int (nomark _)) (pw_or1 (pt_cmpR op_eq (pe_call (ok__law_pick T) (hr.mono (by omega)) rfl T.g__law_pick T.F__law_pick.kp T.b__law_pick .nil passN (pa_cons (pv 0) (pa_cons pe_int pa_nil))) pe_int (nomark _))))) (pss_one (ps_ret (pe_call (ok__law_simple T) (hr.mono (by omega)) rfl T.g__law_simple T.F__law_simple.kp T.b__law_simple .nil passN (pa_cons (pv 0) (pa_cons (pv 1) (pa_cons (pv 2) pa_nil)))))) pss_nil)
      (pss_cons (ps_set (i := 4) sc__law_aim.nd rfl (Or.inl rfl) (pe_ix ix_list (pe_lst (pa_cons pe_str (pa_cons pe_str (pa_cons pe_str (pa_cons pe_str (pa_cons pe_str (pa_cons pe_str (pa_cons pe_str pa_nil)))))))) (pe_call (ok__law_pick T) (hr.mono (by omega)) rfl T.g__law_pick T.F__law_pick.kp T.b__law_pick .nil passN (pa_cons (pv 0) (pa_cons pe_int pa_nil))) (fun _ _ => rfl)))
      (pss_cons (ps_set (i := 5) sc__law_aim.nd rfl (Or.inl rfl) (pe_call ih__law_aim hr rfl T.g__law_aim T.F__law_aim.kp T.b__law_aim .nil passN (pa_cons (pv 0) (pa_cons (pv 1) (pa_cons (pv 2) (pa_cons (pe_op op_sub (pv 3) pe_int) pa_nil))))))
      (pss_cons (ps_if (pt_cmpR op_in_seq (pv 4) (pe_lst (pa_cons pe_str (pa_cons pe_str pa_nil))) (by with_unfolding_all rfl)) (pss_one (ps_ret (pe_tupN (pa_cons (pv 4) (pa_cons (pv 5) pa_nil))))) pss_nil)
      (pss_cons (ps_if (pt_cmpR op_eq (pv 4) pe_str (nomark _)) (pss_one (ps_ret (pe_tupN (pa_cons (pv 4) (pa_cons (pe_callTy call_tupleN (by rfl) T.z_tuple (by decide +kernel) (pa_cons (pe_lc (own := [("_law_r", 6)]) rfl sc__law_aim.nd (pi_range1 rfl T.z_range (pa_cons (pv 2) pa_nil)) (blkOk_by (N := N__law_aim) (sc := defScope s__law_aim) (by decide +kernel)) (fun _ _ _ _ _ => (pg_name (i := 6) sc__law_aim.nd rfl (Or.inl rfl))) (fun _ _ _ _ _ => pts_nil) (fun _ _ _ _ _ => (pe_call (ok__law_pick T) (hr.mono (by omega)) rfl T.g__law_pick T.F__law_pick.kp T.b__law_pick .nil passN (pa_cons (pv 0) (pa_cons (pv 2) pa_nil))))) pa_nil)) (pa_cons (pv 5) pa_nil)))))) pss_nil)
      (pss_cons (ps_if (pt_cmpR op_eq (pv 4) pe_str (nomark _)) (pss_one (ps_ret (pe_tupN (pa_cons (pv 4) (pa_cons (pe_call (ok__law_places T) (hr.mono (by omega)) rfl T.g__law_places T.F__law_places.kp T.b__law_places .nil passN (pa_cons (pv 0) (pa_cons (pv 1) pa_nil))) (pa_cons (pv 5) pa_nil)))))) pss_nil)
      (pss_one (ps_ret (pe_tupN (pa_cons (pv 4) (pa_cons (pv 5) (pa_cons (pe_call ih__law_aim hr rfl T.g__law_aim T.F__law_aim.kp T.b__law_aim .nil passN (pa_cons (pv 0) (pa_cons (pv 1) (pa_cons (pv 2) (pa_cons (pe_op op_sub (pv 3) pe_int) pa_nil))))) pa_nil)))))))))))),
      (sSeq (sIfS (sOr (sTest (sOp roEq sVar sInt)) (sTest (sOp roEq (sCall (sCons sVar (sCons sInt sNil))) sInt))) (sRet (sCall (sCons sVar (sCons sVar (sCons sVar sNil))))) sNext)
      (sSeq (sAsg (sOp roIxL (sLst (sCons sStr (sCons sStr (sCons sStr (sCons sStr (sCons sStr (sCons sStr (sCons sStr sNil)))))))) (sCall (sCons sVar (sCons sInt sNil)))) sName)
      (sSeq (sAsg (sCall (sCons sVar (sCons sVar (sCons sVar (sCons (sOp roInt0 sVar sInt) sNil))))) sName)
      (sSeq (sIfS (sTest (sOp (roIn (neg := false)) sVar (sLst (sCons sStr (sCons sStr sNil))))) (sRet (sTup (sCons sVar (sCons sVar sNil)))) sNext)
      (sSeq (sIfS (sTest (sOp roEq sVar sStr)) (sRet (sTup (sCons sVar (sCons (sCB rcTuple (sCons (sLc (siR1 sVar) (gwName List.mem_cons_self) (fun _ _ _ => sName) (fun _ _ _ => sYes) (fun _ _ _ => (sCall (sCons sVar (sCons sVar sNil))))) sNil)) (sCons sVar sNil))))) sNext)
      (sSeq (sIfS (sTest (sOp roEq sVar sStr)) (sRet (sTup (sCons sVar (sCons (sCall (sCons sVar (sCons sVar sNil))) (sCons sVar sNil))))) sNext)
      (sRet (sTup (sCons sVar (sCons sVar (sCons (sCall (sCons sVar (sCons sVar (sCons sVar (sCons (sOp roInt0 sVar sInt) sNil))))) sNil)))))))))))⟩) (fun ds μ Φ Ψ h => ?hv)
  case hv =>
    obtain ⟨st, ns, c, nn, k, L, rfl, hL1, hLm, hst, hc, hs, hsm, h⟩ := h
    refine seq_cut fun M hM => ?_
    walk_at "wp"
    refine ⟨fun e => ⟨st, ns, c, nn, k, rfl, hst, hc, hs, hsm, fun a c' ha hd sc => ret_same (h a c' ha (by omega) sc)⟩, fun e => ⟨st, ns, c, 2, rfl, hst, hc, by decide, by decide, fun r c' r0 r1 sc => ?_⟩⟩
    walk_at "wp"
    refine ⟨fun _ => ⟨st, ns, c', nn, k, rfl, sset_same, sc, hs, hsm, fun a c2 ha hd sc2 => ret_same (by rw [sset_sset]; exact h a c2 ha (by omega) sc2)⟩, fun _ => ?_⟩
    have hL2 : 2 ≤ L := by omega
    have eL : (L : Int) - 1 = ((L - 1 : Nat) : Int) := by omega
    clear r0 r1
    rw [hM]
    clear hM M
    refine seq_cut fun M hM => ?_
    walk_at "wp"
    refine ⟨by decide, st, ns, c', 7, rfl, sset_same, sc, by decide, by decide, fun r c2 r0 r1 sc2 => ?_⟩
    have hr : r.toNat < W7.length := by show r.toNat < 7; omega
    refine ⟨W7.map .str, r, .str W7[r.toNat], .lst _, rfl, rfl, atI_map r0 hr, ?_⟩
    have hw := List.getElem_mem hr
    generalize W7[r.toNat] = w' at hw
    clear hr r0 r1
    rw [hM, sset_sset]
    clear hM M
    refine seq_cut fun M hM => ?_
    walk_at "wp"
    rw [eL]
    refine ⟨st, ns, c2, nn, k, L - 1, rfl, by omega, by omega, sset_same, sc2, hs, hsm, fun a1 c3 ha1 hd1 sc3 => ?_⟩
    rw [hM, sset_sset]
    clear hM M
    refine seq_cut fun M hM => ?_
    walk_at "wp"
    refine ⟨by decide, in_S (l := ["not", "first"]) ?_⟩
    refine ⟨_, rfl, fun hb => ⟨by decide, ret_same ?_⟩, fun hb => ?_⟩
    · have hb2 : w' = "not" ∨ w' = "first" := by simpa using hb
      rcases hb2 with e | e
      · rw [e]; exact h (.not a1) c3 ha1 (by simp only [Am.dep]; omega) sc3
      · rw [e]; exact h (.first a1) c3 ha1 (by simp only [Am.dep]; omega) sc3
    · rw [hM]
      clear hM M
      have k4 := hs.k4
      have k1 := hs.k1
      have n64 := hs.n64
      walk_at "wps"
      refine ⟨fun e => ⟨by omega, by omega, lcNum (lim := k) (ns := ns) (by omega) sset_same sc3 (fun i μ2 X c4 hs4 sc4 hx => ?_) (fun l c4 hl sc4 => ?_)⟩, fun e1 => ⟨fun e => ?_, fun e2 => ?_⟩⟩
      · walk_at "wps"
        exact ⟨st, ns, c4, k, rfl, hs4, sc4, by omega, by rw [Int.natAbs_natCast]; have := Nat.log2_le_self k; omega, fun y c5 y0 y1 sc5 => hx y c5 sc5 y0 y1⟩
      · refine ⟨_, .lst _, by decide, ret_same ?_⟩
        rw [sset_sset, e]
        exact h (.recode l a1) c4 ⟨hl, ha1⟩ (by simp only [Am.dep]; omega) sc4
      · refine ⟨st, ns, c3, nn, rfl, sset_same, sc3, by omega, fun l c4 hl nd sc4 => ⟨by decide, ret_same ?_⟩⟩
        rw [sset_sset, e]
        exact h (.reorder l a1) c4 ⟨hl, nd, ha1⟩ (by simp only [Am.dep]; omega) sc4
      · rw [eL]
        refine ⟨st, ns, c3, nn, k, L - 1, rfl, by omega, by omega, sset_same, sc3, hs, hsm, fun a2 c4 ha2 hd2 sc4 => ⟨by decide, ret_same ?_⟩⟩
        rw [sset_sset]
        have hw2 : w' = "either" ∨ w' = "both" ∨ w' = "else" := by
          simp [W7] at hw hb
          rcases hw with q | q | q | q | q | q | q <;> first | (exact absurd q hb.1) | (exact absurd q hb.2) | (exact absurd q e1) | (exact absurd q e2) | (simp [q])
        rcases hw2 with q | q | q
        · rw [q]; exact h (.either a1 a2) c4 ⟨ha1, ha2⟩ (by simp only [Am.dep]; omega) sc4
        · rw [q]; exact h (.both a1 a2) c4 ⟨ha1, ha2⟩ (by simp only [Am.dep]; omega) sc4
        · rw [q]; exact h (.els a1 a2) c4 ⟨ha1, ha2⟩ (by simp only [Am.dep]; omega) sc4
end
section
variable {P : Program} {w : World} {K : Fg} {mg : Str → Option Value} {base : Heap}
def simpleA : Am → Bool
  | .any | .best _ | .second _ | .most | .fewest | .fixed | .like _ | .unlike _ | .among _ => true
  | _ => false
def SgC (w : List D → D) : Con := fun ds μ Φ _ => ∃ (n k x : Nat) (a : Am) (c : List Int), ds = [a.d, w (c.map .int), .int (c.getD x 0), .int x] ∧ simpleA a = true ∧ AmOk n k a ∧ CtxOk n k c ∧ x < n ∧ Φ (.bl (isG k a c x)) μ
theorem SgC.len {w : List D → D} {ds μ Φ Ψ} (h : SgC w ds μ Φ Ψ) : ds.length = 4 := by obtain ⟨_, _, _, _, _, rfl, _⟩ := h; rfl
theorem rng_getD (ws : List Int) : (List.range ws.length).map (fun i => ws.getD i 0) = ws := by
  apply List.ext_getElem
  · simp
  · intro i h1 h2
    simp at h1
    simp [List.getD_eq_getElem?_getD, List.getElem?_eq_getElem h1]
section
variable {Ψ : XP} {Φ : DK} {n : Nat} {θ : DT} {φ : DE} {δw : DEnv} {μ1 : Sto}
theorem lcZf {ws : List Int} (p : Int → Bool) (f : Int → D) (hz : ws.length ≤ 100000)
    (hs : ∀ (z : Int) (μ2 : Sto) (X : DK) (Y : Sto → Prop), z ∈ ws → Sub μ1 μ2 → (p z = true → X (f z) μ2) → (p z = false → Y μ2) →
      θ Ψ (δw.set n (some (.int z))) μ2 fun b μ4 => (b = true → φ Ψ (δw.set n (some (.int z))) μ4 X) ∧ (b = false → Y μ4))
    (hd : Φ (.lst ((ws.filter p).map f)) μ1) : LcG (eName n) θ φ δw Ψ (ws.map .int) μ1 Φ := by
  have hl : (ws.map D.int).length = ws.length := List.length_map ..
  refine lcG_pure (fun i => p (ws.getD i 0)) (fun i => f (ws.getD i 0)) (by rw [hl]; exact hz) (fun i d μ2 X Y hi hsub hx hy => ?_) ?_
  · obtain ⟨z, e, rfl⟩ := mapI_get hi
    rw [List.getD_eq_getElem?_getD, e] at hx hy
    exact hs z μ2 X Y (List.mem_of_getElem? e) hsub hx hy
  · have : givenD (ws.map D.int).length (fun i => p (ws.getD i 0)) (fun i => f (ws.getD i 0)) = (ws.filter p).map f := by
      unfold givenD
      rw [hl]
      conv => rhs; rw [← rng_getD ws, List.filter_map, List.map_map]
      rfl
    rw [this]; exact hd
theorem all_lc {c : List Int} {p : Int → Bool} {μ : Sto} {Φ : DK} (h : Φ (.bl (c.all p)) μ) : cAll [.lst (c.map fun s => D.bl (p s))] μ Φ :=
  w_allB (P := c.map p) (by rw [List.map_map]; rfl) (by rw [List.all_map]; exact h)
end
def c__law_simple_good_T : Con := SgC .tup
theorem len__law_simple_good_T {ds μ Φ Ψ} (h : c__law_simple_good_T ds μ Φ Ψ) : ds.length = 4 := h.len
theorem ok__law_simple_good_T (T : Txt P w K mg) : FnOk P w K mg base (L2N.CX P w) 1 T.f__law_simple_good T.d__law_simple_good ["_law_term", "_law_context_here", "_law_mine", "_law_x"] (spOf K c__law_simple_good_T) := by
  refine def_okC T.F__law_simple_good sc__law_simple_good _ (fun ds μ Φ Ψ h => len__law_simple_good_T h) (fun cdv A outer s H E B hW hr =>
    have tk : L2N.Takes (cxOf (L2N.CX P w) P w K mg base N__law_simple_good "_law_simple_good" (defScope s__law_simple_good) T.f__law_simple_good cdv A outer s H E) (fun cls d _ H => E cls d H) := L2N.takes_of rfl rfl rfl rfl
    ⟨_, (pss_cons (ps_set (i := 4) sc__law_simple_good.nd rfl (Or.inl rfl) (pe_ix ix_tup (pv 0) pe_int (fun _ _ => rfl)))
      (pss_cons (ps_if (pt_cmpR op_eq (pv 4) pe_str (nomark _)) (pss_one (ps_ret (pe_callB (cr_all rfl) (by rfl) T.z_all (by decide +kernel) (pa_cons (pe_lc (own := [("_law_r", 7)]) rfl sc__law_simple_good.nd (pi_tup (pv 1)) (blkOk_by (N := N__law_simple_good) (sc := defScope s__law_simple_good) (by decide +kernel)) (fun _ _ _ _ _ => (pg_name (i := 7) sc__law_simple_good.nd rfl (Or.inl rfl))) (fun _ _ _ _ _ => pts_nil) (fun _ _ _ _ _ => (pe_cmpR op_ge (pe_ix ix_tup (pe_ix ix_tup (pv 0) pe_int (fun _ _ => rfl)) (pv 2) (fun _ _ => rfl)) (pe_ix ix_tup (pe_ix ix_tup (pv 0) pe_int (fun _ _ => rfl)) (pv 7) (fun _ _ => rfl)) (nomark _)))) pa_nil)))) pss_nil)
      (pss_cons (ps_if (pt_cmpR op_eq (pv 4) pe_str (nomark _)) (pss_cons (ps_set (i := 5) sc__law_simple_good.nd rfl (Or.inr rfl) (pe_lc (own := [("_law_r", 7)]) rfl sc__law_simple_good.nd (pi_tup (pv 1)) (blkOk_by (N := N__law_simple_good) (sc := defScope s__law_simple_good) (by decide +kernel)) (fun _ _ _ _ _ => (pg_name (i := 7) sc__law_simple_good.nd rfl (Or.inl rfl))) (fun _ _ _ _ _ => (pts_one (pt_cmpR op_gt (pe_ix ix_tup (pe_ix ix_tup (pv 0) pe_int (fun _ _ => rfl)) (pv 7) (fun _ _ => rfl)) (pe_ix ix_tup (pe_ix ix_tup (pv 0) pe_int (fun _ _ => rfl)) (pv 2) (fun _ _ => rfl)) (nomark _)))) (fun _ _ _ _ _ => (pe_ix ix_tup (pe_ix ix_tup (pv 0) pe_int (fun _ _ => rfl)) (pv 7) (fun _ _ => rfl)))))
      (pss_cons (ps_set (i := 6) sc__law_simple_good.nd rfl (Or.inl rfl) (pe_callB (cr_all rfl) (by rfl) T.z_all (by decide +kernel) (pa_cons (pe_lc (own := [("_law_r", 7)]) rfl sc__law_simple_good.nd (pi_tup (pv 1)) (blkOk_by (N := N__law_simple_good) (sc := defScope s__law_simple_good) (by decide +kernel)) (fun _ _ _ _ _ => (pg_name (i := 7) sc__law_simple_good.nd rfl (Or.inl rfl))) (fun _ _ _ _ _ => pts_nil) (fun _ _ _ _ _ => (pe_cmpR op_eq (pe_ix ix_tup (pe_ix ix_tup (pv 0) pe_int (fun _ _ => rfl)) (pv 2) (fun _ _ => rfl)) (pe_ix ix_tup (pe_ix ix_tup (pv 0) pe_int (fun _ _ => rfl)) (pv 7) (fun _ _ => rfl)) (nomark _)))) pa_nil)))
      (pss_one (ps_ret (pe_or (pv 6) (pe_one (pe_and (pe_cmpR op_gt (pe_callB call_len_seq (by rfl) T.z_len PySem.boot_len (pa_cons (pv 5) pa_nil)) pe_int (nomark _)) (pe_one (pe_callB (cr_all rfl) (by rfl) T.z_all (by decide +kernel) (pa_cons (pe_lc (own := [("_law_rank", 8)]) rfl sc__law_simple_good.nd (pi_list (pv 5)) (blkOk_by (N := N__law_simple_good) (sc := defScope s__law_simple_good) (by decide +kernel)) (fun _ _ _ _ _ => (pg_name (i := 8) sc__law_simple_good.nd rfl (Or.inl rfl))) (fun _ _ _ _ _ => pts_nil) (fun _ _ _ _ _ => (pe_cmpR op_eq (pv 8) (pe_ix ix_list (pv 5) pe_int (fun _ _ => rfl)) (nomark _)))) pa_nil)))))))))) pss_nil)
      (pss_cons (ps_if (pt_cmpR op_eq (pv 4) pe_str (nomark _)) (pss_one (ps_ret (pe_callB (cr_all rfl) (by rfl) T.z_all (by decide +kernel) (pa_cons (pe_lc (own := [("_law_r", 7)]) rfl sc__law_simple_good.nd (pi_tup (pv 1)) (blkOk_by (N := N__law_simple_good) (sc := defScope s__law_simple_good) (by decide +kernel)) (fun _ _ _ _ _ => (pg_name (i := 7) sc__law_simple_good.nd rfl (Or.inl rfl))) (fun _ _ _ _ _ => pts_nil) (fun _ _ _ _ _ => (pe_cmpR op_ge (pe_bmT PySem.F.plainAttrs_tuple PySem.F.slot_tuple_count PySem.F.type_tuple_count mt_tcount (pv 1) (pa_cons (pv 2) pa_nil)) (pe_bmT PySem.F.plainAttrs_tuple PySem.F.slot_tuple_count PySem.F.type_tuple_count mt_tcount (pv 1) (pa_cons (pv 7) pa_nil)) (nomark _)))) pa_nil)))) pss_nil)
      (pss_cons (ps_if (pt_cmpR op_eq (pv 4) pe_str (nomark _)) (pss_one (ps_ret (pe_callB (cr_all rfl) (by rfl) T.z_all (by decide +kernel) (pa_cons (pe_lc (own := [("_law_r", 7)]) rfl sc__law_simple_good.nd (pi_tup (pv 1)) (blkOk_by (N := N__law_simple_good) (sc := defScope s__law_simple_good) (by decide +kernel)) (fun _ _ _ _ _ => (pg_name (i := 7) sc__law_simple_good.nd rfl (Or.inl rfl))) (fun _ _ _ _ _ => pts_nil) (fun _ _ _ _ _ => (pe_cmpR op_le (pe_bmT PySem.F.plainAttrs_tuple PySem.F.slot_tuple_count PySem.F.type_tuple_count mt_tcount (pv 1) (pa_cons (pv 2) pa_nil)) (pe_bmT PySem.F.plainAttrs_tuple PySem.F.slot_tuple_count PySem.F.type_tuple_count mt_tcount (pv 1) (pa_cons (pv 7) pa_nil)) (nomark _)))) pa_nil)))) pss_nil)
      (pss_cons (ps_if (pt_cmpR op_eq (pv 4) pe_str (nomark _)) (pss_one (ps_ret (pe_cmpR op_eq (pv 2) (pv 3) (nomark _)))) pss_nil)
      (pss_cons (ps_if (pt_cmpR op_eq (pv 4) pe_str (nomark _)) (pss_one (ps_ret (pe_cmpR op_eq (pv 2) (pe_ix ix_tup (pv 1) (pe_ix ix_tup (pv 0) pe_int (fun _ _ => rfl)) (fun _ _ => rfl)) (nomark _)))) pss_nil)
      (pss_cons (ps_if (pt_cmpR op_eq (pv 4) pe_str (nomark _)) (pss_one (ps_ret (pe_cmpR op_ne (pv 2) (pe_ix ix_tup (pv 1) (pe_ix ix_tup (pv 0) pe_int (fun _ _ => rfl)) (fun _ _ => rfl)) (nomark _)))) pss_nil)
      (pss_cons (ps_if (pt_cmpR op_eq (pv 4) pe_str (nomark _)) (pss_one (ps_ret (pe_cmpR op_in_seq (pv 2) (pe_ix ix_tup (pv 0) pe_int (fun _ _ => rfl)) (by with_unfolding_all rfl)))) pss_nil)
      (pss_one (ps_ret pe_bl))))))))))),
      (sSeq (sAsg (sOp roIxT sVar sInt) sName)
      (sSeq (sIfS (sTest (sOp roEq sVar sStr)) (sRet (sCB rcAll (sCons (sLc (siT sVar) (gwName List.mem_cons_self) (fun _ _ _ => sName) (fun _ _ _ => sYes) (fun _ _ _ => (sOp roBl0 (sOp roIxT (sOp roIxT sVar sInt) sVar) (sOp roIxT (sOp roIxT sVar sInt) sVar)))) sNil))) sNext)
      (sSeq (sIfS (sTest (sOp roEq sVar sStr)) (sSeq (sAsg (sLc (siT sVar) (gwName List.mem_cons_self) (fun _ _ _ => sName) (fun _ _ _ => (sTest (sOp roBl0 (sOp roIxT (sOp roIxT sVar sInt) sVar) (sOp roIxT (sOp roIxT sVar sInt) sVar)))) (fun _ _ _ => (sOp roIxT (sOp roIxT sVar sInt) sVar))) sName)
      (sSeq (sAsg (sCB rcAll (sCons (sLc (siT sVar) (gwName List.mem_cons_self) (fun _ _ _ => sName) (fun _ _ _ => sYes) (fun _ _ _ => (sOp roEq (sOp roIxT (sOp roIxT sVar sInt) sVar) (sOp roIxT (sOp roIxT sVar sInt) sVar)))) sNil)) sName)
      (sRet (sOrV sVar (sAndV (sOp roBl0 (sCB rcLen (sCons sVar sNil)) sInt) (sCB rcAll (sCons (sLc (siL sVar) (gwName List.mem_cons_self) (fun _ _ _ => sName) (fun _ _ _ => sYes) (fun _ _ _ => (sOp roEq sVar (sOp roIxL sVar sInt)))) sNil))))))) sNext)
      (sSeq (sIfS (sTest (sOp roEq sVar sStr)) (sRet (sCB rcAll (sCons (sLc (siT sVar) (gwName List.mem_cons_self) (fun _ _ _ => sName) (fun _ _ _ => sYes) (fun _ _ _ => (sOp roBl0 (sCntT sVar sVar) (sCntT sVar sVar)))) sNil))) sNext)
      (sSeq (sIfS (sTest (sOp roEq sVar sStr)) (sRet (sCB rcAll (sCons (sLc (siT sVar) (gwName List.mem_cons_self) (fun _ _ _ => sName) (fun _ _ _ => sYes) (fun _ _ _ => (sOp roBl0 (sCntT sVar sVar) (sCntT sVar sVar)))) sNil))) sNext)
      (sSeq (sIfS (sTest (sOp roEq sVar sStr)) (sRet (sOp roEq sVar sVar)) sNext)
      (sSeq (sIfS (sTest (sOp roEq sVar sStr)) (sRet (sOp roEq sVar (sOp roIxT sVar (sOp roIxT sVar sInt)))) sNext)
      (sSeq (sIfS (sTest (sOp roEq sVar sStr)) (sRet (sOp roNe sVar (sOp roIxT sVar (sOp roIxT sVar sInt)))) sNext)
      (sSeq (sIfS (sTest (sOp roEq sVar sStr)) (sRet (sOp (roIn (neg := false)) sVar (sOp roIxT sVar sInt))) sNext)
      (sRet sBl))))))))))⟩) (fun ds μ Φ Ψ h => ?hv)
  case hv =>
    obtain ⟨n, k, x, a, c, rfl, hsim, ha, hc, hx, h⟩ := h
    have hl := hc.len
    have h64 := hc.n64
    have hxl : x < c.length := by omega
    have hxm : c.getD x 0 ∈ c := by rw [List.getD_eq_getElem?_getD, List.getElem?_eq_getElem hxl]; exact List.getElem_mem hxl
    have rk : ∀ (r : List Int) (m : Nat), r.length = k → ∀ z ∈ c, atI (r.map D.int) z = some (.int (at' r z)) := fun r m hr z hz => by
      have hr2 : z.toNat < r.length := by have := hc.lo z hz; have := hc.hi z hz; rw [hr]; omega
      rw [atI_map (hc.lo z hz) hr2]
      unfold at'
      rw [getD_of (List.getElem?_eq_getElem hr2)]
    cases a <;> simp only [simpleA, Bool.false_eq_true] at hsim
    all_goals simp only [Am.d, Am.iT]
    all_goals walk_at "wps"
    all_goals simp (config := { decide := true }) only [false_implies, true_implies, and_true, true_and, not_true_eq_false, not_false_eq_true]
    case any => exact ret_same h
    case best r =>
      refine lcZ (fun s => .bl (decide (at' r s ≤ at' r (c.getD x 0)))) (by omega) (fun s μ2 X hs hsub hx => ?_) (all_lc (p := fun s => decide (at' r s ≤ at' r (c.getD x 0))) (ret_same h))
      walk_at "wps"
      refine ⟨_, rk r 0 ha.1 _ hxm, _, rk r 0 ha.1 _ hs, ?_⟩
      walk_at "wps"
      exact hx
    case second r =>
      refine lcZf (fun s => decide (at' r (c.getD x 0) < at' r s)) (fun s => .int (at' r s)) (by omega) (fun s μ2 X Y hs hsub hx hy => ?_) ?_
      · walk_at "wps"
        refine ⟨_, rk r 0 ha.1 _ hs, _, rk r 0 ha.1 _ hxm, ?_⟩
        walk_at "wps"
        exact ⟨fun q => ⟨_, rk r 0 ha.1 _ hs, hx (decide_eq_true q)⟩, fun q => hy (decide_eq_false q)⟩
      · refine lcZ (fun s => .bl (at' r (c.getD x 0) == at' r s)) (by omega) (fun s μ2 X hs hsub hx => ?_) (all_lc (p := fun s => at' r (c.getD x 0) == at' r s) ?_)
        · walk_at "wps"
          refine ⟨_, rk r 0 ha.1 _ hxm, _, rk r 0 ha.1 _ hs, ?_⟩
          walk_at "wps"
          exact hx
        · have efl : (c.filter fun s => decide (at' r (c.getD x 0) < at' r s)).map (fun s => D.int (at' r s)) = ((c.map (at' r)).filter fun s => decide (at' r (c.getD x 0) < s)).map .int := by
            rw [List.filter_map, List.map_map]; rfl
          rw [efl]
          simp only [isG] at h
          generalize ha' : (c.map (at' r)).filter (fun s => decide (at' r (c.getD x 0) < s)) = ab at h ⊢
          have hab : ab.length ≤ c.length := by rw [← ha']; exact Nat.le_trans (List.length_filter_le _ _) (by rw [List.length_map]; exact Nat.le_refl _)
          refine ⟨_, rfl, fun q => ret_same ?_, fun q => ⟨_, .lst _, fun q2 => ⟨_, rfl, ?_⟩, fun q2 => ret_same ?_⟩⟩
          · rw [q, Bool.true_or] at h; exact h
          · have q3 : 0 < ab.length := by rw [List.length_map] at q2; omega
            refine lcZ (fun s => .bl (s == ab.getD 0 0)) (by omega) (fun s μ2 X hs hsub hx => ?_) (all_lc (p := fun s => s == ab.getD 0 0) (ret_same ?_))
            · walk_at "wps"
              have e0 : atI (ab.map D.int) 0 = some (.int (ab.getD 0 0)) := by
                rw [atI_map (i := 0) (by decide) q3]
                congr 2
                rw [getD_of (List.getElem?_eq_getElem q3)]
                rfl
              refine ⟨_, e0, ?_⟩
              walk_at "wps"
              exact hx
            · rw [q, Bool.false_or, decide_eq_true q3, Bool.true_and] at h; exact h
          · have q3 : ¬ 0 < ab.length := by rw [List.length_map] at q2; omega
            rw [q, Bool.false_or, decide_eq_false q3, Bool.false_and] at h; exact h
    case most =>
      refine lcZ (fun s => .bl (decide (c.count s ≤ c.count (c.getD x 0)))) (by omega) (fun s μ2 X hs hsub hx => ?_) (all_lc (p := fun s => decide (c.count s ≤ c.count (c.getD x 0))) (ret_same h))
      walk_at "wps"
      refine ⟨c, rfl, c, rfl, ?_⟩
      simp only [Int.ofNat_le]
      exact hx
    case fewest =>
      refine lcZ (fun s => .bl (decide (c.count (c.getD x 0) ≤ c.count s))) (by omega) (fun s μ2 X hs hsub hx => ?_) (all_lc (p := fun s => decide (c.count (c.getD x 0) ≤ c.count s)) (ret_same h))
      walk_at "wps"
      refine ⟨c, rfl, c, rfl, ?_⟩
      simp only [Int.ofNat_le]
      exact hx
    case fixed => exact ret_same h
    case like i =>
      have hr : i < c.length := by rw [hl]; exact ha
      refine ⟨.int c[i], atI_nat (by rw [List.getElem?_map, List.getElem?_eq_getElem hr]; rfl), ?_⟩
      walk_at "wps"
      refine ret_same ?_
      simp only [isG, getD_of (List.getElem?_eq_getElem hr)] at h
      exact h
    case unlike i =>
      have hr : i < c.length := by rw [hl]; exact ha
      refine ⟨.int c[i], atI_nat (by rw [List.getElem?_map, List.getElem?_eq_getElem hr]; rfl), ?_⟩
      walk_at "wps"
      refine ret_same ?_
      simp only [isG, getD_of (List.getElem?_eq_getElem hr)] at h
      exact h
    case among l => exact in_I (ret_same h)
def c__law_simple_good_L : Con := SgC .lst
theorem len__law_simple_good_L {ds μ Φ Ψ} (h : c__law_simple_good_L ds μ Φ Ψ) : ds.length = 4 := h.len
theorem ok__law_simple_good_L (T : Txt P w K mg) : FnOk P w K mg base (L2N.CX P w) 1 T.f__law_simple_good T.d__law_simple_good ["_law_term", "_law_context_here", "_law_mine", "_law_x"] (spOf K c__law_simple_good_L) := by
  refine def_okC T.F__law_simple_good sc__law_simple_good _ (fun ds μ Φ Ψ h => len__law_simple_good_L h) (fun cdv A outer s H E B hW hr =>
    have tk : L2N.Takes (cxOf (L2N.CX P w) P w K mg base N__law_simple_good "_law_simple_good" (defScope s__law_simple_good) T.f__law_simple_good cdv A outer s H E) (fun cls d _ H => E cls d H) := L2N.takes_of rfl rfl rfl rfl
    ⟨_, (pss_cons (ps_set (i := 4) sc__law_simple_good.nd rfl (Or.inl rfl) (pe_ix ix_tup (pv 0) pe_int (fun _ _ => rfl)))
      (pss_cons (ps_if (pt_cmpR op_eq (pv 4) pe_str (nomark _)) (pss_one (ps_ret (pe_callB (cr_all rfl) (by rfl) T.z_all (by decide +kernel) (pa_cons (pe_lc (own := [("_law_r", 7)]) rfl sc__law_simple_good.nd (pi_list (pv 1)) (blkOk_by (N := N__law_simple_good) (sc := defScope s__law_simple_good) (by decide +kernel)) (fun _ _ _ _ _ => (pg_name (i := 7) sc__law_simple_good.nd rfl (Or.inl rfl))) (fun _ _ _ _ _ => pts_nil) (fun _ _ _ _ _ => (pe_cmpR op_ge (pe_ix ix_tup (pe_ix ix_tup (pv 0) pe_int (fun _ _ => rfl)) (pv 2) (fun _ _ => rfl)) (pe_ix ix_tup (pe_ix ix_tup (pv 0) pe_int (fun _ _ => rfl)) (pv 7) (fun _ _ => rfl)) (nomark _)))) pa_nil)))) pss_nil)
      (pss_cons (ps_if (pt_cmpR op_eq (pv 4) pe_str (nomark _)) (pss_cons (ps_set (i := 5) sc__law_simple_good.nd rfl (Or.inr rfl) (pe_lc (own := [("_law_r", 7)]) rfl sc__law_simple_good.nd (pi_list (pv 1)) (blkOk_by (N := N__law_simple_good) (sc := defScope s__law_simple_good) (by decide +kernel)) (fun _ _ _ _ _ => (pg_name (i := 7) sc__law_simple_good.nd rfl (Or.inl rfl))) (fun _ _ _ _ _ => (pts_one (pt_cmpR op_gt (pe_ix ix_tup (pe_ix ix_tup (pv 0) pe_int (fun _ _ => rfl)) (pv 7) (fun _ _ => rfl)) (pe_ix ix_tup (pe_ix ix_tup (pv 0) pe_int (fun _ _ => rfl)) (pv 2) (fun _ _ => rfl)) (nomark _)))) (fun _ _ _ _ _ => (pe_ix ix_tup (pe_ix ix_tup (pv 0) pe_int (fun _ _ => rfl)) (pv 7) (fun _ _ => rfl)))))
      (pss_cons (ps_set (i := 6) sc__law_simple_good.nd rfl (Or.inl rfl) (pe_callB (cr_all rfl) (by rfl) T.z_all (by decide +kernel) (pa_cons (pe_lc (own := [("_law_r", 7)]) rfl sc__law_simple_good.nd (pi_list (pv 1)) (blkOk_by (N := N__law_simple_good) (sc := defScope s__law_simple_good) (by decide +kernel)) (fun _ _ _ _ _ => (pg_name (i := 7) sc__law_simple_good.nd rfl (Or.inl rfl))) (fun _ _ _ _ _ => pts_nil) (fun _ _ _ _ _ => (pe_cmpR op_eq (pe_ix ix_tup (pe_ix ix_tup (pv 0) pe_int (fun _ _ => rfl)) (pv 2) (fun _ _ => rfl)) (pe_ix ix_tup (pe_ix ix_tup (pv 0) pe_int (fun _ _ => rfl)) (pv 7) (fun _ _ => rfl)) (nomark _)))) pa_nil)))
      (pss_one (ps_ret (pe_or (pv 6) (pe_one (pe_and (pe_cmpR op_gt (pe_callB call_len_seq (by rfl) T.z_len PySem.boot_len (pa_cons (pv 5) pa_nil)) pe_int (nomark _)) (pe_one (pe_callB (cr_all rfl) (by rfl) T.z_all (by decide +kernel) (pa_cons (pe_lc (own := [("_law_rank", 8)]) rfl sc__law_simple_good.nd (pi_list (pv 5)) (blkOk_by (N := N__law_simple_good) (sc := defScope s__law_simple_good) (by decide +kernel)) (fun _ _ _ _ _ => (pg_name (i := 8) sc__law_simple_good.nd rfl (Or.inl rfl))) (fun _ _ _ _ _ => pts_nil) (fun _ _ _ _ _ => (pe_cmpR op_eq (pv 8) (pe_ix ix_list (pv 5) pe_int (fun _ _ => rfl)) (nomark _)))) pa_nil)))))))))) pss_nil)
      (pss_cons (ps_if (pt_cmpR op_eq (pv 4) pe_str (nomark _)) (pss_one (ps_ret (pe_callB (cr_all rfl) (by rfl) T.z_all (by decide +kernel) (pa_cons (pe_lc (own := [("_law_r", 7)]) rfl sc__law_simple_good.nd (pi_list (pv 1)) (blkOk_by (N := N__law_simple_good) (sc := defScope s__law_simple_good) (by decide +kernel)) (fun _ _ _ _ _ => (pg_name (i := 7) sc__law_simple_good.nd rfl (Or.inl rfl))) (fun _ _ _ _ _ => pts_nil) (fun _ _ _ _ _ => (pe_cmpR op_ge (pe_bm PySem.F.plainAttrs_list PySem.F.slot_list_count PySem.F.type_list_count mt_lcount (pv 1) (pa_cons (pv 2) pa_nil)) (pe_bm PySem.F.plainAttrs_list PySem.F.slot_list_count PySem.F.type_list_count mt_lcount (pv 1) (pa_cons (pv 7) pa_nil)) (nomark _)))) pa_nil)))) pss_nil)
      (pss_cons (ps_if (pt_cmpR op_eq (pv 4) pe_str (nomark _)) (pss_one (ps_ret (pe_callB (cr_all rfl) (by rfl) T.z_all (by decide +kernel) (pa_cons (pe_lc (own := [("_law_r", 7)]) rfl sc__law_simple_good.nd (pi_list (pv 1)) (blkOk_by (N := N__law_simple_good) (sc := defScope s__law_simple_good) (by decide +kernel)) (fun _ _ _ _ _ => (pg_name (i := 7) sc__law_simple_good.nd rfl (Or.inl rfl))) (fun _ _ _ _ _ => pts_nil) (fun _ _ _ _ _ => (pe_cmpR op_le (pe_bm PySem.F.plainAttrs_list PySem.F.slot_list_count PySem.F.type_list_count mt_lcount (pv 1) (pa_cons (pv 2) pa_nil)) (pe_bm PySem.F.plainAttrs_list PySem.F.slot_list_count PySem.F.type_list_count mt_lcount (pv 1) (pa_cons (pv 7) pa_nil)) (nomark _)))) pa_nil)))) pss_nil)
      (pss_cons (ps_if (pt_cmpR op_eq (pv 4) pe_str (nomark _)) (pss_one (ps_ret (pe_cmpR op_eq (pv 2) (pv 3) (nomark _)))) pss_nil)
      (pss_cons (ps_if (pt_cmpR op_eq (pv 4) pe_str (nomark _)) (pss_one (ps_ret (pe_cmpR op_eq (pv 2) (pe_ix ix_list (pv 1) (pe_ix ix_tup (pv 0) pe_int (fun _ _ => rfl)) (fun _ _ => rfl)) (nomark _)))) pss_nil)
      (pss_cons (ps_if (pt_cmpR op_eq (pv 4) pe_str (nomark _)) (pss_one (ps_ret (pe_cmpR op_ne (pv 2) (pe_ix ix_list (pv 1) (pe_ix ix_tup (pv 0) pe_int (fun _ _ => rfl)) (fun _ _ => rfl)) (nomark _)))) pss_nil)
      (pss_cons (ps_if (pt_cmpR op_eq (pv 4) pe_str (nomark _)) (pss_one (ps_ret (pe_cmpR op_in_seq (pv 2) (pe_ix ix_tup (pv 0) pe_int (fun _ _ => rfl)) (by with_unfolding_all rfl)))) pss_nil)
      (pss_one (ps_ret pe_bl))))))))))),
      (sSeq (sAsg (sOp roIxT sVar sInt) sName)
      (sSeq (sIfS (sTest (sOp roEq sVar sStr)) (sRet (sCB rcAll (sCons (sLc (siL sVar) (gwName List.mem_cons_self) (fun _ _ _ => sName) (fun _ _ _ => sYes) (fun _ _ _ => (sOp roBl0 (sOp roIxT (sOp roIxT sVar sInt) sVar) (sOp roIxT (sOp roIxT sVar sInt) sVar)))) sNil))) sNext)
      (sSeq (sIfS (sTest (sOp roEq sVar sStr)) (sSeq (sAsg (sLc (siL sVar) (gwName List.mem_cons_self) (fun _ _ _ => sName) (fun _ _ _ => (sTest (sOp roBl0 (sOp roIxT (sOp roIxT sVar sInt) sVar) (sOp roIxT (sOp roIxT sVar sInt) sVar)))) (fun _ _ _ => (sOp roIxT (sOp roIxT sVar sInt) sVar))) sName)
      (sSeq (sAsg (sCB rcAll (sCons (sLc (siL sVar) (gwName List.mem_cons_self) (fun _ _ _ => sName) (fun _ _ _ => sYes) (fun _ _ _ => (sOp roEq (sOp roIxT (sOp roIxT sVar sInt) sVar) (sOp roIxT (sOp roIxT sVar sInt) sVar)))) sNil)) sName)
      (sRet (sOrV sVar (sAndV (sOp roBl0 (sCB rcLen (sCons sVar sNil)) sInt) (sCB rcAll (sCons (sLc (siL sVar) (gwName List.mem_cons_self) (fun _ _ _ => sName) (fun _ _ _ => sYes) (fun _ _ _ => (sOp roEq sVar (sOp roIxL sVar sInt)))) sNil))))))) sNext)
      (sSeq (sIfS (sTest (sOp roEq sVar sStr)) (sRet (sCB rcAll (sCons (sLc (siL sVar) (gwName List.mem_cons_self) (fun _ _ _ => sName) (fun _ _ _ => sYes) (fun _ _ _ => (sOp roBl0 (sCntL sVar sVar) (sCntL sVar sVar)))) sNil))) sNext)
      (sSeq (sIfS (sTest (sOp roEq sVar sStr)) (sRet (sCB rcAll (sCons (sLc (siL sVar) (gwName List.mem_cons_self) (fun _ _ _ => sName) (fun _ _ _ => sYes) (fun _ _ _ => (sOp roBl0 (sCntL sVar sVar) (sCntL sVar sVar)))) sNil))) sNext)
      (sSeq (sIfS (sTest (sOp roEq sVar sStr)) (sRet (sOp roEq sVar sVar)) sNext)
      (sSeq (sIfS (sTest (sOp roEq sVar sStr)) (sRet (sOp roEq sVar (sOp roIxL sVar (sOp roIxT sVar sInt)))) sNext)
      (sSeq (sIfS (sTest (sOp roEq sVar sStr)) (sRet (sOp roNe sVar (sOp roIxL sVar (sOp roIxT sVar sInt)))) sNext)
      (sSeq (sIfS (sTest (sOp roEq sVar sStr)) (sRet (sOp (roIn (neg := false)) sVar (sOp roIxT sVar sInt))) sNext)
      (sRet sBl))))))))))⟩) (fun ds μ Φ Ψ h => ?hv)
  case hv =>
    obtain ⟨n, k, x, a, c, rfl, hsim, ha, hc, hx, h⟩ := h
    have hl := hc.len
    have h64 := hc.n64
    have hxl : x < c.length := by omega
    have hxm : c.getD x 0 ∈ c := by rw [List.getD_eq_getElem?_getD, List.getElem?_eq_getElem hxl]; exact List.getElem_mem hxl
    have rk : ∀ (r : List Int) (m : Nat), r.length = k → ∀ z ∈ c, atI (r.map D.int) z = some (.int (at' r z)) := fun r m hr z hz => by
      have hr2 : z.toNat < r.length := by have := hc.lo z hz; have := hc.hi z hz; rw [hr]; omega
      rw [atI_map (hc.lo z hz) hr2]
      unfold at'
      rw [getD_of (List.getElem?_eq_getElem hr2)]
    cases a <;> simp only [simpleA, Bool.false_eq_true] at hsim
    all_goals simp only [Am.d, Am.iT]
    all_goals walk_at "wps"
    all_goals simp (config := { decide := true }) only [false_implies, true_implies, and_true, true_and, not_true_eq_false, not_false_eq_true]
    case any => exact ret_same h
    case best r =>
      refine lcZ (fun s => .bl (decide (at' r s ≤ at' r (c.getD x 0)))) (by omega) (fun s μ2 X hs hsub hx => ?_) (all_lc (p := fun s => decide (at' r s ≤ at' r (c.getD x 0))) (ret_same h))
      walk_at "wps"
      refine ⟨_, rk r 0 ha.1 _ hxm, _, rk r 0 ha.1 _ hs, ?_⟩
      walk_at "wps"
      exact hx
    case second r =>
      refine lcZf (fun s => decide (at' r (c.getD x 0) < at' r s)) (fun s => .int (at' r s)) (by omega) (fun s μ2 X Y hs hsub hx hy => ?_) ?_
      · walk_at "wps"
        refine ⟨_, rk r 0 ha.1 _ hs, _, rk r 0 ha.1 _ hxm, ?_⟩
        walk_at "wps"
        exact ⟨fun q => ⟨_, rk r 0 ha.1 _ hs, hx (decide_eq_true q)⟩, fun q => hy (decide_eq_false q)⟩
      · refine lcZ (fun s => .bl (at' r (c.getD x 0) == at' r s)) (by omega) (fun s μ2 X hs hsub hx => ?_) (all_lc (p := fun s => at' r (c.getD x 0) == at' r s) ?_)
        · walk_at "wps"
          refine ⟨_, rk r 0 ha.1 _ hxm, _, rk r 0 ha.1 _ hs, ?_⟩
          walk_at "wps"
          exact hx
        · have efl : (c.filter fun s => decide (at' r (c.getD x 0) < at' r s)).map (fun s => D.int (at' r s)) = ((c.map (at' r)).filter fun s => decide (at' r (c.getD x 0) < s)).map .int := by
            rw [List.filter_map, List.map_map]; rfl
          rw [efl]
          simp only [isG] at h
          generalize ha' : (c.map (at' r)).filter (fun s => decide (at' r (c.getD x 0) < s)) = ab at h ⊢
          have hab : ab.length ≤ c.length := by rw [← ha']; exact Nat.le_trans (List.length_filter_le _ _) (by rw [List.length_map]; exact Nat.le_refl _)
          refine ⟨_, rfl, fun q => ret_same ?_, fun q => ⟨_, .lst _, fun q2 => ⟨_, rfl, ?_⟩, fun q2 => ret_same ?_⟩⟩
          · rw [q, Bool.true_or] at h; exact h
          · have q3 : 0 < ab.length := by rw [List.length_map] at q2; omega
            refine lcZ (fun s => .bl (s == ab.getD 0 0)) (by omega) (fun s μ2 X hs hsub hx => ?_) (all_lc (p := fun s => s == ab.getD 0 0) (ret_same ?_))
            · walk_at "wps"
              have e0 : atI (ab.map D.int) 0 = some (.int (ab.getD 0 0)) := by
                rw [atI_map (i := 0) (by decide) q3]
                congr 2
                rw [getD_of (List.getElem?_eq_getElem q3)]
                rfl
              refine ⟨_, e0, ?_⟩
              walk_at "wps"
              exact hx
            · rw [q, Bool.false_or, decide_eq_true q3, Bool.true_and] at h; exact h
          · have q3 : ¬ 0 < ab.length := by rw [List.length_map] at q2; omega
            rw [q, Bool.false_or, decide_eq_false q3, Bool.false_and] at h; exact h
    case most =>
      refine lcZ (fun s => .bl (decide (c.count s ≤ c.count (c.getD x 0)))) (by omega) (fun s μ2 X hs hsub hx => ?_) (all_lc (p := fun s => decide (c.count s ≤ c.count (c.getD x 0))) (ret_same h))
      walk_at "wps"
      refine ⟨c, rfl, c, rfl, ?_⟩
      simp only [Int.ofNat_le]
      exact hx
    case fewest =>
      refine lcZ (fun s => .bl (decide (c.count (c.getD x 0) ≤ c.count s))) (by omega) (fun s μ2 X hs hsub hx => ?_) (all_lc (p := fun s => decide (c.count (c.getD x 0) ≤ c.count s)) (ret_same h))
      walk_at "wps"
      refine ⟨c, rfl, c, rfl, ?_⟩
      simp only [Int.ofNat_le]
      exact hx
    case fixed => exact ret_same h
    case like i =>
      have hr : i < c.length := by rw [hl]; exact ha
      refine ⟨.int c[i], atI_nat (by rw [List.getElem?_map, List.getElem?_eq_getElem hr]; rfl), ?_⟩
      walk_at "wps"
      refine ret_same ?_
      simp only [isG, getD_of (List.getElem?_eq_getElem hr)] at h
      exact h
    case unlike i =>
      have hr : i < c.length := by rw [hl]; exact ha
      refine ⟨.int c[i], atI_nat (by rw [List.getElem?_map, List.getElem?_eq_getElem hr]; rfl), ?_⟩
      walk_at "wps"
      refine ret_same ?_
      simp only [isG, getD_of (List.getElem?_eq_getElem hr)] at h
      exact h
    case among l => exact in_I (ret_same h)
end
section
variable {P : Program} {w : World} {K : Fg} {mg : Str → Option Value} {base : Heap}
theorem FnOk_or {P : Program} {w : World} {K : Fg} {mg : Str → Option Value} {base : Heap} {CX : CXT} {k : Nat} {f : Addr} {fd : FuncData} {ps : List Str} {c1 c2 : Con} (h1 : FnOk P w K mg base CX k f fd ps (spOf K c1)) (h2 : FnOk P w K mg base CX k f fd ps (spOf K c2)) : FnOk P w K mg base CX k f fd ps (spOf K fun ds μ Φ Ψ => c1 ds μ Φ Ψ ∨ c2 ds μ Φ Ψ) :=
  ⟨fun vs H Q E q => by
    obtain ⟨μ, ds, Φ, Ψ, s, r, hc, k⟩ := q
    rcases hc with hc | hc
    · exact h1.1 vs H Q E ⟨μ, ds, Φ, Ψ, s, r, hc, k⟩
    · exact h2.1 vs H Q E ⟨μ, ds, Φ, Ψ, s, r, hc, k⟩, fun A outer s H args us vs Q E a1 a2 a3 a4 q => by
    obtain ⟨μ, ds, Φ, Ψ, s, r, hc, k⟩ := q
    rcases hc with hc | hc
    · exact h1.2 A outer _ H args us vs Q E a1 a2 a3 a4 ⟨μ, ds, Φ, Ψ, s, r, hc, k⟩
    · exact h2.2 A outer _ H args us vs Q E a1 a2 a3 a4 ⟨μ, ds, Φ, Ψ, s, r, hc, k⟩⟩
def c__law_simple_good : Con := fun ds μ Φ Ψ => c__law_simple_good_T ds μ Φ Ψ ∨ c__law_simple_good_L ds μ Φ Ψ
section
variable {P : Program} {w : World} {K : Fg} {mg : Str → Option Value} {base : Heap}
theorem ok__law_simple_good (T : Txt P w K mg) : FnOk P w K mg base (L2N.CX P w) 1 T.f__law_simple_good T.d__law_simple_good ["_law_term", "_law_context_here", "_law_mine", "_law_x"] (spOf K c__law_simple_good) := FnOk_or (ok__law_simple_good_T T) (ok__law_simple_good_L T)
end
theorem goodL_opts (k : Nat) (a : Am) (c : List Int) : goodL k a c = (optsI c.length).filter fun z => isG k a c z.toNat := by
  unfold goodL optsI
  rw [List.filter_map]
  rfl
theorem goodL_has {k : Nat} {a : Am} {c : List Int} {z : Int} (h : z ∈ optsI c.length) : (goodL k a c).contains z = isG k a c z.toNat := by
  rw [Bool.eq_iff_iff, List.contains_iff_mem, goodL_opts, List.mem_filter]
  exact ⟨fun q => q.2, fun q => ⟨h, q⟩⟩
theorem goodL_le (k : Nat) (a : Am) (c : List Int) : (goodL k a c).length ≤ c.length := by
  rw [goodL_opts]
  exact Nat.le_trans (List.length_filter_le _ _) (by rw [optsI_len]; exact Nat.le_refl _)
theorem in_IL {z : Int} {l : List Int} {μ : Sto} {X : DK} (h : X (.bl (l.contains z)) μ) : oIn false (.int z) (.lst (l.map .int)) μ X :=
  ⟨_, .lst _, rfl, flat_I l, by rw [if_neg Bool.false_ne_true, inD_I]; exact h⟩
theorem nin_IL {z : Int} {l : List Int} {μ : Sto} {X : DK} (h : X (.bl (!l.contains z)) μ) : oIn true (.int z) (.lst (l.map .int)) μ X :=
  ⟨_, .lst _, rfl, flat_I l, by rw [if_pos rfl, inD_I]; exact h⟩
theorem w_intBl {b : Bool} {μ : Sto} {Φ : DK} (h : Φ (.int (if b then 1 else 0)) μ) : cInt [.bl b] μ Φ := ⟨0, .inr ⟨b, rfl, h⟩⟩
def segI (lo : Int) (m : Nat) : List Int := (List.range m).map fun (i : Nat) => lo + (i : Int)
theorem segI_succ (lo : Int) (m : Nat) : segI lo (m + 1) = lo :: segI (lo + 1) m := by
  unfold segI
  rw [List.range_succ_eq_map, List.map_cons, List.map_map]
  congr 1
  · simp
  · refine List.map_congr_left fun i _ => ?_
    show lo + ((i + 1 : Nat) : Int) = lo + 1 + (i : Int)
    omega
theorem asc_lo {hi : Int} : ∀ {lo : Int} {l : List Int}, Asc hi lo l → ∀ z ∈ l, lo ≤ z
  | _, [], _ => by simp
  | lo, x :: r, ⟨h1, _, h3⟩ => fun z hz => by
    rcases List.mem_cons.mp hz with e | e
    · omega
    · have := asc_lo h3 z e; omega
theorem asc_seg : ∀ (m : Nat) (lo : Int) (l : List Int), Asc (lo + m) lo l → (segI lo m).filter (fun z => l.contains z) = l
  | 0, lo, [], _ => rfl
  | 0, lo, x :: r, h => by have := h.1; have := h.2.1; omega
  | m + 1, lo, [], _ => by simp
  | m + 1, lo, x :: r, h => by
    have e : lo + ((m + 1 : Nat) : Int) = lo + 1 + (m : Int) := by omega
    rw [e] at h
    rw [segI_succ]
    by_cases hx : x = lo
    · subst hx
      have ih := asc_seg m (x + 1) r h.2.2
      rw [List.filter_cons, if_pos (by simp)]
      congr 1
      refine Eq.trans (List.filter_congr fun z hz => ?_) ih
      have : x + 1 ≤ z := by
        unfold segI at hz
        obtain ⟨i, _, rfl⟩ := List.mem_map.mp hz
        omega
      rw [List.contains_cons, beq_eq_false_iff_ne.mpr (by omega), Bool.false_or]
    · have h1 := h.1
      have ih := asc_seg m (lo + 1) (x :: r) ⟨by omega, h.2.1, h.2.2⟩
      rw [List.filter_cons, if_neg ?_]
      · exact ih
      · rw [Bool.not_eq_true, Bool.eq_false_iff]
        intro hh
        rw [List.contains_iff_mem] at hh
        rcases List.mem_cons.mp hh with q | q
        · omega
        · have := asc_lo h.2.2 lo q; omega
theorem asc_opts {n : Nat} {l : List Int} (h : Asc n 0 l) : (optsI n).filter (fun z => l.contains z) = l := by
  have e : optsI n = segI 0 n := by
    unfold optsI segI
    exact List.map_congr_left fun i _ => by omega
  rw [e]
  exact asc_seg n 0 l (by rw [Int.zero_add]; exact h)
theorem take_first (p : Nat → Bool) : ∀ n, ((List.range n).filter p).take 1 = (List.range n).filter (fun x => p x && !someI x p)
  | 0 => rfl
  | n + 1 => by
    have ih := take_first p n
    rw [List.range_succ, List.filter_append, List.filter_append, ← ih]
    cases hs : someI n p with
    | false =>
      have e : (List.range n).filter p = [] := by
        rw [List.filter_eq_nil_iff]
        intro x hx
        rw [some_no hs (List.mem_range.mp hx)]
        exact Bool.false_ne_true
      rw [e, List.take_nil, List.nil_append, List.nil_append, List.filter_cons, List.filter_cons, hs]
      cases p n <;> rfl
    | true =>
      obtain ⟨j, h1, h2, _⟩ := some_first hs
      have hm : j ∈ (List.range n).filter p := List.mem_filter.mpr ⟨List.mem_range.mpr h1, h2⟩
      have e2 : [n].filter (fun x => p x && !someI x p) = [] := by
        rw [List.filter_cons, hs, Bool.not_true, Bool.and_false, if_neg Bool.false_ne_true]; rfl
      rw [e2, List.append_nil]
      cases hl : (List.range n).filter p with
      | nil => rw [hl] at hm; cases hm
      | cons y r => rfl
theorem idx_first {k : Int} : ∀ {l : List Int}, k ∈ l → l[l.idxOf k]? = some k ∧ ∀ m, m < l.idxOf k → l[m]? ≠ some k
  | x :: r, h => by
    rw [List.idxOf_cons]
    by_cases e : x = k
    · subst e
      rw [beq_self_eq_true, cond_true]
      exact ⟨rfl, fun m hm => absurd hm (Nat.not_lt_zero m)⟩
    · rw [beq_eq_false_iff_ne.mpr e, cond_false]
      have hr : k ∈ r := (List.mem_cons.mp h).elim (fun q => absurd q.symm e) id
      obtain ⟨h1, h2⟩ := idx_first hr
      refine ⟨h1, fun m hm => ?_⟩
      cases m with
      | zero => rw [List.getElem?_cons_zero]; intro q; cases q; exact e rfl
      | succ m => rw [List.getElem?_cons_succ]; exact h2 m (by omega)
theorem ctxIx_step {k : Nat} {c : List Int} {i : Nat} {z : Int} (h : c[i]? = some z) : ctxIx k (c.take (i + 1)) = ctxIx k (c.take i) * k + z := by
  unfold ctxIx
  rw [List.take_add_one, h, List.foldl_append]
  rfl
theorem ctxIx_small {n k : Nat} {c : List Int} (hc : CtxOk n k c) (i : Nat) : (ctxIx k (c.take i)).natAbs < 2 ^ 140 := by
  have h := ctxIx_lt (k := k) (c.take i) 0 1 (fun r hr => ⟨hc.lo r (List.mem_of_mem_take hr), hc.hi r (List.mem_of_mem_take hr)⟩) (Int.le_refl 0) (by decide)
  have hl : (c.take i).length ≤ 64 := by rw [List.length_take]; have := hc.len; have := hc.n64; omega
  have := pow_small hc.k1 hc.k4 hl
  unfold ctxIx
  have e : (2 : Nat) ^ 128 < 2 ^ 140 := by decide
  rw [Int.one_mul] at h
  omega
def GdC (w : List D → D) (m : Nat) : Con := fun ds μ Φ _ => ∃ (n k : Nat) (a : Am) (c : List Int), ds = [a.d, w (c.map .int), .int k] ∧ a.dep ≤ m ∧ AmOk n k a ∧ CtxOk n k c ∧ Φ (.lst ((goodL k a c).map .int)) μ
theorem GdC.len {w : List D → D} {m ds μ Φ Ψ} (h : GdC w m ds μ Φ Ψ) : ds.length = 3 := by obtain ⟨_, _, _, _, rfl, _⟩ := h; rfl
def c__law_good_T (m : Nat) : Con := GdC .tup m
def c__law_good_L (m : Nat) : Con := GdC .lst m
def c__law_good (m : Nat) : Con := fun ds μ Φ Ψ => c__law_good_T m ds μ Φ Ψ ∨ c__law_good_L m ds μ Φ Ψ
theorem len__law_good_T {m ds μ Φ Ψ} (h : c__law_good_T m ds μ Φ Ψ) : ds.length = 3 := h.len
theorem step__law_good_T (T : Txt P w K mg) {k : Nat} (hk : 4 ≤ k) (n : Nat) (ih__law_good : FnOk P w K mg base (L2N.CX P w) k T.f__law_good T.d__law_good ["_law_term", "_law_context_here", "_law_k"] (spOf K (c__law_good n))) : FnOk P w K mg base (L2N.CX P w) (k + 1) T.f__law_good T.d__law_good ["_law_term", "_law_context_here", "_law_k"] (spOf K (c__law_good_T (n + 1))) := by
  refine def_okC T.F__law_good sc__law_good _ (fun ds μ Φ Ψ h => len__law_good_T h) (fun cdv A outer s H E B hW hr =>
    have tk : L2N.Takes (cxOf (L2N.CX P w) P w K mg base N__law_good "_law_good" (defScope s__law_good) T.f__law_good cdv A outer s H E) (fun cls d _ H => E cls d H) := L2N.takes_of rfl rfl rfl rfl
    ⟨_, (pss_cons (ps_set (i := 3) sc__law_good.nd rfl (Or.inl rfl) (pe_ix ix_tup (pv 0) pe_int (fun _ _ => rfl)))
      (pss_cons (ps_set (i := 4) sc__law_good.nd rfl (Or.inl rfl) (pe_listRg rfl rfl T.z_list (prg_1 rfl T.z_range (pe_callB call_len_seq (by rfl) T.z_len PySem.boot_len (pa_cons (pv 1) pa_nil)))))
      (pss_cons (ps_if (pt_cmpR op_eq (pv 3) pe_str (nomark _)) (pss_cons (ps_set (i := 5) sc__law_good.nd rfl (Or.inr rfl) (pe_call ih__law_good hr rfl T.g__law_good T.F__law_good.kp T.b__law_good .nil passN (pa_cons (pe_ix ix_tup (pv 0) pe_int (fun _ _ => rfl)) (pa_cons (pv 1) (pa_cons (pv 2) pa_nil)))))
      (pss_one (ps_ret (pe_lc (own := [("_law_x", 10)]) rfl sc__law_good.nd (pi_list (pv 4)) (blkOk_by (N := N__law_good) (sc := defScope s__law_good) (by decide +kernel)) (fun _ _ _ _ _ => (pg_name (i := 10) sc__law_good.nd rfl (Or.inl rfl))) (fun _ _ _ _ _ => (pts_one (pt_cmpR op_notIn_seq (pv 10) (pv 5) (by with_unfolding_all rfl)))) (fun _ _ _ _ _ => (pv 10)))))) pss_nil)
      (pss_cons (ps_if (pt_cmpR op_in_seq (pv 3) (pe_lst (pa_cons pe_str (pa_cons pe_str (pa_cons pe_str pa_nil)))) (by with_unfolding_all rfl)) (pss_cons (ps_set (i := 6) sc__law_good.nd rfl (Or.inr rfl) (pe_call ih__law_good hr rfl T.g__law_good T.F__law_good.kp T.b__law_good .nil passN (pa_cons (pe_ix ix_tup (pv 0) pe_int (fun _ _ => rfl)) (pa_cons (pv 1) (pa_cons (pv 2) pa_nil)))))
      (pss_cons (ps_set (i := 7) sc__law_good.nd rfl (Or.inr rfl) (pe_call ih__law_good hr rfl T.g__law_good T.F__law_good.kp T.b__law_good .nil passN (pa_cons (pe_ix ix_tup (pv 0) pe_int (fun _ _ => rfl)) (pa_cons (pv 1) (pa_cons (pv 2) pa_nil)))))
      (pss_cons (ps_if (pt_cmpR op_eq (pv 3) pe_str (nomark _)) (pss_one (ps_ret (pe_lc (own := [("_law_x", 10)]) rfl sc__law_good.nd (pi_list (pv 4)) (blkOk_by (N := N__law_good) (sc := defScope s__law_good) (by decide +kernel)) (fun _ _ _ _ _ => (pg_name (i := 10) sc__law_good.nd rfl (Or.inl rfl))) (fun _ _ _ _ _ => (pts_one (PW.pt (pw_or (pt_cmpR op_in_seq (pv 10) (pv 6) (by with_unfolding_all rfl)) (pw_or1 (pt_cmpR op_in_seq (pv 10) (pv 7) (by with_unfolding_all rfl))))))) (fun _ _ _ _ _ => (pv 10))))) pss_nil)
      (pss_cons (ps_if (pt_cmpR op_eq (pv 3) pe_str (nomark _)) (pss_one (ps_ret (pe_lc (own := [("_law_x", 10)]) rfl sc__law_good.nd (pi_list (pv 6)) (blkOk_by (N := N__law_good) (sc := defScope s__law_good) (by decide +kernel)) (fun _ _ _ _ _ => (pg_name (i := 10) sc__law_good.nd rfl (Or.inl rfl))) (fun _ _ _ _ _ => (pts_one (pt_cmpR op_in_seq (pv 10) (pv 7) (by with_unfolding_all rfl)))) (fun _ _ _ _ _ => (pv 10))))) pss_nil)
      (pss_one (ps_ret (pe_ix ix_list (pe_lst (pa_cons (pv 6) (pa_cons (pv 7) pa_nil))) (pe_callTy call_int1 (by rfl) T.z_int (by decide +kernel) (pa_cons (pe_cmpR op_eq (pe_callB call_len_seq (by rfl) T.z_len PySem.boot_len (pa_cons (pv 6) pa_nil)) pe_int (nomark _)) pa_nil)) (fun _ _ => rfl)))))))) pss_nil)
      (pss_cons (ps_if (pt_cmpR op_eq (pv 3) pe_str (nomark _)) (pss_one (ps_ret (pe_slice sl_list (pe_call ih__law_good hr rfl T.g__law_good T.F__law_good.kp T.b__law_good .nil passN (pa_cons (pe_ix ix_tup (pv 0) pe_int (fun _ _ => rfl)) (pa_cons (pv 1) (pa_cons (pv 2) pa_nil)))) po_none (po_some pe_int)))) pss_nil)
      (pss_cons (ps_if (pt_cmpR op_eq (pv 3) pe_str (nomark _)) (pss_one (ps_ret (pe_call ih__law_good hr rfl T.g__law_good T.F__law_good.kp T.b__law_good .nil passN (pa_cons (pe_ix ix_tup (pv 0) pe_int (fun _ _ => rfl)) (pa_cons (pe_lc (own := [("_law_r", 9)]) rfl sc__law_good.nd (pi_tup (pv 1)) (blkOk_by (N := N__law_good) (sc := defScope s__law_good) (by decide +kernel)) (fun _ _ _ _ _ => (pg_name (i := 9) sc__law_good.nd rfl (Or.inl rfl))) (fun _ _ _ _ _ => pts_nil) (fun _ _ _ _ _ => (pe_ix ix_tup (pe_ix ix_tup (pv 0) pe_int (fun _ _ => rfl)) (pv 9) (fun _ _ => rfl)))) (pa_cons (pv 2) pa_nil)))))) pss_nil)
      (pss_cons (ps_if (pt_cmpR op_eq (pv 3) pe_str (nomark _)) (pss_cons (ps_set (i := 5) sc__law_good.nd rfl (Or.inr rfl) (pe_call ih__law_good hr rfl T.g__law_good T.F__law_good.kp T.b__law_good .nil passN (pa_cons (pe_ix ix_tup (pv 0) pe_int (fun _ _ => rfl)) (pa_cons (pe_lc (own := [("_law_y", 11)]) rfl sc__law_good.nd (pi_list (pv 4)) (blkOk_by (N := N__law_good) (sc := defScope s__law_good) (by decide +kernel)) (fun _ _ _ _ _ => (pg_name (i := 11) sc__law_good.nd rfl (Or.inl rfl))) (fun _ _ _ _ _ => pts_nil) (fun _ _ _ _ _ => (pe_ix ix_tup (pv 1) (pe_bmT PySem.F.plainAttrs_tuple PySem.F.slot_tuple_index PySem.F.type_tuple_index mt_tindex (pe_ix ix_tup (pv 0) pe_int (fun _ _ => rfl)) (pa_cons (pv 11) pa_nil)) (fun _ _ => rfl)))) (pa_cons (pv 2) pa_nil)))))
      (pss_one (ps_ret (pe_lc (own := [("_law_x", 10)]) rfl sc__law_good.nd (pi_list (pv 4)) (blkOk_by (N := N__law_good) (sc := defScope s__law_good) (by decide +kernel)) (fun _ _ _ _ _ => (pg_name (i := 10) sc__law_good.nd rfl (Or.inl rfl))) (fun _ _ _ _ _ => (pts_one (pt_cmpR op_in_seq (pe_ix ix_tup (pe_ix ix_tup (pv 0) pe_int (fun _ _ => rfl)) (pv 10) (fun _ _ => rfl)) (pv 5) (by with_unfolding_all rfl)))) (fun _ _ _ _ _ => (pv 10)))))) pss_nil)
      (pss_cons (ps_if (pt_cmpR op_eq (pv 3) pe_str (nomark _)) (pss_one (ps_ret (pe_callTy call_list_of (by rfl) T.z_list (by decide +kernel) (pa_cons (pe_ix ix_tup (pv 0) pe_int (fun _ _ => rfl)) pa_nil)))) pss_nil)
      (pss_cons (ps_if (pt_cmpR op_eq (pv 3) pe_str (nomark _)) (pss_cons (ps_set (i := 8) sc__law_good.nd rfl (Or.inl rfl) pe_int)
      (pss_cons (ps_for (passes_of rfl) rfl (pi_tup (pv 1)) (pg_name (i := 9) sc__law_good.nd rfl (Or.inl rfl)) (pss_one (ps_set (i := 8) sc__law_good.nd rfl (Or.inl rfl) (pe_op op_add (pe_op op_mulX (pv 8) (pv 2)) (pv 9)))))
      (pss_one (ps_ret (pe_callTy call_list_of (by rfl) T.z_list (by decide +kernel) (pa_cons (pe_ix ix_tup (pe_ix ix_tup (pv 0) pe_int (fun _ _ => rfl)) (pv 8) (fun _ _ => rfl)) pa_nil)))))) pss_nil)
      (pss_one (ps_ret (pe_lc (own := [("_law_x", 10)]) rfl sc__law_good.nd (pi_list (pv 4)) (blkOk_by (N := N__law_good) (sc := defScope s__law_good) (by decide +kernel)) (fun _ _ _ _ _ => (pg_name (i := 10) sc__law_good.nd rfl (Or.inl rfl))) (fun _ _ _ _ _ => (pts_one (pt_val (pe_call (ok__law_simple_good T) (hr.mono (by omega)) rfl T.g__law_simple_good T.F__law_simple_good.kp T.b__law_simple_good .nil passN (pa_cons (pv 0) (pa_cons (pv 1) (pa_cons (pe_ix ix_tup (pv 1) (pv 10) (fun _ _ => rfl)) (pa_cons (pv 10) pa_nil)))))))) (fun _ _ _ _ _ => (pv 10)))))))))))))),
      (sSeq (sAsg (sOp roIxT sVar sInt) sName)
      (sSeq (sAsg (sLstR1 (sCB rcLen (sCons sVar sNil))) sName)
      (sSeq (sIfS (sTest (sOp roEq sVar sStr)) (sSeq (sAsg (sCall (sCons (sOp roIxT sVar sInt) (sCons sVar (sCons sVar sNil)))) sName)
      (sRet (sLc (siL sVar) (gwName List.mem_cons_self) (fun _ _ _ => sName) (fun _ _ _ => (sTest (sOp (roIn (neg := true)) sVar sVar))) (fun _ _ _ => sVar)))) sNext)
      (sSeq (sIfS (sTest (sOp (roIn (neg := false)) sVar (sLst (sCons sStr (sCons sStr (sCons sStr sNil)))))) (sSeq (sAsg (sCall (sCons (sOp roIxT sVar sInt) (sCons sVar (sCons sVar sNil)))) sName)
      (sSeq (sAsg (sCall (sCons (sOp roIxT sVar sInt) (sCons sVar (sCons sVar sNil)))) sName)
      (sSeq (sIfS (sTest (sOp roEq sVar sStr)) (sRet (sLc (siL sVar) (gwName List.mem_cons_self) (fun _ _ _ => sName) (fun _ _ _ => (sOr (sTest (sOp (roIn (neg := false)) sVar sVar)) (sTest (sOp (roIn (neg := false)) sVar sVar)))) (fun _ _ _ => sVar))) sNext)
      (sSeq (sIfS (sTest (sOp roEq sVar sStr)) (sRet (sLc (siL sVar) (gwName List.mem_cons_self) (fun _ _ _ => sName) (fun _ _ _ => (sTest (sOp (roIn (neg := false)) sVar sVar))) (fun _ _ _ => sVar))) sNext)
      (sRet (sOp roIxL (sLst (sCons sVar (sCons sVar sNil))) (sCB rcInt (sCons (sOp roEq (sCB rcLen (sCons sVar sNil)) sInt) sNil)))))))) sNext)
      (sSeq (sIfS (sTest (sOp roEq sVar sStr)) (sRet (sSlL (sCall (sCons (sOp roIxT sVar sInt) (sCons sVar (sCons sVar sNil)))) sNoPart (sPart sInt))) sNext)
      (sSeq (sIfS (sTest (sOp roEq sVar sStr)) (sRet (sCall (sCons (sOp roIxT sVar sInt) (sCons (sLc (siT sVar) (gwName List.mem_cons_self) (fun _ _ _ => sName) (fun _ _ _ => sYes) (fun _ _ _ => (sOp roIxT (sOp roIxT sVar sInt) sVar))) (sCons sVar sNil))))) sNext)
      (sSeq (sIfS (sTest (sOp roEq sVar sStr)) (sSeq (sAsg (sCall (sCons (sOp roIxT sVar sInt) (sCons (sLc (siL sVar) (gwName List.mem_cons_self) (fun _ _ _ => sName) (fun _ _ _ => sYes) (fun _ _ _ => (sOp roIxT sVar (sIdxT (sOp roIxT sVar sInt) sVar)))) (sCons sVar sNil)))) sName)
      (sRet (sLc (siL sVar) (gwName List.mem_cons_self) (fun _ _ _ => sName) (fun _ _ _ => (sTest (sOp (roIn (neg := false)) (sOp roIxT (sOp roIxT sVar sInt) sVar) sVar))) (fun _ _ _ => sVar)))) sNext)
      (sSeq (sIfS (sTest (sOp roEq sVar sStr)) (sRet (sCB rcList (sCons (sOp roIxT sVar sInt) sNil))) sNext)
      (sSeq (sIfS (sTest (sOp roEq sVar sStr)) (sSeq (sAsg sInt sName)
      (sSeq (sFor (siT sVar) (fun _ _ _ => sName) (fun _ _ _ => (sAsg (sOp roInt0 (sOp roInt sVar sVar) sVar) sName)))
      (sRet (sCB rcList (sCons (sOp roIxT (sOp roIxT sVar sInt) sVar) sNil))))) sNext)
      (sRet (sLc (siL sVar) (gwName List.mem_cons_self) (fun _ _ _ => sName) (fun _ _ _ => (sB (sCall (sCons sVar (sCons sVar (sCons (sOp roIxT sVar sVar) (sCons sVar sNil))))))) (fun _ _ _ => sVar))))))))))))⟩) (fun ds μ Φ Ψ h => ?hv)
  case hv =>
    obtain ⟨nn, k, a, c, rfl, hd, ha, hc, h⟩ := h
    have hl := hc.len
    have h64 := hc.n64
    cases a
    all_goals simp only [Am.d, Am.iT]
    all_goals simp only [Am.dep] at hd
    all_goals walk_at "wps"
    all_goals simp (config := { decide := true }) only [false_implies, true_implies, and_true, true_and, not_true_eq_false, not_false_eq_true]
    case not a =>
      refine ⟨by omega, by omega, .inl ⟨nn, k, a, c, rfl, by omega, ha, hc, ?_⟩⟩
      rw [rngD_opts]
      refine lcZf (fun z => !isG k a c z.toNat) .int (by rw [optsI_len]; omega) (fun z μ2 X Y hz hsub hx hy => ?_) (ret_same ?_)
      · walk_at "wps"
        refine nin_IL ⟨_, rfl, ?_⟩
        rw [goodL_has hz]
        exact ⟨hx, hy⟩
      · rw [goodL_opts] at h
        exact h
    case either a b =>
      refine ⟨by omega, by omega, in_S (l := ["either", "both", "else"]) ⟨_, rfl, fun _ => ?_, fun q => absurd q (by decide)⟩⟩
      refine .inl ⟨nn, k, a, c, rfl, by omega, ha.1, hc, .inl ⟨nn, k, b, c, rfl, by omega, ha.2, hc, ?_⟩⟩
      rw [rngD_opts]
      refine lcZf (fun z => isG k a c z.toNat || isG k b c z.toNat) .int (by rw [optsI_len]; omega) (fun z μ2 X Y hz hsub hx hy => ?_) (ret_same ?_)
      · walk_at "wps"
        refine in_IL ⟨_, rfl, ?_⟩
        rw [goodL_has hz]
        refine ⟨fun q => hx (by rw [q]; rfl), fun q => ?_⟩
        refine in_IL ⟨_, rfl, ?_⟩
        rw [goodL_has hz]
        exact ⟨fun q2 => hx (by rw [q2, Bool.or_true]), fun q2 => hy (by rw [q, q2]; rfl)⟩
      · rw [goodL_opts] at h
        exact h
    case both a b =>
      refine ⟨by omega, by omega, in_S (l := ["either", "both", "else"]) ⟨_, rfl, fun _ => ?_, fun q => absurd q (by decide)⟩⟩
      refine .inl ⟨nn, k, a, c, rfl, by omega, ha.1, hc, .inl ⟨nn, k, b, c, rfl, by omega, ha.2, hc, ?_⟩⟩
      walk_at "wps"
      have := goodL_le k a c
      refine lcZf (fun z => isG k b c z.toNat) .int (by omega) (fun z μ2 X Y hz hsub hx hy => ?_) (ret_same ?_)
      · walk_at "wps"
        refine in_IL ⟨_, rfl, ?_⟩
        rw [goodL_opts] at hz
        rw [goodL_has (List.mem_filter.mp hz).1]
        exact ⟨hx, hy⟩
      · rw [goodL_opts] at h
        rw [goodL_opts k a c, List.filter_filter]
        have e : (fun z : Int => isG k b c z.toNat && isG k a c z.toNat) = fun z : Int => isG k (.both a b) c z.toNat := by
          funext z; show _ = (isG k a c z.toNat && isG k b c z.toNat); rw [Bool.and_comm]
        rw [e]
        exact h
    case els a b =>
      refine ⟨by omega, by omega, in_S (l := ["either", "both", "else"]) ⟨_, rfl, fun _ => ?_, fun q => absurd q (by decide)⟩⟩
      refine .inl ⟨nn, k, a, c, rfl, by omega, ha.1, hc, .inl ⟨nn, k, b, c, rfl, by omega, ha.2, hc, ?_⟩⟩
      refine ⟨_, .lst _, w_intBl ?_⟩
      have ea : goodL k (.els a b) c = if (goodL k a c).length = 0 then goodL k b c else goodL k a c := by
        by_cases q : (goodL k a c).length = 0
        · rw [if_pos q, goodL_opts, goodL_opts]
          have sn : someI c.length (isG k a c) = false := by
            rw [Bool.eq_false_iff]
            intro z
            obtain ⟨j, h1, h2, _⟩ := some_first z
            have : (j : Int) ∈ goodL k a c := by rw [goodL_opts]; exact List.mem_filter.mpr ⟨mem_opts.mpr (by omega), h2⟩
            have := List.length_pos_of_mem this
            omega
          refine List.filter_congr fun z hz => ?_
          show (if someI c.length (isG k a c) then isG k a c z.toNat else isG k b c z.toNat) = _
          rw [sn]; rfl
        · rw [if_neg q, goodL_opts, goodL_opts]
          have sn : someI c.length (isG k a c) = true := by
            cases hg : goodL k a c with
            | nil => rw [hg] at q; exact absurd rfl q
            | cons x r =>
              have hx : x ∈ goodL k a c := by rw [hg]; exact List.mem_cons_self
              rw [goodL_opts] at hx
              obtain ⟨x1, x2⟩ := List.mem_filter.mp hx
              exact some_yes x2 (mem_opts.mp x1).2
          refine List.filter_congr fun z hz => ?_
          show (if someI c.length (isG k a c) then isG k a c z.toNat else isG k b c z.toNat) = _
          rw [sn]; rfl
      rw [ea] at h
      by_cases q : (goodL k a c).length = 0
      · rw [if_pos q] at h
        rw [List.length_map, q]
        walk_at "wps"
        exact ⟨_, rfl, ret_same h⟩
      · rw [if_neg q] at h
        rw [List.length_map, decide_eq_false (by omega)]
        walk_at "wps"
        exact ⟨_, rfl, ret_same h⟩
    case first a =>
      refine ⟨by omega, by omega, in_S (l := ["either", "both", "else"]) ⟨_, rfl, fun q => absurd q (by decide), fun _ => ?_⟩⟩
      refine .inl ⟨nn, k, a, c, rfl, by omega, ha, hc, ⟨_, .lst _, rfl, ret_same ?_⟩⟩
      have e1 : DW.cutD ((goodL k a c).map D.int) none (some 1) = ((goodL k a c).take 1).map .int := by
        rw [List.map_take]; exact cut_to 1
      have e2 : (goodL k a c).take 1 = goodL k (.first a) c := by
        unfold goodL
        rw [← List.map_take, take_first]
        rfl
      rw [e1, e2]
      exact h
    case recode m a =>
      refine ⟨by omega, by omega, in_S (l := ["either", "both", "else"]) ⟨_, rfl, fun q => absurd q (by decide), fun _ => ?_⟩⟩
      have inn : ∀ z ∈ c, z.toNat < m.length := fun z hz => by have := hc.lo z hz; have := hc.hi z hz; rw [ha.1.1]; omega
      refine lcZ (fun z => .int (at' m z)) (by omega) (fun z μ2 X hz hsub hx => ?_) ?_
      · walk_at "wps"
        refine ⟨_, atI_map (hc.lo z hz) (inn z hz), ?_⟩
        unfold at' at hx
        rw [getD_of (List.getElem?_eq_getElem (inn z hz))] at hx
        exact hx
      · have e1 : c.map (fun z => D.int (at' m z)) = (c.map (at' m)).map .int := by rw [List.map_map]; rfl
        rw [e1]
        have lim : ∀ r ∈ c.map (at' m), 0 ≤ r ∧ r < (k : Int) := fun r hr => by
          obtain ⟨z, hz, rfl⟩ := List.mem_map.mp hr
          exact ha.1.2 _ (by unfold at'; rw [getD_of (List.getElem?_eq_getElem (inn z hz))]; exact List.getElem_mem _)
        refine .inr ⟨nn, k, a, c.map (at' m), rfl, by omega, ha.2, ⟨by rw [List.length_map]; exact hl, fun r hr => (lim r hr).1, fun r hr => (lim r hr).2, hc.n1, hc.n64, hc.k1, hc.k4⟩, ret_same ?_⟩
        have e : goodL k (.recode m a) c = goodL k a (c.map (at' m)) := by unfold goodL; rw [List.length_map]; rfl
        rw [← e]; exact h
    case reorder p a =>
      refine ⟨by omega, by omega, in_S (l := ["either", "both", "else"]) ⟨_, rfl, fun q => absurd q (by decide), fun _ => ?_⟩⟩
      rw [rngD_opts]
      have pm : ∀ z ∈ optsI c.length, z ∈ p := fun z hz => by
        have h1 := mem_opts.mp hz
        have := perm_all ha.1 ha.2.1 (y := z.toNat) (by omega)
        rw [Int.toNat_of_nonneg h1.1] at this
        exact this
      have jl : ∀ z ∈ optsI c.length, p.idxOf z < c.length := fun z hz => by
        have := (List.getElem?_eq_some_iff.mp (idx_first (pm z hz)).1).1
        rw [ha.1.1] at this
        omega
      refine lcZ (fun z => .int (c.getD (p.idxOf z) 0)) (by rw [optsI_len]; omega) (fun z μ2 X hz hsub hx => ?_) ?_
      · walk_at "wps"
        refine ⟨p, rfl, z, p.idxOf z, rfl, (idx_first (pm z hz)).1, (idx_first (pm z hz)).2, ?_⟩
        walk_at "wps"
        refine ⟨.int (c.getD (p.idxOf z) 0), atI_nat (by rw [List.getElem?_map, List.getElem?_eq_getElem (jl z hz), getD_of (List.getElem?_eq_getElem (jl z hz))]; rfl), hx⟩
      · have e1 : (optsI c.length).map (fun z => D.int (c.getD (p.idxOf z) 0)) = ((List.range c.length).map fun (y : Nat) => c.getD (p.idxOf (y : Int)) (0 : Int)).map .int := by
          unfold optsI
          rw [List.map_map, List.map_map]; rfl
        rw [e1]
        have cl : ((List.range c.length).map fun (y : Nat) => c.getD (p.idxOf (y : Int)) (0 : Int)).length = c.length := by rw [List.length_map, List.length_range]
        have lim : ∀ r ∈ (List.range c.length).map fun (y : Nat) => c.getD (p.idxOf (y : Int)) (0 : Int), 0 ≤ r ∧ r < (k : Int) := fun r hr => by
          obtain ⟨y, hy, rfl⟩ := List.mem_map.mp hr
          have hj := jl (y : Int) (mem_opts.mpr ⟨by omega, by have := List.mem_range.mp hy; omega⟩)
          rw [getD_of (List.getElem?_eq_getElem hj)]
          exact ⟨hc.lo _ (List.getElem_mem hj), hc.hi _ (List.getElem_mem hj)⟩
        refine .inr ⟨nn, k, a, _, rfl, by omega, ha.2.2, ⟨by rw [cl]; exact hl, fun r hr => (lim r hr).1, fun r hr => (lim r hr).2, hc.n1, hc.n64, hc.k1, hc.k4⟩, ?_⟩
        refine lcZf (fun z => isG k a ((List.range c.length).map fun (y : Nat) => c.getD (p.idxOf (y : Int)) (0 : Int)) (at' p z).toNat) .int (by rw [optsI_len]; omega) (fun z μ2 X Y hz hsub hx hy => ?_) (ret_same ?_)
        · have h1 := mem_opts.mp hz
          have hp : z.toNat < p.length := by rw [ha.1.1]; omega
          walk_at "wps"
          refine ⟨.int (at' p z), ?_, in_IL ⟨_, rfl, ?_⟩⟩
          · rw [atI_map h1.1 hp]
            unfold at'
            rw [getD_of (List.getElem?_eq_getElem hp)]
          · rw [goodL_has ?_]
            · exact ⟨hx, hy⟩
            · rw [cl]
              have h2 := ha.1.2 _ (List.getElem_mem hp)
              unfold at'
              rw [getD_of (List.getElem?_eq_getElem hp)]
              exact mem_opts.mpr (by omega)
        · rw [goodL_opts] at h
          have e : (optsI c.length).filter (fun z => isG k a ((List.range c.length).map fun (y : Nat) => c.getD (p.idxOf (y : Int)) (0 : Int)) (at' p z).toNat) = (optsI c.length).filter (fun z => isG k (.reorder p a) c z.toNat) := by
            refine List.filter_congr fun z hz => ?_
            obtain ⟨i, rfl⟩ : ∃ i : Nat, z = (i : Int) := ⟨z.toNat, by have := mem_opts.mp hz; omega⟩
            rfl
          rw [e]
          exact h
    case only l =>
      refine ⟨by omega, by omega, in_S (l := ["either", "both", "else"]) ⟨_, rfl, fun q => absurd q (by decide), fun _ => ret_same ?_⟩⟩
      have e : goodL k (.only l) c = l := by
        rw [goodL_opts]
        refine Eq.trans (List.filter_congr fun z hz => ?_) (asc_opts (n := c.length) (by rw [hl]; exact ha))
        obtain ⟨i, rfl⟩ : ∃ i : Nat, z = (i : Int) := ⟨z.toNat, by have := mem_opts.mp hz; omega⟩
        rfl
      rw [e] at h
      exact h
    case table rows =>
      refine ⟨by omega, by omega, in_S (l := ["either", "both", "else"]) ⟨_, rfl, fun q => absurd q (by decide), fun _ => ?_⟩⟩
      refine ⟨fun i δ' μ' => μ' = μ ∧ ∃ x : Option D, δ' = [some (.tup [.str "table", .tup (rows.map Am.iT)]), some (.tup (c.map .int)), some (.int k), some (.str "table"), some (.lst (rngD 0 c.length)), none, none, none, some (.int (ctxIx k (c.take i))), x, none, none], ⟨rfl, none, rfl⟩, ?_, ?_⟩
      · rintro i d δ' μ' hi ⟨rfl, x, rfl⟩
        obtain ⟨z, hz, rfl⟩ := mapI_get hi
        walk_at "wps"
        refine ⟨mulx 140 10 (ctxIx_small hc i) (by rw [Int.natAbs_natCast]; exact Nat.lt_of_le_of_lt hc.k4 (by decide)) (by decide), some (.int z), ?_⟩
        rw [ctxIx_step hz]
      · rintro δ' μ' ⟨rfl, x, rfl⟩
        walk_at "wps"
        rw [List.take_length]
        have hi : (ctxIx k c).toNat < rows.length ∧ 0 ≤ ctxIx k c := ⟨by rw [ha.2.2.1]; exact (ctxIx_ok hc).2, (ctxIx_ok hc).1⟩
        refine ⟨Am.iT rows[(ctxIx k c).toNat], atI_map hi.2 hi.1, _, .tup _, ret_same ?_⟩
        have e : goodL k (.table rows) c = rows[(ctxIx k c).toNat] := by
          rw [goodL_opts]
          refine Eq.trans (List.filter_congr fun z hz => ?_) (asc_opts (n := c.length) (by rw [hl]; exact ha.2.2.2 _ (List.getElem_mem hi.1)))
          obtain ⟨i, rfl⟩ : ∃ i : Nat, z = (i : Int) := ⟨z.toNat, by have := mem_opts.mp hz; omega⟩
          simp only [isG, List.getD_eq_getElem?_getD, List.getElem?_eq_getElem hi.1, Option.getD_some]
          rfl
        rw [e] at h
        exact h
    all_goals
      refine ⟨by omega, by omega, in_S (l := ["either", "both", "else"]) ⟨_, rfl, fun q => absurd q (by decide), fun _ => ?_⟩⟩
      rw [rngD_opts]
      rw [goodL_opts] at h
      refine lcZf _ .int (by rw [optsI_len]; omega) (fun z μ2 X Y hz hsub hx hy => ?_) (ret_same h)
      obtain ⟨i, rfl⟩ : ∃ i : Nat, z = (i : Int) := ⟨z.toNat, by have := mem_opts.mp hz; omega⟩
      have hi : i < c.length := by have := mem_opts.mp hz; omega
      walk_at "wps"
      refine ⟨.int (c.getD i 0), atI_nat (by rw [List.getElem?_map, List.getElem?_eq_getElem hi, getD_of (List.getElem?_eq_getElem hi)]; rfl), .inl ⟨nn, k, i, _, c, rfl, rfl, ha, hc, by omega, _, rfl, ?_⟩⟩
      rw [Int.toNat_natCast] at hx hy
      exact ⟨hx, hy⟩
theorem len__law_good_L {m ds μ Φ Ψ} (h : c__law_good_L m ds μ Φ Ψ) : ds.length = 3 := h.len
theorem step__law_good_L (T : Txt P w K mg) {k : Nat} (hk : 4 ≤ k) (n : Nat) (ih__law_good : FnOk P w K mg base (L2N.CX P w) k T.f__law_good T.d__law_good ["_law_term", "_law_context_here", "_law_k"] (spOf K (c__law_good n))) : FnOk P w K mg base (L2N.CX P w) (k + 1) T.f__law_good T.d__law_good ["_law_term", "_law_context_here", "_law_k"] (spOf K (c__law_good_L (n + 1))) := by
  refine def_okC T.F__law_good sc__law_good _ (fun ds μ Φ Ψ h => len__law_good_L h) (fun cdv A outer s H E B hW hr =>
    have tk : L2N.Takes (cxOf (L2N.CX P w) P w K mg base N__law_good "_law_good" (defScope s__law_good) T.f__law_good cdv A outer s H E) (fun cls d _ H => E cls d H) := L2N.takes_of rfl rfl rfl rfl
    ⟨_, (pss_cons (ps_set (i := 3) sc__law_good.nd rfl (Or.inl rfl) (pe_ix ix_tup (pv 0) pe_int (fun _ _ => rfl)))
      (pss_cons (ps_set (i := 4) sc__law_good.nd rfl (Or.inl rfl) (pe_listRg rfl rfl T.z_list (prg_1 rfl T.z_range (pe_callB call_len_seq (by rfl) T.z_len PySem.boot_len (pa_cons (pv 1) pa_nil)))))
      (pss_cons (ps_if (pt_cmpR op_eq (pv 3) pe_str (nomark _)) (pss_cons (ps_set (i := 5) sc__law_good.nd rfl (Or.inr rfl) (pe_call ih__law_good hr rfl T.g__law_good T.F__law_good.kp T.b__law_good .nil passN (pa_cons (pe_ix ix_tup (pv 0) pe_int (fun _ _ => rfl)) (pa_cons (pv 1) (pa_cons (pv 2) pa_nil)))))
      (pss_one (ps_ret (pe_lc (own := [("_law_x", 10)]) rfl sc__law_good.nd (pi_list (pv 4)) (blkOk_by (N := N__law_good) (sc := defScope s__law_good) (by decide +kernel)) (fun _ _ _ _ _ => (pg_name (i := 10) sc__law_good.nd rfl (Or.inl rfl))) (fun _ _ _ _ _ => (pts_one (pt_cmpR op_notIn_seq (pv 10) (pv 5) (by with_unfolding_all rfl)))) (fun _ _ _ _ _ => (pv 10)))))) pss_nil)
      (pss_cons (ps_if (pt_cmpR op_in_seq (pv 3) (pe_lst (pa_cons pe_str (pa_cons pe_str (pa_cons pe_str pa_nil)))) (by with_unfolding_all rfl)) (pss_cons (ps_set (i := 6) sc__law_good.nd rfl (Or.inr rfl) (pe_call ih__law_good hr rfl T.g__law_good T.F__law_good.kp T.b__law_good .nil passN (pa_cons (pe_ix ix_tup (pv 0) pe_int (fun _ _ => rfl)) (pa_cons (pv 1) (pa_cons (pv 2) pa_nil)))))
      (pss_cons (ps_set (i := 7) sc__law_good.nd rfl (Or.inr rfl) (pe_call ih__law_good hr rfl T.g__law_good T.F__law_good.kp T.b__law_good .nil passN (pa_cons (pe_ix ix_tup (pv 0) pe_int (fun _ _ => rfl)) (pa_cons (pv 1) (pa_cons (pv 2) pa_nil)))))
      (pss_cons (ps_if (pt_cmpR op_eq (pv 3) pe_str (nomark _)) (pss_one (ps_ret (pe_lc (own := [("_law_x", 10)]) rfl sc__law_good.nd (pi_list (pv 4)) (blkOk_by (N := N__law_good) (sc := defScope s__law_good) (by decide +kernel)) (fun _ _ _ _ _ => (pg_name (i := 10) sc__law_good.nd rfl (Or.inl rfl))) (fun _ _ _ _ _ => (pts_one (PW.pt (pw_or (pt_cmpR op_in_seq (pv 10) (pv 6) (by with_unfolding_all rfl)) (pw_or1 (pt_cmpR op_in_seq (pv 10) (pv 7) (by with_unfolding_all rfl))))))) (fun _ _ _ _ _ => (pv 10))))) pss_nil)
      (pss_cons (ps_if (pt_cmpR op_eq (pv 3) pe_str (nomark _)) (pss_one (ps_ret (pe_lc (own := [("_law_x", 10)]) rfl sc__law_good.nd (pi_list (pv 6)) (blkOk_by (N := N__law_good) (sc := defScope s__law_good) (by decide +kernel)) (fun _ _ _ _ _ => (pg_name (i := 10) sc__law_good.nd rfl (Or.inl rfl))) (fun _ _ _ _ _ => (pts_one (pt_cmpR op_in_seq (pv 10) (pv 7) (by with_unfolding_all rfl)))) (fun _ _ _ _ _ => (pv 10))))) pss_nil)
      (pss_one (ps_ret (pe_ix ix_list (pe_lst (pa_cons (pv 6) (pa_cons (pv 7) pa_nil))) (pe_callTy call_int1 (by rfl) T.z_int (by decide +kernel) (pa_cons (pe_cmpR op_eq (pe_callB call_len_seq (by rfl) T.z_len PySem.boot_len (pa_cons (pv 6) pa_nil)) pe_int (nomark _)) pa_nil)) (fun _ _ => rfl)))))))) pss_nil)
      (pss_cons (ps_if (pt_cmpR op_eq (pv 3) pe_str (nomark _)) (pss_one (ps_ret (pe_slice sl_list (pe_call ih__law_good hr rfl T.g__law_good T.F__law_good.kp T.b__law_good .nil passN (pa_cons (pe_ix ix_tup (pv 0) pe_int (fun _ _ => rfl)) (pa_cons (pv 1) (pa_cons (pv 2) pa_nil)))) po_none (po_some pe_int)))) pss_nil)
      (pss_cons (ps_if (pt_cmpR op_eq (pv 3) pe_str (nomark _)) (pss_one (ps_ret (pe_call ih__law_good hr rfl T.g__law_good T.F__law_good.kp T.b__law_good .nil passN (pa_cons (pe_ix ix_tup (pv 0) pe_int (fun _ _ => rfl)) (pa_cons (pe_lc (own := [("_law_r", 9)]) rfl sc__law_good.nd (pi_list (pv 1)) (blkOk_by (N := N__law_good) (sc := defScope s__law_good) (by decide +kernel)) (fun _ _ _ _ _ => (pg_name (i := 9) sc__law_good.nd rfl (Or.inl rfl))) (fun _ _ _ _ _ => pts_nil) (fun _ _ _ _ _ => (pe_ix ix_tup (pe_ix ix_tup (pv 0) pe_int (fun _ _ => rfl)) (pv 9) (fun _ _ => rfl)))) (pa_cons (pv 2) pa_nil)))))) pss_nil)
      (pss_cons (ps_if (pt_cmpR op_eq (pv 3) pe_str (nomark _)) (pss_cons (ps_set (i := 5) sc__law_good.nd rfl (Or.inr rfl) (pe_call ih__law_good hr rfl T.g__law_good T.F__law_good.kp T.b__law_good .nil passN (pa_cons (pe_ix ix_tup (pv 0) pe_int (fun _ _ => rfl)) (pa_cons (pe_lc (own := [("_law_y", 11)]) rfl sc__law_good.nd (pi_list (pv 4)) (blkOk_by (N := N__law_good) (sc := defScope s__law_good) (by decide +kernel)) (fun _ _ _ _ _ => (pg_name (i := 11) sc__law_good.nd rfl (Or.inl rfl))) (fun _ _ _ _ _ => pts_nil) (fun _ _ _ _ _ => (pe_ix ix_list (pv 1) (pe_bmT PySem.F.plainAttrs_tuple PySem.F.slot_tuple_index PySem.F.type_tuple_index mt_tindex (pe_ix ix_tup (pv 0) pe_int (fun _ _ => rfl)) (pa_cons (pv 11) pa_nil)) (fun _ _ => rfl)))) (pa_cons (pv 2) pa_nil)))))
      (pss_one (ps_ret (pe_lc (own := [("_law_x", 10)]) rfl sc__law_good.nd (pi_list (pv 4)) (blkOk_by (N := N__law_good) (sc := defScope s__law_good) (by decide +kernel)) (fun _ _ _ _ _ => (pg_name (i := 10) sc__law_good.nd rfl (Or.inl rfl))) (fun _ _ _ _ _ => (pts_one (pt_cmpR op_in_seq (pe_ix ix_tup (pe_ix ix_tup (pv 0) pe_int (fun _ _ => rfl)) (pv 10) (fun _ _ => rfl)) (pv 5) (by with_unfolding_all rfl)))) (fun _ _ _ _ _ => (pv 10)))))) pss_nil)
      (pss_cons (ps_if (pt_cmpR op_eq (pv 3) pe_str (nomark _)) (pss_one (ps_ret (pe_callTy call_list_of (by rfl) T.z_list (by decide +kernel) (pa_cons (pe_ix ix_tup (pv 0) pe_int (fun _ _ => rfl)) pa_nil)))) pss_nil)
      (pss_cons (ps_if (pt_cmpR op_eq (pv 3) pe_str (nomark _)) (pss_cons (ps_set (i := 8) sc__law_good.nd rfl (Or.inl rfl) pe_int)
      (pss_cons (ps_for (passes_of rfl) rfl (pi_list (pv 1)) (pg_name (i := 9) sc__law_good.nd rfl (Or.inl rfl)) (pss_one (ps_set (i := 8) sc__law_good.nd rfl (Or.inl rfl) (pe_op op_add (pe_op op_mulX (pv 8) (pv 2)) (pv 9)))))
      (pss_one (ps_ret (pe_callTy call_list_of (by rfl) T.z_list (by decide +kernel) (pa_cons (pe_ix ix_tup (pe_ix ix_tup (pv 0) pe_int (fun _ _ => rfl)) (pv 8) (fun _ _ => rfl)) pa_nil)))))) pss_nil)
      (pss_one (ps_ret (pe_lc (own := [("_law_x", 10)]) rfl sc__law_good.nd (pi_list (pv 4)) (blkOk_by (N := N__law_good) (sc := defScope s__law_good) (by decide +kernel)) (fun _ _ _ _ _ => (pg_name (i := 10) sc__law_good.nd rfl (Or.inl rfl))) (fun _ _ _ _ _ => (pts_one (pt_val (pe_call (ok__law_simple_good T) (hr.mono (by omega)) rfl T.g__law_simple_good T.F__law_simple_good.kp T.b__law_simple_good .nil passN (pa_cons (pv 0) (pa_cons (pv 1) (pa_cons (pe_ix ix_list (pv 1) (pv 10) (fun _ _ => rfl)) (pa_cons (pv 10) pa_nil)))))))) (fun _ _ _ _ _ => (pv 10)))))))))))))),
      (sSeq (sAsg (sOp roIxT sVar sInt) sName)
      (sSeq (sAsg (sLstR1 (sCB rcLen (sCons sVar sNil))) sName)
      (sSeq (sIfS (sTest (sOp roEq sVar sStr)) (sSeq (sAsg (sCall (sCons (sOp roIxT sVar sInt) (sCons sVar (sCons sVar sNil)))) sName)
      (sRet (sLc (siL sVar) (gwName List.mem_cons_self) (fun _ _ _ => sName) (fun _ _ _ => (sTest (sOp (roIn (neg := true)) sVar sVar))) (fun _ _ _ => sVar)))) sNext)
      (sSeq (sIfS (sTest (sOp (roIn (neg := false)) sVar (sLst (sCons sStr (sCons sStr (sCons sStr sNil)))))) (sSeq (sAsg (sCall (sCons (sOp roIxT sVar sInt) (sCons sVar (sCons sVar sNil)))) sName)
      (sSeq (sAsg (sCall (sCons (sOp roIxT sVar sInt) (sCons sVar (sCons sVar sNil)))) sName)
      (sSeq (sIfS (sTest (sOp roEq sVar sStr)) (sRet (sLc (siL sVar) (gwName List.mem_cons_self) (fun _ _ _ => sName) (fun _ _ _ => (sOr (sTest (sOp (roIn (neg := false)) sVar sVar)) (sTest (sOp (roIn (neg := false)) sVar sVar)))) (fun _ _ _ => sVar))) sNext)
      (sSeq (sIfS (sTest (sOp roEq sVar sStr)) (sRet (sLc (siL sVar) (gwName List.mem_cons_self) (fun _ _ _ => sName) (fun _ _ _ => (sTest (sOp (roIn (neg := false)) sVar sVar))) (fun _ _ _ => sVar))) sNext)
      (sRet (sOp roIxL (sLst (sCons sVar (sCons sVar sNil))) (sCB rcInt (sCons (sOp roEq (sCB rcLen (sCons sVar sNil)) sInt) sNil)))))))) sNext)
      (sSeq (sIfS (sTest (sOp roEq sVar sStr)) (sRet (sSlL (sCall (sCons (sOp roIxT sVar sInt) (sCons sVar (sCons sVar sNil)))) sNoPart (sPart sInt))) sNext)
      (sSeq (sIfS (sTest (sOp roEq sVar sStr)) (sRet (sCall (sCons (sOp roIxT sVar sInt) (sCons (sLc (siL sVar) (gwName List.mem_cons_self) (fun _ _ _ => sName) (fun _ _ _ => sYes) (fun _ _ _ => (sOp roIxT (sOp roIxT sVar sInt) sVar))) (sCons sVar sNil))))) sNext)
      (sSeq (sIfS (sTest (sOp roEq sVar sStr)) (sSeq (sAsg (sCall (sCons (sOp roIxT sVar sInt) (sCons (sLc (siL sVar) (gwName List.mem_cons_self) (fun _ _ _ => sName) (fun _ _ _ => sYes) (fun _ _ _ => (sOp roIxL sVar (sIdxT (sOp roIxT sVar sInt) sVar)))) (sCons sVar sNil)))) sName)
      (sRet (sLc (siL sVar) (gwName List.mem_cons_self) (fun _ _ _ => sName) (fun _ _ _ => (sTest (sOp (roIn (neg := false)) (sOp roIxT (sOp roIxT sVar sInt) sVar) sVar))) (fun _ _ _ => sVar)))) sNext)
      (sSeq (sIfS (sTest (sOp roEq sVar sStr)) (sRet (sCB rcList (sCons (sOp roIxT sVar sInt) sNil))) sNext)
      (sSeq (sIfS (sTest (sOp roEq sVar sStr)) (sSeq (sAsg sInt sName)
      (sSeq (sFor (siL sVar) (fun _ _ _ => sName) (fun _ _ _ => (sAsg (sOp roInt0 (sOp roInt sVar sVar) sVar) sName)))
      (sRet (sCB rcList (sCons (sOp roIxT (sOp roIxT sVar sInt) sVar) sNil))))) sNext)
      (sRet (sLc (siL sVar) (gwName List.mem_cons_self) (fun _ _ _ => sName) (fun _ _ _ => (sB (sCall (sCons sVar (sCons sVar (sCons (sOp roIxL sVar sVar) (sCons sVar sNil))))))) (fun _ _ _ => sVar))))))))))))⟩) (fun ds μ Φ Ψ h => ?hv)
  case hv =>
    obtain ⟨nn, k, a, c, rfl, hd, ha, hc, h⟩ := h
    have hl := hc.len
    have h64 := hc.n64
    cases a
    all_goals simp only [Am.d, Am.iT]
    all_goals simp only [Am.dep] at hd
    all_goals walk_at "wps"
    all_goals simp (config := { decide := true }) only [false_implies, true_implies, and_true, true_and, not_true_eq_false, not_false_eq_true]
    case not a =>
      refine ⟨by omega, by omega, .inr ⟨nn, k, a, c, rfl, by omega, ha, hc, ?_⟩⟩
      rw [rngD_opts]
      refine lcZf (fun z => !isG k a c z.toNat) .int (by rw [optsI_len]; omega) (fun z μ2 X Y hz hsub hx hy => ?_) (ret_same ?_)
      · walk_at "wps"
        refine nin_IL ⟨_, rfl, ?_⟩
        rw [goodL_has hz]
        exact ⟨hx, hy⟩
      · rw [goodL_opts] at h
        exact h
    case either a b =>
      refine ⟨by omega, by omega, in_S (l := ["either", "both", "else"]) ⟨_, rfl, fun _ => ?_, fun q => absurd q (by decide)⟩⟩
      refine .inr ⟨nn, k, a, c, rfl, by omega, ha.1, hc, .inr ⟨nn, k, b, c, rfl, by omega, ha.2, hc, ?_⟩⟩
      rw [rngD_opts]
      refine lcZf (fun z => isG k a c z.toNat || isG k b c z.toNat) .int (by rw [optsI_len]; omega) (fun z μ2 X Y hz hsub hx hy => ?_) (ret_same ?_)
      · walk_at "wps"
        refine in_IL ⟨_, rfl, ?_⟩
        rw [goodL_has hz]
        refine ⟨fun q => hx (by rw [q]; rfl), fun q => ?_⟩
        refine in_IL ⟨_, rfl, ?_⟩
        rw [goodL_has hz]
        exact ⟨fun q2 => hx (by rw [q2, Bool.or_true]), fun q2 => hy (by rw [q, q2]; rfl)⟩
      · rw [goodL_opts] at h
        exact h
    case both a b =>
      refine ⟨by omega, by omega, in_S (l := ["either", "both", "else"]) ⟨_, rfl, fun _ => ?_, fun q => absurd q (by decide)⟩⟩
      refine .inr ⟨nn, k, a, c, rfl, by omega, ha.1, hc, .inr ⟨nn, k, b, c, rfl, by omega, ha.2, hc, ?_⟩⟩
      walk_at "wps"
      have := goodL_le k a c
      refine lcZf (fun z => isG k b c z.toNat) .int (by omega) (fun z μ2 X Y hz hsub hx hy => ?_) (ret_same ?_)
      · walk_at "wps"
        refine in_IL ⟨_, rfl, ?_⟩
        rw [goodL_opts] at hz
        rw [goodL_has (List.mem_filter.mp hz).1]
        exact ⟨hx, hy⟩
      · rw [goodL_opts] at h
        rw [goodL_opts k a c, List.filter_filter]
        have e : (fun z : Int => isG k b c z.toNat && isG k a c z.toNat) = fun z : Int => isG k (.both a b) c z.toNat := by
          funext z; show _ = (isG k a c z.toNat && isG k b c z.toNat); rw [Bool.and_comm]
        rw [e]
        exact h
    case els a b =>
      refine ⟨by omega, by omega, in_S (l := ["either", "both", "else"]) ⟨_, rfl, fun _ => ?_, fun q => absurd q (by decide)⟩⟩
      refine .inr ⟨nn, k, a, c, rfl, by omega, ha.1, hc, .inr ⟨nn, k, b, c, rfl, by omega, ha.2, hc, ?_⟩⟩
      refine ⟨_, .lst _, w_intBl ?_⟩
      have ea : goodL k (.els a b) c = if (goodL k a c).length = 0 then goodL k b c else goodL k a c := by
        by_cases q : (goodL k a c).length = 0
        · rw [if_pos q, goodL_opts, goodL_opts]
          have sn : someI c.length (isG k a c) = false := by
            rw [Bool.eq_false_iff]
            intro z
            obtain ⟨j, h1, h2, _⟩ := some_first z
            have : (j : Int) ∈ goodL k a c := by rw [goodL_opts]; exact List.mem_filter.mpr ⟨mem_opts.mpr (by omega), h2⟩
            have := List.length_pos_of_mem this
            omega
          refine List.filter_congr fun z hz => ?_
          show (if someI c.length (isG k a c) then isG k a c z.toNat else isG k b c z.toNat) = _
          rw [sn]; rfl
        · rw [if_neg q, goodL_opts, goodL_opts]
          have sn : someI c.length (isG k a c) = true := by
            cases hg : goodL k a c with
            | nil => rw [hg] at q; exact absurd rfl q
            | cons x r =>
              have hx : x ∈ goodL k a c := by rw [hg]; exact List.mem_cons_self
              rw [goodL_opts] at hx
              obtain ⟨x1, x2⟩ := List.mem_filter.mp hx
              exact some_yes x2 (mem_opts.mp x1).2
          refine List.filter_congr fun z hz => ?_
          show (if someI c.length (isG k a c) then isG k a c z.toNat else isG k b c z.toNat) = _
          rw [sn]; rfl
      rw [ea] at h
      by_cases q : (goodL k a c).length = 0
      · rw [if_pos q] at h
        rw [List.length_map, q]
        walk_at "wps"
        exact ⟨_, rfl, ret_same h⟩
      · rw [if_neg q] at h
        rw [List.length_map, decide_eq_false (by omega)]
        walk_at "wps"
        exact ⟨_, rfl, ret_same h⟩
    case first a =>
      refine ⟨by omega, by omega, in_S (l := ["either", "both", "else"]) ⟨_, rfl, fun q => absurd q (by decide), fun _ => ?_⟩⟩
      refine .inr ⟨nn, k, a, c, rfl, by omega, ha, hc, ⟨_, .lst _, rfl, ret_same ?_⟩⟩
      have e1 : DW.cutD ((goodL k a c).map D.int) none (some 1) = ((goodL k a c).take 1).map .int := by
        rw [List.map_take]; exact cut_to 1
      have e2 : (goodL k a c).take 1 = goodL k (.first a) c := by
        unfold goodL
        rw [← List.map_take, take_first]
        rfl
      rw [e1, e2]
      exact h
    case recode m a =>
      refine ⟨by omega, by omega, in_S (l := ["either", "both", "else"]) ⟨_, rfl, fun q => absurd q (by decide), fun _ => ?_⟩⟩
      have inn : ∀ z ∈ c, z.toNat < m.length := fun z hz => by have := hc.lo z hz; have := hc.hi z hz; rw [ha.1.1]; omega
      refine lcZ (fun z => .int (at' m z)) (by omega) (fun z μ2 X hz hsub hx => ?_) ?_
      · walk_at "wps"
        refine ⟨_, atI_map (hc.lo z hz) (inn z hz), ?_⟩
        unfold at' at hx
        rw [getD_of (List.getElem?_eq_getElem (inn z hz))] at hx
        exact hx
      · have e1 : c.map (fun z => D.int (at' m z)) = (c.map (at' m)).map .int := by rw [List.map_map]; rfl
        rw [e1]
        have lim : ∀ r ∈ c.map (at' m), 0 ≤ r ∧ r < (k : Int) := fun r hr => by
          obtain ⟨z, hz, rfl⟩ := List.mem_map.mp hr
          exact ha.1.2 _ (by unfold at'; rw [getD_of (List.getElem?_eq_getElem (inn z hz))]; exact List.getElem_mem _)
        refine .inr ⟨nn, k, a, c.map (at' m), rfl, by omega, ha.2, ⟨by rw [List.length_map]; exact hl, fun r hr => (lim r hr).1, fun r hr => (lim r hr).2, hc.n1, hc.n64, hc.k1, hc.k4⟩, ret_same ?_⟩
        have e : goodL k (.recode m a) c = goodL k a (c.map (at' m)) := by unfold goodL; rw [List.length_map]; rfl
        rw [← e]; exact h
    case reorder p a =>
      refine ⟨by omega, by omega, in_S (l := ["either", "both", "else"]) ⟨_, rfl, fun q => absurd q (by decide), fun _ => ?_⟩⟩
      rw [rngD_opts]
      have pm : ∀ z ∈ optsI c.length, z ∈ p := fun z hz => by
        have h1 := mem_opts.mp hz
        have := perm_all ha.1 ha.2.1 (y := z.toNat) (by omega)
        rw [Int.toNat_of_nonneg h1.1] at this
        exact this
      have jl : ∀ z ∈ optsI c.length, p.idxOf z < c.length := fun z hz => by
        have := (List.getElem?_eq_some_iff.mp (idx_first (pm z hz)).1).1
        rw [ha.1.1] at this
        omega
      refine lcZ (fun z => .int (c.getD (p.idxOf z) 0)) (by rw [optsI_len]; omega) (fun z μ2 X hz hsub hx => ?_) ?_
      · walk_at "wps"
        refine ⟨p, rfl, z, p.idxOf z, rfl, (idx_first (pm z hz)).1, (idx_first (pm z hz)).2, ?_⟩
        walk_at "wps"
        refine ⟨.int (c.getD (p.idxOf z) 0), atI_nat (by rw [List.getElem?_map, List.getElem?_eq_getElem (jl z hz), getD_of (List.getElem?_eq_getElem (jl z hz))]; rfl), hx⟩
      · have e1 : (optsI c.length).map (fun z => D.int (c.getD (p.idxOf z) 0)) = ((List.range c.length).map fun (y : Nat) => c.getD (p.idxOf (y : Int)) (0 : Int)).map .int := by
          unfold optsI
          rw [List.map_map, List.map_map]; rfl
        rw [e1]
        have cl : ((List.range c.length).map fun (y : Nat) => c.getD (p.idxOf (y : Int)) (0 : Int)).length = c.length := by rw [List.length_map, List.length_range]
        have lim : ∀ r ∈ (List.range c.length).map fun (y : Nat) => c.getD (p.idxOf (y : Int)) (0 : Int), 0 ≤ r ∧ r < (k : Int) := fun r hr => by
          obtain ⟨y, hy, rfl⟩ := List.mem_map.mp hr
          have hj := jl (y : Int) (mem_opts.mpr ⟨by omega, by have := List.mem_range.mp hy; omega⟩)
          rw [getD_of (List.getElem?_eq_getElem hj)]
          exact ⟨hc.lo _ (List.getElem_mem hj), hc.hi _ (List.getElem_mem hj)⟩
        refine .inr ⟨nn, k, a, _, rfl, by omega, ha.2.2, ⟨by rw [cl]; exact hl, fun r hr => (lim r hr).1, fun r hr => (lim r hr).2, hc.n1, hc.n64, hc.k1, hc.k4⟩, ?_⟩
        refine lcZf (fun z => isG k a ((List.range c.length).map fun (y : Nat) => c.getD (p.idxOf (y : Int)) (0 : Int)) (at' p z).toNat) .int (by rw [optsI_len]; omega) (fun z μ2 X Y hz hsub hx hy => ?_) (ret_same ?_)
        · have h1 := mem_opts.mp hz
          have hp : z.toNat < p.length := by rw [ha.1.1]; omega
          walk_at "wps"
          refine ⟨.int (at' p z), ?_, in_IL ⟨_, rfl, ?_⟩⟩
          · rw [atI_map h1.1 hp]
            unfold at'
            rw [getD_of (List.getElem?_eq_getElem hp)]
          · rw [goodL_has ?_]
            · exact ⟨hx, hy⟩
            · rw [cl]
              have h2 := ha.1.2 _ (List.getElem_mem hp)
              unfold at'
              rw [getD_of (List.getElem?_eq_getElem hp)]
              exact mem_opts.mpr (by omega)
        · rw [goodL_opts] at h
          have e : (optsI c.length).filter (fun z => isG k a ((List.range c.length).map fun (y : Nat) => c.getD (p.idxOf (y : Int)) (0 : Int)) (at' p z).toNat) = (optsI c.length).filter (fun z => isG k (.reorder p a) c z.toNat) := by
            refine List.filter_congr fun z hz => ?_
            obtain ⟨i, rfl⟩ : ∃ i : Nat, z = (i : Int) := ⟨z.toNat, by have := mem_opts.mp hz; omega⟩
            rfl
          rw [e]
          exact h
    case only l =>
      refine ⟨by omega, by omega, in_S (l := ["either", "both", "else"]) ⟨_, rfl, fun q => absurd q (by decide), fun _ => ret_same ?_⟩⟩
      have e : goodL k (.only l) c = l := by
        rw [goodL_opts]
        refine Eq.trans (List.filter_congr fun z hz => ?_) (asc_opts (n := c.length) (by rw [hl]; exact ha))
        obtain ⟨i, rfl⟩ : ∃ i : Nat, z = (i : Int) := ⟨z.toNat, by have := mem_opts.mp hz; omega⟩
        rfl
      rw [e] at h
      exact h
    case table rows =>
      refine ⟨by omega, by omega, in_S (l := ["either", "both", "else"]) ⟨_, rfl, fun q => absurd q (by decide), fun _ => ?_⟩⟩
      refine ⟨fun i δ' μ' => μ' = μ ∧ ∃ x : Option D, δ' = [some (.tup [.str "table", .tup (rows.map Am.iT)]), some (.lst (c.map .int)), some (.int k), some (.str "table"), some (.lst (rngD 0 c.length)), none, none, none, some (.int (ctxIx k (c.take i))), x, none, none], ⟨rfl, none, rfl⟩, ?_, ?_⟩
      · rintro i d δ' μ' hi ⟨rfl, x, rfl⟩
        obtain ⟨z, hz, rfl⟩ := mapI_get hi
        walk_at "wps"
        refine ⟨mulx 140 10 (ctxIx_small hc i) (by rw [Int.natAbs_natCast]; exact Nat.lt_of_le_of_lt hc.k4 (by decide)) (by decide), some (.int z), ?_⟩
        rw [ctxIx_step hz]
      · rintro δ' μ' ⟨rfl, x, rfl⟩
        walk_at "wps"
        rw [List.take_length]
        have hi : (ctxIx k c).toNat < rows.length ∧ 0 ≤ ctxIx k c := ⟨by rw [ha.2.2.1]; exact (ctxIx_ok hc).2, (ctxIx_ok hc).1⟩
        refine ⟨Am.iT rows[(ctxIx k c).toNat], atI_map hi.2 hi.1, _, .tup _, ret_same ?_⟩
        have e : goodL k (.table rows) c = rows[(ctxIx k c).toNat] := by
          rw [goodL_opts]
          refine Eq.trans (List.filter_congr fun z hz => ?_) (asc_opts (n := c.length) (by rw [hl]; exact ha.2.2.2 _ (List.getElem_mem hi.1)))
          obtain ⟨i, rfl⟩ : ∃ i : Nat, z = (i : Int) := ⟨z.toNat, by have := mem_opts.mp hz; omega⟩
          simp only [isG, List.getD_eq_getElem?_getD, List.getElem?_eq_getElem hi.1, Option.getD_some]
          rfl
        rw [e] at h
        exact h
    all_goals
      refine ⟨by omega, by omega, in_S (l := ["either", "both", "else"]) ⟨_, rfl, fun q => absurd q (by decide), fun _ => ?_⟩⟩
      rw [rngD_opts]
      rw [goodL_opts] at h
      refine lcZf _ .int (by rw [optsI_len]; omega) (fun z μ2 X Y hz hsub hx hy => ?_) (ret_same h)
      obtain ⟨i, rfl⟩ : ∃ i : Nat, z = (i : Int) := ⟨z.toNat, by have := mem_opts.mp hz; omega⟩
      have hi : i < c.length := by have := mem_opts.mp hz; omega
      walk_at "wps"
      refine ⟨.int (c.getD i 0), atI_nat (by rw [List.getElem?_map, List.getElem?_eq_getElem hi, getD_of (List.getElem?_eq_getElem hi)]; rfl), .inr ⟨nn, k, i, _, c, rfl, rfl, ha, hc, by omega, _, rfl, ?_⟩⟩
      rw [Int.toNat_natCast] at hx hy
      exact ⟨hx, hy⟩
end
section
variable {P : Program} {w : World} {K : Fg} {mg : Str → Option Value} {base : Heap}
def c_require_same_size (C S : Addr) : Con := fun ds μ Φ Ψ => ∃ (a b : Am) (n k m j : Nat), ds = [aimO C a n k, aimO C b m j] ∧ ((n = m ∧ k = j) → Φ .non μ) ∧ (¬ (n = m ∧ k = j) → Ψ (.mk S none) μ)
theorem len_require_same_size {C S ds μ Φ Ψ} (h : c_require_same_size C S ds μ Φ Ψ) : ds.length = 2 := by obtain ⟨_, _, _, _, _, _, rfl, _⟩ := h; rfl
theorem ok_require_same_size (T : Txt P w K mg) : FnOk P w K mg base (L2N.CX P w) 1 T.f_require_same_size T.d_require_same_size ["first", "second"] (spOf K (c_require_same_size T.c_Aim T.c_SizeMismatch)) := by
  refine def_okC T.F_require_same_size sc_require_same_size _ (fun ds μ Φ Ψ h => len_require_same_size h) (fun cdv A outer s H E B hW hr =>
    have tk : L2N.Takes (cxOf (L2N.CX P w) P w K mg base N_require_same_size "require_same_size" (defScope s_require_same_size) T.f_require_same_size cdv A outer s H E) (fun cls d _ H => E cls d H) := L2N.takes_of rfl rfl rfl rfl
    ⟨_, (pss_one (ps_if (pt_cmpR (op_neD hr.units) (pe_tupN (pa_cons (pe_fld (pv 0) rfl) (pa_cons (pe_fld (pv 0) rfl) pa_nil))) (pe_tupN (pa_cons (pe_fld (pv 1) rfl) (pa_cons (pe_fld (pv 1) rfl) pa_nil))) (nomark _)) (pss_one (L2N.ps_raise rfl tk (L2N.pmk_own PySem.F.excBase_ValueError T.x_SizeMismatch T.g_SizeMismatch T.k_SizeMismatch (raises_own T.e_SizeMismatch T.t_SizeMismatch) rfl))) pss_nil)),
      (sIfS (sTest (sOp roNeD (sTup (sCons (sFldO (NS := NSA) (i := 1) T.cls_Aim T.na_Aim_options rfl (by decide) sVar) (sCons (sFldO (NS := NSA) (i := 2) T.cls_Aim T.na_Aim_outcomes rfl (by decide) sVar) sNil))) (sTup (sCons (sFldO (NS := NSA) (i := 1) T.cls_Aim T.na_Aim_options rfl (by decide) sVar) (sCons (sFldO (NS := NSA) (i := 2) T.cls_Aim T.na_Aim_outcomes rfl (by decide) sVar) sNil))))) (sRaise0W (W := fun cls d _ H => E cls d H) (C := T.c_SizeMismatch) (by exact hW)) sNext)⟩) (fun ds μ Φ Ψ h => ?hv)
  case hv =>
    obtain ⟨a, b, n, k, m, j, rfl, h1, h2⟩ := h
    unfold aimO
    walk_at "wps"
    have e : eqD (.tup [.int n, .int k]) (.tup [.int m, .int j]) = decide (n = m ∧ k = j) := by
      have := eqD_ints [(n : Int), k] [(m : Int), j]
      simp only [List.map_cons, List.map_nil] at this
      rw [this]
      apply decide_eq_decide.mpr
      simp only [List.cons.injEq, and_true]
      omega
    refine ⟨by decide, by decide, side_ints [(n : Int), k], side_ints [(m : Int), j], ?_⟩
    rw [e]
    by_cases q : n = m ∧ k = j
    · rw [decide_eq_true q]
      exact ⟨_, rfl, fun z => absurd z (by decide), fun _ => ret_same (h1 q)⟩
    · rw [decide_eq_false q]
      exact ⟨_, rfl, fun _ => ⟨_, Sub.refl, h2 q⟩, fun z => absurd z (by decide)⟩
def c_rows_through : Con := fun ds μ Φ _ => ∃ cols : List (List Int), ds = [.tup (cols.map Am.iT)] ∧ (∀ i, (thru (cols.take i)).length ≤ 50000) ∧ (∀ c ∈ cols, c.length ≤ 50000 ∧ c ≠ []) ∧ cols.length ≤ 1000 ∧ Φ (.tup ((thru cols).map Am.iT)) μ
theorem len_rows_through {ds μ Φ Ψ} (h : c_rows_through ds μ Φ Ψ) : ds.length = 1 := by obtain ⟨_, rfl, _⟩ := h; rfl
theorem thru_row : ∀ (cols : List (List Int)) (rows : List (List Int)) (m : Nat), (∀ r ∈ rows, r.length = m) → ∀ r ∈ cols.foldl (fun rows col => rows.flatMap fun r => col.map fun e => r ++ [e]) rows, r.length = m + cols.length
  | [], rows, m, h, r, hr => h r hr
  | c :: cols, rows, m, h, r, hr => by
    have := thru_row cols (rows.flatMap fun r => c.map fun e => r ++ [e]) (m + 1) (fun r hr => by
      obtain ⟨r0, h0, h1⟩ := List.mem_flatMap.mp hr
      obtain ⟨e, _, rfl⟩ := List.mem_map.mp h1
      rw [List.length_append, h r0 h0]; rfl) r hr
    rw [List.length_cons]
    omega
theorem thru_rng (a : List (List Int)) (c : List Int) : ((List.range (a.map Am.iT).length).flatMap fun i => (List.range (c.map D.int).length).map fun j => Am.iT (a.getD i [] ++ [c.getD j 0])) = (a.flatMap fun r => c.map fun e => r ++ [e]).map Am.iT := by
  rw [List.length_map, List.length_map, List.map_flatMap]
  have e1 : a.flatMap (fun r => (c.map fun e => r ++ [e]).map Am.iT) = ((List.range a.length).map fun i => a.getD i []).flatMap (fun r => (c.map fun e => r ++ [e]).map Am.iT) := by
    congr 1
    apply List.ext_getElem
    · simp
    · intro i h1 h2
      simp [List.getD_eq_getElem?_getD, List.getElem?_eq_getElem h1]
  rw [e1, List.flatMap_map]
  refine congrArg (fun f => (List.range a.length).flatMap f) (funext fun i => ?_)
  rw [List.map_map]
  conv => rhs; rw [← rng_getD c, List.map_map]
  rfl
theorem thru_max {cols : List (List Int)} {i : Nat} {c : List Int} (hi : cols[i]? = some c) (hc : c ≠ []) (hz : ∀ i, (thru (cols.take i)).length ≤ 50000) : (thru (cols.take i)).length * c.length ≤ 50000 := by
  have := hz (i + 1)
  rw [List.take_add_one, hi, Option.toList_some, thru_snoc, List.length_flatMap] at this
  simp only [List.length_map, List.map_const', List.sum_replicate_nat] at this
  exact this
theorem ok_rows_through {cx : CXT} (T : Txt P w K mg) : FnOk P w K mg base cx 1 T.f_rows_through T.d_rows_through ["columns"] (spOf K c_rows_through) := by
  refine def_okC T.F_rows_through sc_rows_through _ (fun ds μ Φ Ψ h => len_rows_through h) (fun cdv A outer s H E B hW hr =>
    ⟨_, (pss_cons (ps_set (i := 1) sc_rows_through.nd rfl (Or.inl rfl) (pe_lst (pa_cons (pe_tupN pa_nil) pa_nil)))
      (pss_cons (ps_for (passes_of rfl) rfl (pi_tup (pv 0)) (pg_name (i := 2) sc_rows_through.nd rfl (Or.inr rfl)) (pss_one (ps_setLc2 (i := 1) (own := [("row", 3), ("entry", 4)]) (vs1 := [4]) rfl sc_rows_through.nd rfl rfl (sw_true rfl rfl rfl (by decide +kernel)) (pi_list (pv 1)) (blkOk_by (N := N_rows_through) (sc := defScope s_rows_through) (by decide +kernel)) (by decide) (fun _ _ _ _ _ => (pg_name (i := 3) sc_rows_through.nd rfl (Or.inl rfl))) (fun _ _ _ _ _ => pts_nil) (fun _ _ _ _ _ => (pi_tup (pv 2))) (fun _ _ _ _ _ => (pg_name (i := 4) sc_rows_through.nd rfl (Or.inl rfl))) (fun _ _ _ _ _ => pts_nil) (fun _ _ _ _ _ => (pe_op op_catN (pv 3) (pe_tupN (pa_cons (pv 4) pa_nil)))))))
      (pss_one (ps_ret (pe_callTy call_tupleN (by rfl) T.z_tuple (by decide +kernel) (pa_cons (pv 1) pa_nil)))))),
      (sSeq (sAsg (sLst (sCons (sTup sNil) sNil)) sName)
      (sSeq (sFor (siT sVar) (fun _ _ _ => sName) (fun _ _ _ => (sAsg (sLc2 (siL sVar) (gwName List.mem_cons_self) (gwName List.mem_cons_self) (fun _ _ _ => sName) (fun _ _ _ => sYes) (fun _ _ _ => (siT sVar)) (fun _ _ _ => sName) (fun _ _ _ => sYes) (fun _ _ _ => (sOp roCatT sVar (sTup (sCons sVar sNil))))) sName)))
      (sRet (sCB rcTuple (sCons sVar sNil)))))⟩) (fun ds μ Φ Ψ h => ?hv)
  case hv =>
    obtain ⟨cols, rfl, hz, hc, hl, h⟩ := h
    walk_at "wps"
    refine ⟨by decide, by decide, fun i δ' μ' => μ' = μ ∧ ∃ x y z : Option D, δ' = [some (.tup (cols.map Am.iT)), some (.lst ((thru (cols.take i)).map Am.iT)), x, y, z], ⟨rfl, none, none, none, rfl⟩, ?_, ?_⟩
    · rintro i d δ' μ' hi ⟨rfl, x, y, z, rfl⟩
      rw [List.getElem?_map, Option.map_eq_some_iff] at hi
      obtain ⟨c, hi, rfl⟩ := hi
      have hc1 := hc c (List.mem_of_getElem? hi)
      have hm := thru_max hi hc1.2 hz
      have hp : 0 < c.length := List.length_pos_iff.mpr hc1.2
      have hle : (thru (cols.take i)).length ≤ (thru (cols.take i)).length * c.length := Nat.le_mul_of_pos_right _ hp
      refine ⟨_, rfl, _, rfl, ?_⟩
      refine lcG2_pure (fun _ => c.map .int) (fun i' j => Am.iT ((thru (cols.take i)).getD i' [] ++ [c.getD j 0])) (fun i' hi' => ?_) (fun _ => by rw [List.length_map]; exact hc1.1) (fun i' d μ2 X hd hs hx => ?_) (fun i' d j d1 μ2 X hd hd1 hs hx => ?_) ?_
      · rw [List.length_flatMap]
        simp only [List.length_map, List.length_range, List.map_const', List.sum_replicate_nat] at hi' ⊢
        exact Nat.le_trans (Nat.mul_le_mul_right _ hi') hm
      · unfold Am.iT
        walk_at "wps"
        exact hx
      · rw [List.getElem?_map, Option.map_eq_some_iff] at hd
        obtain ⟨r, hr, rfl⟩ := hd
        obtain ⟨e, he, rfl⟩ := mapI_get hd1
        rw [List.getD_eq_getElem?_getD, hr, List.getD_eq_getElem?_getD, he] at hx
        unfold Am.iT
        walk_at "wps"
        have hrl := thru_row (cols.take i) [[]] 0 (by simp) r (List.mem_of_getElem? hr)
        rw [List.length_take] at hrl
        refine ⟨by decide, by omega, ?_⟩
        unfold Am.iT at hx
        rw [List.map_append] at hx
        exact hx
      · rw [thru_rng]
        refine ⟨rfl, some (Am.iT c), y, z, ?_⟩
        rw [List.take_add_one, hi, Option.toList_some, thru_snoc]
        rfl
    · rintro δ' μ' ⟨rfl, x, y, z, rfl⟩
      rw [List.take_length]
      exact ⟨_, rfl, _, .lst _, ret_same h⟩
theorem thru_pos : ∀ (n : Nat) (c : List Int), (thru (List.replicate n c)).length = c.length ^ n
  | 0, c => rfl
  | n + 1, c => by
    rw [List.replicate_succ', thru_snoc, List.length_flatMap]
    simp only [List.length_map, List.map_const', List.sum_replicate_nat, thru_pos n c]
    rw [Nat.pow_succ]
def c_all_contexts : Con := fun ds μ Φ _ => ∃ n k : Nat, ds = [.int n, .int k] ∧ 1 ≤ n ∧ n ≤ 8 ∧ 1 ≤ k ∧ k ≤ 4 ∧ k ^ n ≤ 256 ∧ Φ (.tup ((ctxs n k).map Am.iT)) μ
theorem len_all_contexts {ds μ Φ Ψ} (h : c_all_contexts ds μ Φ Ψ) : ds.length = 2 := by obtain ⟨_, _, rfl, _⟩ := h; rfl
theorem ok_all_contexts {cx : CXT} (T : Txt P w K mg) : FnOk P w K mg base cx 2 T.f_all_contexts T.d_all_contexts ["options", "outcomes"] (spOf K c_all_contexts) := by
  refine def_okC T.F_all_contexts sc_all_contexts _ (fun ds μ Φ Ψ h => len_all_contexts h) (fun cdv A outer s H E B hW hr =>
    ⟨_, (pss_one (ps_ret (pe_call (ok_rows_through T) hr rfl T.g_rows_through T.F_rows_through.kp T.b_rows_through .nil passN (pa_cons (pe_op op_repA (pe_tupN (pa_cons (pe_tupRgN rfl rfl T.z_tuple (prg_1 rfl T.z_range (pv 1))) pa_nil)) (pv 0)) pa_nil)))),
      (sRet (sCall (sCons (sOp roRepT (sTup (sCons (sTupR1 sVar) sNil)) sVar) sNil)))⟩) (fun ds μ Φ Ψ h => ?hv)
  case hv =>
    obtain ⟨n, k, rfl, n1, n8, k1, k4, h256, h⟩ := h
    walk_at "wps"
    refine ⟨by omega, by omega, by omega, by omega, by omega, by omega, ?_⟩
    have e : (List.replicate n [D.tup (rngD 0 k)]).flatten = (List.replicate n (optsI k)).map Am.iT := by
      rw [List.flatten_replicate_singleton, List.map_replicate, rngD_opts]
      rfl
    rw [e]
    refine ⟨_, rfl, fun i => ?_, fun c hc => ?_, by rw [List.length_replicate]; omega, ret_same h⟩
    · rw [List.take_replicate, thru_pos, optsI_len]
      have h1 : k ^ min i n ≤ k ^ n := Nat.pow_le_pow_right k1 (Nat.min_le_right _ _)
      omega
    · rw [List.eq_of_mem_replicate hc]
      refine ⟨by rw [optsI_len]; omega, fun z => ?_⟩
      have := optsI_len k
      rw [z] at this
      simp at this
      omega
def SmallOk (n k : Nat) : Prop := n ≤ 8 ∧ k ^ n ≤ 256
instance (n k : Nat) : Decidable (SmallOk n k) := inferInstanceAs (Decidable (_ ∧ _))
def c_require_small (L : Addr) : Con := fun ds μ Φ Ψ => ∃ n k : Nat, ds = [.int n, .int k] ∧ SzOk n k ∧ (SmallOk n k → Φ .non μ) ∧ (¬ SmallOk n k → Ψ (.mk L none) μ)
theorem len_require_small {L ds μ Φ Ψ} (h : c_require_small L ds μ Φ Ψ) : ds.length = 2 := by obtain ⟨_, _, rfl, _⟩ := h; rfl
theorem ok_require_small (T : Txt P w K mg) : FnOk P w K mg base (L2N.CX P w) 4 T.f_require_small T.d_require_small ["options", "outcomes"] (spOf K (c_require_small T.c_TooLarge)) := by
  refine def_okC T.F_require_small sc_require_small _ (fun ds μ Φ Ψ h => len_require_small h) (fun cdv A outer s H E B hW hr =>
    have tk : L2N.Takes (cxOf (L2N.CX P w) P w K mg base N_require_small "require_small" (defScope s_require_small) T.f_require_small cdv A outer s H E) (fun cls d _ H => E cls d H) := L2N.takes_of rfl rfl rfl rfl
    ⟨_, (pss_one (ps_if (pt_not (pt_val (pe_call (ok_is_small T) hr rfl T.g_is_small T.F_is_small.kp T.b_is_small .nil passN (pa_cons (pv 0) (pa_cons (pv 1) pa_nil))))) (pss_one (L2N.ps_raise rfl tk (L2N.pmk_own PySem.F.excBase_ValueError T.x_TooLarge T.g_TooLarge T.k_TooLarge (raises_own T.e_TooLarge T.t_TooLarge) rfl))) pss_nil)),
      (sIfS (sNot (sB (sCall (sCons sVar (sCons sVar sNil))))) (sRaise0W (W := fun cls d _ H => E cls d H) (C := T.c_TooLarge) (by exact hW)) sNext)⟩) (fun ds μ Φ Ψ h => ?hv)
  case hv =>
    obtain ⟨n, k, rfl, hs, h1, h2⟩ := h
    walk_at "wps"
    refine ⟨n, k, rfl, hs.n1, hs.k1, hs.k4, ?_⟩
    by_cases q : SmallOk n k
    · rw [decide_eq_true (show n ≤ 8 ∧ k ^ n ≤ 256 from q)]
      walk_at "wps"
      exact ret_same (h1 q)
    · rw [decide_eq_false (show ¬ (n ≤ 8 ∧ k ^ n ≤ 256) from q)]
      walk_at "wps"
      exact ⟨_, Sub.refl, h2 q⟩
structure AmIn (n k : Nat) (a : Am) : Prop where
  sz : SzOk n k
  ok : AmOk n k a
  dep : a.dep ≤ 6
def pairL (k n : Nat) (a : Am) : List D := (ctxs n k).map fun c => .tup [Am.iT c, Am.iT (goodL k a c)]
def c_good_in_contexts (C L : Addr) : Con := fun ds μ Φ Ψ => ∃ (n k : Nat) (a : Am), ds = [aimO C a n k] ∧ AmIn n k a ∧ (SmallOk n k → Φ (.lst (pairL k n a)) μ) ∧ (¬ SmallOk n k → Ψ (.mk L none) μ)
theorem len_good_in_contexts {C L ds μ Φ Ψ} (h : c_good_in_contexts C L ds μ Φ Ψ) : ds.length = 1 := by obtain ⟨_, _, _, rfl, _⟩ := h; rfl
theorem lcCs {Ψ : XP} {Φ : DK} {n : Nat} {φ : DE} {δw : DEnv} {μ1 : Sto} {cs : List (List Int)} (f : List Int → D) (hz : cs.length ≤ 100000)
    (hs : ∀ (z : List Int) (μ2 : Sto) (X : DK), z ∈ cs → Sub μ1 μ2 → X (f z) μ2 → φ Ψ (δw.set n (some (Am.iT z))) μ2 X)
    (hd : Φ (.lst (cs.map f)) μ1) : LcG (eName n) dYes φ δw Ψ (cs.map Am.iT) μ1 Φ := by
  have hl : (cs.map Am.iT).length = cs.length := List.length_map ..
  refine lcG_mapN (fun i => f (cs.getD i [])) (by rw [hl]; exact hz) (fun i d μ2 X hi hsub hx => ?_) ?_
  · rw [List.getElem?_map, Option.map_eq_some_iff] at hi
    obtain ⟨z, hi, rfl⟩ := hi
    rw [List.getD_eq_getElem?_getD, hi] at hx
    exact hs z μ2 X (List.mem_of_getElem? hi) hsub hx
  · have : (List.range (cs.map Am.iT).length).map (fun i => f (cs.getD i [])) = cs.map f := by
      rw [hl]
      apply List.ext_getElem
      · simp
      · intro i h1 h2
        simp at h1
        simp [List.getD_eq_getElem?_getD, List.getElem?_eq_getElem h1]
    rw [this]; exact hd
theorem ctxs_few {n k : Nat} (hk : 1 ≤ k) (h : SmallOk n k) : (ctxs n k).length ≤ 256 := by rw [ctxs_len hk]; exact h.2
theorem ok_good_in_contexts (T : Txt P w K mg) : FnOk P w K mg base (L2N.CX P w) 22 T.f_good_in_contexts T.d_good_in_contexts ["aim"] (spOf K (c_good_in_contexts T.c_Aim T.c_TooLarge)) := by
  refine def_okC T.F_good_in_contexts sc_good_in_contexts _ (fun ds μ Φ Ψ h => len_good_in_contexts h) (fun cdv A outer s H E B hW hr =>
    have tk : L2N.Takes (cxOf (L2N.CX P w) P w K mg base N_good_in_contexts "good_in_contexts" (defScope s_good_in_contexts) T.f_good_in_contexts cdv A outer s H E) (fun cls d _ H => E cls d H) := L2N.takes_of rfl rfl rfl rfl
    ⟨_, (pss_cons (ps_expr (pe_callS (ok_require_small T) (hr.mono (by decide)) rfl T.g_require_small T.F_require_small.kp T.b_require_small (fun σ => L2N.passAt tk σ) (pa_cons (pe_fld (pv 0) rfl) (pa_cons (pe_fld (pv 0) rfl) pa_nil))))
      (pss_one (ps_ret (pe_lc (own := [("context", 1)]) rfl sc_good_in_contexts.nd (pi_tup (pe_call (ok_all_contexts T) (hr.mono (by decide)) rfl T.g_all_contexts T.F_all_contexts.kp T.b_all_contexts .nil passN (pa_cons (pe_fld (pv 0) rfl) (pa_cons (pe_fld (pv 0) rfl) pa_nil)))) (blkOk_by (N := N_good_in_contexts) (sc := defScope s_good_in_contexts) (by decide +kernel)) (fun _ _ _ _ _ => (pg_name (i := 1) sc_good_in_contexts.nd rfl (Or.inl rfl))) (fun _ _ _ _ _ => pts_nil) (fun _ _ _ _ _ => (pe_tupN (pa_cons (pv 1) (pa_cons (pe_methX (pl := _) (E := WE WN) (pv 0) T.cls_Aim T.me_Aim_good (ok_Aim_good T) (hr.mono (by decide)) T.b_Aim_good (fun σ => passAtN σ) (pa_cons (pv 1) pa_nil)) pa_nil)))))))),
      (sSeq (sDrop (sCallSW (W := fun cls d _ H => E cls d H) (by exact hW) (sCons (sFldO (NS := NSA) (i := 1) T.cls_Aim T.na_Aim_options rfl (by decide) sVar) (sCons (sFldO (NS := NSA) (i := 2) T.cls_Aim T.na_Aim_outcomes rfl (by decide) sVar) sNil))))
      (sRet (sLc (siT (sCall (sCons (sFldO (NS := NSA) (i := 1) T.cls_Aim T.na_Aim_options rfl (by decide) sVar) (sCons (sFldO (NS := NSA) (i := 2) T.cls_Aim T.na_Aim_outcomes rfl (by decide) sVar) sNil)))) (gwName List.mem_cons_self) (fun _ _ _ => sName) (fun _ _ _ => sYes) (fun _ _ _ => (sTup (sCons sVar (sCons (sMethXN (NS := NSA) (by decide) sVar (sCons sVar sNil)) sNil)))))))⟩) (fun ds μ Φ Ψ h => ?hv)
  case hv =>
    obtain ⟨n, k, a, rfl, ha, h1, h2⟩ := h
    have hs := ha.sz
    unfold aimO
    walk_at "wps"
    refine ⟨n, k, rfl, hs, fun q => ?_, fun q => ⟨_, Sub.refl, h2 q⟩⟩
    refine ⟨n, k, rfl, hs.n1, q.1, hs.k1, hs.k4, q.2, _, rfl, ?_⟩
    refine lcCs (fun c => .tup [Am.iT c, Am.iT (goodL k a c)]) (by have := ctxs_few hs.k1 q; omega) (fun c μ2 X hc hsub hx => ?_) (ret_same (h1 q))
    have hok := ctxs_ok hs.n1 hs.n64 hs.k1 hs.k4 hc
    unfold Am.iT
    walk_at "wps"
    refine ⟨n, k, a, c, rfl, hs, ha.ok, ha.dep, by have := hok.len; have := hok.n64; omega, fun _ => ⟨by decide, hx⟩, fun z => absurd hok z⟩
end
section
variable {P : Program} {w : World} {K : Fg} {mg : Str → Option Value} {base : Heap}
def tabRows (k n : Nat) (a : Am) : List (List Int) := (ctxs n k).map (goodL k a)
def tabD (k n : Nat) (a : Am) : D := .tup ((tabRows k n a).map Am.iT)
def c_aim_table (C L : Addr) : Con := fun ds μ Φ Ψ => ∃ (n k : Nat) (a : Am), ds = [aimO C a n k] ∧ AmIn n k a ∧ (SmallOk n k → Φ (tabD k n a) μ) ∧ (¬ SmallOk n k → Ψ (.mk L none) μ)
theorem len_aim_table {C L ds μ Φ Ψ} (h : c_aim_table C L ds μ Φ Ψ) : ds.length = 1 := by obtain ⟨_, _, _, rfl, _⟩ := h; rfl
theorem pairL_get {k n : Nat} {a : Am} {i : Nat} {d : D} (h : (pairL k n a)[i]? = some d) : ∃ c, c ∈ ctxs n k ∧ (ctxs n k)[i]? = some c ∧ d = .tup [.tup (c.map .int), .tup ((goodL k a c).map .int)] := by
  unfold pairL at h
  rw [List.getElem?_map, Option.map_eq_some_iff] at h
  obtain ⟨c, hc, rfl⟩ := h
  exact ⟨c, List.mem_of_getElem? hc, hc, rfl⟩
theorem pairL_len {k n : Nat} {a : Am} : (pairL k n a).length = (ctxs n k).length := List.length_map ..
theorem ok_aim_table (T : Txt P w K mg) : FnOk P w K mg base (L2N.CX P w) 23 T.f_aim_table T.d_aim_table ["aim"] (spOf K (c_aim_table T.c_Aim T.c_TooLarge)) := by
  refine def_okC T.F_aim_table sc_aim_table _ (fun ds μ Φ Ψ h => len_aim_table h) (fun cdv A outer s H E B hW hr =>
    have tk : L2N.Takes (cxOf (L2N.CX P w) P w K mg base N_aim_table "aim_table" (defScope s_aim_table) T.f_aim_table cdv A outer s H E) (fun cls d _ H => E cls d H) := L2N.takes_of rfl rfl rfl rfl
    ⟨_, (pss_one (ps_ret (pe_callTy call_tupleN (by rfl) T.z_tuple (by decide +kernel) (pa_cons (pe_lc (own := [("_", 1), ("good", 2)]) rfl sc_aim_table.nd (pi_list (pe_callS (ok_good_in_contexts T) hr rfl T.g_good_in_contexts T.F_good_in_contexts.kp T.b_good_in_contexts (fun σ => L2N.passAt tk σ) (pa_cons (pv 0) pa_nil))) (blkOk_by (N := N_aim_table) (sc := defScope s_aim_table) (by decide +kernel)) (fun _ _ _ _ _ => (pg_tup (n := 2) rfl (pgs_cons (pg_name (i := 1) sc_aim_table.nd rfl (Or.inl rfl)) (pgs_cons (pg_name (i := 2) sc_aim_table.nd rfl (Or.inl rfl)) pgs_nil)))) (fun _ _ _ _ _ => pts_nil) (fun _ _ _ _ _ => (pv 2))) pa_nil)))),
      (sRet (sCB rcTuple (sCons (sLc (siL (sCallSW (W := fun cls d _ H => E cls d H) (by exact hW) (sCons sVar sNil))) (gwTup (gwConsN List.mem_cons_self (gwConsN (List.mem_cons_of_mem _ List.mem_cons_self) gwNil))) (fun _ _ _ => (sgTup (sgCons sName (sgCons sName sgNil)))) (fun _ _ _ => sYes) (fun _ _ _ => sVar)) sNil)))⟩) (fun ds μ Φ Ψ h => ?hv)
  case hv =>
    obtain ⟨n, k, a, rfl, ha, h1, h2⟩ := h
    have hs := ha.sz
    walk_at "wps"
    refine ⟨n, k, a, rfl, ha, fun q => ⟨_, rfl, ?_⟩, fun q => ⟨_, Sub.refl, h2 q⟩⟩
    have few := ctxs_few hs.k1 q
    refine lcG_pure (fun _ => true) (fun i => Am.iT (goodL k a ((ctxs n k).getD i []))) (by rw [pairL_len]; omega) (fun i d μ2 X Y hi hsub hx hy => ?_) ?_
    · obtain ⟨c, hc, hi0, rfl⟩ := pairL_get hi
      rw [List.getD_eq_getElem?_getD, hi0] at hx
      walk_at "wps"
      exact hx rfl
    · rw [givenD_all, pairL_len]
      refine ⟨_, .lst _, ret_same ?_⟩
      have e : (List.range (ctxs n k).length).map (fun i => Am.iT (goodL k a ((ctxs n k).getD i []))) = (tabRows k n a).map Am.iT := by
        unfold tabRows
        rw [List.map_map]
        apply List.ext_getElem
        · simp
        · intro i h1 h2
          simp at h1
          simp [List.getD_eq_getElem?_getD, List.getElem?_eq_getElem h1]
      rw [e]
      exact h1 q
def c_options_with : Con := fun ds μ Φ _ => ∃ (c l : List Int), ds = [.tup (c.map .int), .lst (l.map .int)] ∧ c.length ≤ 1000 ∧ l.length ≤ 1000 ∧ Φ (.tup ((owL c l).map .int)) μ
theorem len_options_with {ds μ Φ Ψ} (h : c_options_with ds μ Φ Ψ) : ds.length = 2 := by obtain ⟨_, _, rfl, _⟩ := h; rfl
theorem ok_options_with (T : Txt P w K mg) : FnOk P w K mg base (L2N.CX P w) 1 T.f_options_with T.d_options_with ["context", "outcomes"] (spOf K c_options_with) := by
  refine def_okC T.F_options_with sc_options_with _ (fun ds μ Φ Ψ h => len_options_with h) (fun cdv A outer s H E B hW hr =>
    have tk : L2N.Takes (cxOf (L2N.CX P w) P w K mg base N_options_with "options_with" (defScope s_options_with) T.f_options_with cdv A outer s H E) (fun cls d _ H => E cls d H) := L2N.takes_of rfl rfl rfl rfl
    ⟨_, (pss_one (ps_ret (pe_callTy call_tupleN (by rfl) T.z_tuple (by decide +kernel) (pa_cons (pe_lc (own := [("option", 2), ("outcome", 3)]) rfl sc_options_with.nd (pi_enumT (by rfl) T.z_enumerate (pa_cons (pv 0) pa_nil)) (blkOk_by (N := N_options_with) (sc := defScope s_options_with) (by decide +kernel)) (fun _ _ _ _ _ => (pg_tup (n := 2) rfl (pgs_cons (pg_name (i := 2) sc_options_with.nd rfl (Or.inl rfl)) (pgs_cons (pg_name (i := 3) sc_options_with.nd rfl (Or.inl rfl)) pgs_nil)))) (fun _ _ _ _ _ => (pts_one (pt_cmpR op_in_seq (pv 3) (pv 1) (by with_unfolding_all rfl)))) (fun _ _ _ _ _ => (pv 2))) pa_nil)))),
      (sRet (sCB rcTuple (sCons (sLc (siEnumT sVar) (gwTup (gwConsN List.mem_cons_self (gwConsN (List.mem_cons_of_mem _ List.mem_cons_self) gwNil))) (fun _ _ _ => (sgTup (sgCons sName (sgCons sName sgNil)))) (fun _ _ _ => (sTest (sOp (roIn (neg := false)) sVar sVar))) (fun _ _ _ => sVar)) sNil)))⟩) (fun ds μ Φ Ψ h => ?hv)
  case hv =>
    obtain ⟨c, l, rfl, hc, hl, h⟩ := h
    walk_at "wps"
    have hlen : ((List.range c.length).map fun (i : Nat) => D.pr [D.int (i : Int), (c.map D.int).getD i D.non]).length = c.length := by simp
    refine lcG_pure (fun i => l.contains (c.getD i 0)) (fun i => .int (i : Int)) (by rw [hlen]; omega) (fun i d μ2 X Y hi hsub hx hy => ?_) ?_
    · rw [List.getElem?_map, Option.map_eq_some_iff] at hi
      obtain ⟨j, hj, rfl⟩ := hi
      obtain ⟨hj1, hj2⟩ := List.getElem?_eq_some_iff.mp hj
      simp at hj2
      subst hj2
      have hlt : i < c.length := by simpa using hj1
      have e : (c.map D.int).getD i D.non = .int (c.getD i 0) := by simp [List.getD_eq_getElem?_getD, List.getElem?_eq_getElem hlt]
      rw [e]
      walk_at "wps"
      refine in_IL ?_
      walk_at "wps"
      exact ⟨hx, hy⟩
    · rw [hlen, givenD_ow]
      exact ⟨_, .lst _, ret_same h⟩
end
section
variable {P : Program} {w : World} {K : Fg} {mg : Str → Option Value} {base : Heap}
/-- the first context in which the good options differ -/
def partL (k n : Nat) (a b : Am) : Option (List Int) := (ctxs n k).find? fun c => !decide (goodL k a c = goodL k b c)
def optC : Option (List Int) → D
  | some c => .tup (c.map .int)
  | none => .non
def TwoC (C S L : Addr) (m : Nat → Nat → Am → Am → D) : Con := fun ds μ Φ Ψ => ∃ (n k n' k' : Nat) (a b : Am), ds = [aimO C a n k, aimO C b n' k'] ∧ AmIn n k a ∧ AmIn n' k' b ∧ (¬ (n = n' ∧ k = k') → Ψ (.mk S none) μ) ∧ ((n = n' ∧ k = k') → ¬ SmallOk n k → Ψ (.mk L none) μ) ∧ ((n = n' ∧ k = k') → SmallOk n k → Φ (m k n a b) μ)
theorem TwoC.len {C S L m ds μ Φ Ψ} (h : TwoC C S L m ds μ Φ Ψ) : ds.length = 2 := by obtain ⟨_, _, _, _, _, _, rfl, _⟩ := h; rfl
def c_parting_context (C S L : Addr) : Con := TwoC C S L fun k n a b => optC (partL k n a b)
theorem len_parting_context {C S L ds μ Φ Ψ} (h : c_parting_context C S L ds μ Φ Ψ) : ds.length = 2 := h.len
theorem find_take_no {α : Type} {p : α → Bool} : ∀ {l : List α} {i : Nat} {x : α}, l[i]? = some x → (∀ j, j < i → ∀ y, l[j]? = some y → p y = false) → p x = true → l.find? p = some x
  | [], i, x, h, _, _ => by cases h
  | y :: l, 0, x, h, _, hp => by cases h; rw [List.find?_cons, hp]
  | y :: l, i + 1, x, h, hno, hp => by
    have h0 := hno 0 (by omega) y rfl
    rw [List.find?_cons, h0]
    exact find_take_no (i := i) h (fun j hj z hz => hno (j + 1) (by omega) z hz) hp
theorem tabRows_get {k n : Nat} {a : Am} {i : Nat} : (tabRows k n a)[i]? = ((ctxs n k)[i]?).map (goodL k a) := by unfold tabRows; rw [List.getElem?_map]
theorem ok_parting_context (T : Txt P w K mg) : FnOk P w K mg base (L2N.CX P w) 24 T.f_parting_context T.d_parting_context ["first", "second"] (spOf K (c_parting_context T.c_Aim T.c_SizeMismatch T.c_TooLarge)) := by
  refine def_okC T.F_parting_context sc_parting_context _ (fun ds μ Φ Ψ h => len_parting_context h) (fun cdv A outer s H E B hW hr =>
    have tk : L2N.Takes (cxOf (L2N.CX P w) P w K mg base N_parting_context "parting_context" (defScope s_parting_context) T.f_parting_context cdv A outer s H E) (fun cls d _ H => E cls d H) := L2N.takes_of rfl rfl rfl rfl
    ⟨_, (pss_cons (ps_expr (pe_callS (ok_require_same_size T) (hr.mono (by decide)) rfl T.g_require_same_size T.F_require_same_size.kp T.b_require_same_size (fun σ => L2N.passAt tk σ) (pa_cons (pv 0) (pa_cons (pv 1) pa_nil))))
      (pss_cons (ps_for (passes_of rfl) rfl (pi_zipM (b1 := false) (b2 := true) (by rfl) T.z_zip (pa_cons (pe_callS (ok_good_in_contexts T) (hr.mono (by decide)) rfl T.g_good_in_contexts T.F_good_in_contexts.kp T.b_good_in_contexts (fun σ => L2N.passAt tk σ) (pa_cons (pv 0) pa_nil)) (pa_cons (pe_callS (ok_aim_table T) hr rfl T.g_aim_table T.F_aim_table.kp T.b_aim_table (fun σ => L2N.passAt tk σ) (pa_cons (pv 1) pa_nil)) pa_nil))) (pg_tup (n := 2) rfl (pgs_cons (pg_tup (n := 2) rfl (pgs_cons (pg_name (i := 3) sc_parting_context.nd rfl (Or.inl rfl)) (pgs_cons (pg_name (i := 4) sc_parting_context.nd rfl (Or.inl rfl)) pgs_nil))) (pgs_cons (pg_name (i := 2) sc_parting_context.nd rfl (Or.inl rfl)) pgs_nil))) (pss_one (ps_if (pt_cmpR (op_neD hr.units) (pv 4) (pv 2) (nomark _)) (pss_one (ps_ret (pv 3))) pss_nil)))
      (pss_one (ps_ret pe_non)))),
      (sSeq (sDrop (sCallSW (W := fun cls d _ H => E cls d H) (by exact hW) (sCons sVar (sCons sVar sNil))))
      (sSeq (sFor (siZipM (sCallSW (W := fun cls d _ H => E cls d H) (by exact hW) (sCons sVar sNil)) (sCallSW (W := fun cls d _ H => E cls d H) (by exact hW) (sCons sVar sNil))) (fun _ _ _ => (sgTup (sgCons (sgTup (sgCons sName (sgCons sName sgNil))) (sgCons sName sgNil)))) (fun _ _ _ => (sIfS (sTest (sOp roNeD sVar sVar)) (sRet sVar) sNext)))
      (sRet sNon)))⟩) (fun ds μ Φ Ψ h => ?hv)
  case hv =>
    obtain ⟨n, k, n', k', a, b, rfl, ha, hb, h1, h2, h3⟩ := h
    have hs := ha.sz
    walk_at "wps"
    refine ⟨a, b, n, k, n', k', rfl, fun e => ?_, fun e => ⟨_, Sub.refl, h1 e⟩⟩
    obtain ⟨rfl, rfl⟩ := e
    refine ⟨n, k, a, rfl, ha, fun q => ⟨n, k, b, rfl, hb, fun _ => ?_, fun z => absurd q z⟩, fun q => ⟨_, Sub.refl, h2 ⟨rfl, rfl⟩ q⟩⟩
    unfold tabD
    walk_at "wps"
    have hl : ((pairL k n a).zip ((tabRows k n b).map Am.iT)).length = (ctxs n k).length := by
      unfold tabRows
      rw [List.length_zip, pairL_len, List.length_map, List.length_map]; omega
    refine ⟨fun i δ' μ' => μ' = μ ∧ (∀ j, j < i → ∀ c, (ctxs n k)[j]? = some c → (!decide (goodL k a c = goodL k b c)) = false) ∧ ∃ x y z : Option D, δ' = [some (aimO T.c_Aim a n k), some (aimO T.c_Aim b n k), x, y, z], ⟨rfl, fun j hj => absurd hj (Nat.not_lt_zero j), none, none, none, rfl⟩, ?_, ?_⟩
    · rintro i d δ' μ' hi ⟨rfl, hno, x, y, z, rfl⟩
      rw [List.getElem?_map, Option.map_eq_some_iff] at hi
      obtain ⟨⟨d1, d2⟩, hi, rfl⟩ := hi
      obtain ⟨g1, g2⟩ := List.getElem?_zip_eq_some.mp hi
      obtain ⟨c, hc, hi0, rfl⟩ := pairL_get g1
      rw [List.getElem?_map, tabRows_get, hi0] at g2
      cases g2
      walk_at "wps"
      refine ⟨side_ints _, side_ints _, ?_⟩
      rw [eqD_ints]
      refine ⟨_, rfl, fun hb => ret_same ?_, fun hb => ⟨rfl, fun j hj c' hc' => ?_, _, _, _, rfl⟩⟩
      · have e : partL k n a b = some c := find_take_no hi0 hno hb
        have := h3 ⟨rfl, rfl⟩ q
        simp only [e] at this
        exact this
      · by_cases hji : j < i
        · exact hno j hji c' hc'
        · have : j = i := by omega
          subst this
          rw [hi0] at hc'
          cases hc'
          exact hb
    · rintro δ' μ' ⟨rfl, hno, x, y, z, rfl⟩
      rw [hl] at hno
      refine ret_same ?_
      have e : partL k n a b = none := by
        unfold partL
        rw [List.find?_eq_none]
        intro c hc
        obtain ⟨j, hj, e⟩ := List.mem_iff_getElem.mp hc
        have := hno j hj c (by rw [List.getElem?_eq_getElem hj, e])
        rw [this]
        exact Bool.false_ne_true
      have := h3 ⟨rfl, rfl⟩ q
      simp only [e] at this
      exact this
/-- a table by a rule -/
def tabF (n k : Nat) (f : List Int → List Int) : List (List Int) := (ctxs n k).map f
theorem tabF_get {n k : Nat} {f : List Int → List Int} {i : Nat} : (tabF n k f)[i]? = ((ctxs n k)[i]?).map f := by unfold tabF; rw [List.getElem?_map]
theorem tabF_len {n k : Nat} {f : List Int → List Int} : (tabF n k f).length = (ctxs n k).length := List.length_map ..
theorem ixI {c : List Int} {z : Int} (h : z ∈ optsI c.length) : atI (c.map D.int) z = some (.int (nth c z)) := by
  obtain ⟨h0, h1⟩ := mem_opts.mp h
  obtain ⟨i, rfl⟩ : ∃ i : Nat, z = (i : Int) := ⟨z.toNat, by omega⟩
  have h1 : i < c.length := h1
  refine atI_nat ?_
  rw [List.getElem?_map, List.getElem?_eq_getElem h1]
  unfold nth
  rw [Int.toNat_natCast, List.getD_eq_getElem?_getD, List.getElem?_eq_getElem h1]
  rfl
theorem goodL_in {k : Nat} {a : Am} {c : List Int} {z : Int} (h : z ∈ goodL k a c) : z ∈ optsI c.length := by
  rw [goodL_opts] at h
  exact (List.mem_filter.mp h).1
theorem map_nth {c g : List Int} : g.map (fun z => D.int (nth c z)) = (g.map (nth c)).map .int := by rw [List.map_map]; rfl
theorem tabF_ok {n k : Nat} {f : List Int → List Int} (hs : SzOk n k) (h : SmallOk n k) (hf : ∀ c, CtxOk n k c → Asc n 0 (f c)) : AmOk n k (.table (tabF n k f)) := by
  refine ⟨h.1, h.2, by unfold tabF; rw [List.length_map, ctxs_len hs.k1], fun l hl => ?_⟩
  obtain ⟨c, hc, rfl⟩ := List.mem_map.mp hl
  exact hf c (ctxs_ok hs.n1 hs.n64 hs.k1 hs.k4 hc)
theorem asc_filter : ∀ (m : Nat) (lo hi : Int) (p : Int → Bool), lo + m ≤ hi → Asc hi lo ((segI lo m).filter p)
  | 0, _, _, _, _ => trivial
  | m + 1, lo, hi, p, h => by
    rw [segI_succ, List.filter_cons]
    have ih := asc_filter m (lo + 1) hi p (by omega)
    split
    · exact ⟨Int.le_refl _, by omega, ih⟩
    · revert ih
      generalize (segI (lo + 1) m).filter p = l
      intro ih
      cases l with
      | nil => trivial
      | cons x r => exact ⟨by have := ih.1; omega, ih.2.1, ih.2.2⟩
theorem opts_seg (n : Nat) : optsI n = segI 0 n := by
  unfold optsI segI
  exact List.map_congr_left fun i _ => by omega
theorem asc_fopts {n : Nat} (p : Int → Bool) : Asc n 0 ((optsI n).filter p) := by rw [opts_seg]; exact asc_filter n 0 n p (by omega)
theorem asc_hullL {n k : Nat} {c g : List Int} (hc : CtxOk n k c) : Asc n 0 (hullL c g) := by unfold hullL owL; rw [hc.len]; exact asc_fopts _
theorem asc_coreL {n k : Nat} {c g : List Int} (hc : CtxOk n k c) : Asc n 0 (coreL c g) := by unfold coreL; rw [hc.len]; exact asc_fopts _
def hullF (k : Nat) (a : Am) (c : List Int) : List Int := hullL c (goodL k a c)
def coreF (k : Nat) (a : Am) (c : List Int) : List Int := coreL c (goodL k a c)
def TabC (C L : Addr) (f : Nat → Am → List Int → List Int) : Con := fun ds μ Φ Ψ => ∃ (n k : Nat) (a : Am), ds = [aimO C a n k] ∧ AmIn n k a ∧ (SmallOk n k → Φ (aimO C (.table (tabF n k (f k a))) n k) μ) ∧ (¬ SmallOk n k → Ψ (.mk L none) μ)
theorem TabC.len {C L f ds μ Φ Ψ} (h : TabC C L f ds μ Φ Ψ) : ds.length = 1 := by obtain ⟨_, _, _, rfl, _⟩ := h; rfl
def c_fair_hull (C L : Addr) : Con := TabC C L hullF
theorem len_fair_hull {C L ds μ Φ Ψ} (h : c_fair_hull C L ds μ Φ Ψ) : ds.length = 1 := h.len
theorem ok_fair_hull (T : Txt P w K mg) : FnOk P w K mg base (L2N.CX P w) 24 T.f_fair_hull T.d_fair_hull ["aim"] (spOf K (c_fair_hull T.c_Aim T.c_TooLarge)) := by
  refine def_okC T.F_fair_hull sc_fair_hull _ (fun ds μ Φ Ψ h => len_fair_hull h) (fun cdv A outer s H E B hW hr =>
    have tk : L2N.Takes (cxOf (L2N.CX P w) P w K mg base N_fair_hull "fair_hull" (defScope s_fair_hull) T.f_fair_hull cdv A outer s H E) (fun cls d _ H => E cls d H) := L2N.takes_of rfl rfl rfl rfl
    ⟨_, (pss_cons (ps_set (i := 1) sc_fair_hull.nd rfl (Or.inl rfl) (pe_lst pa_nil))
      (pss_cons (ps_for (passes_of rfl) rfl (pi_list (pe_callS (ok_good_in_contexts T) (hr.mono (by decide)) rfl T.g_good_in_contexts T.F_good_in_contexts.kp T.b_good_in_contexts (fun σ => L2N.passAt tk σ) (pa_cons (pv 0) pa_nil))) (pg_tup (n := 2) rfl (pgs_cons (pg_name (i := 2) sc_fair_hull.nd rfl (Or.inr rfl)) (pgs_cons (pg_name (i := 3) sc_fair_hull.nd rfl (Or.inl rfl)) pgs_nil))) (pss_one (ps_expr (pe_bm PySem.F.plainAttrs_list PySem.F.slot_list_append PySem.F.type_list_append mt_append (pv 1) (pa_cons (pe_call (ok_options_with T) (hr.mono (by decide)) rfl T.g_options_with T.F_options_with.kp T.b_options_with .nil passN (pa_cons (pv 2) (pa_cons (pe_lc (own := [("option", 4)]) rfl sc_fair_hull.nd (pi_tup (pv 3)) (blkOk_by (N := N_fair_hull) (sc := defScope s_fair_hull) (by decide +kernel)) (fun _ _ _ _ _ => (pg_name (i := 4) sc_fair_hull.nd rfl (Or.inl rfl))) (fun _ _ _ _ _ => pts_nil) (fun _ _ _ _ _ => (pe_ix ix_tup (pv 2) (pv 4) (fun _ _ => rfl)))) pa_nil))) pa_nil)))))
      (pss_one (ps_ret (pe_makeS T.mk_Aim (ok_Aim___init__ T) (hr.mono (by decide)) rfl T.g_Aim T.b_Aim___init__ (fun σ => L2N.passAt tk σ) (pa_cons (pe_tupN (pa_cons pe_str (pa_cons (pe_callTy call_tupleN (by rfl) T.z_tuple (by decide +kernel) (pa_cons (pv 1) pa_nil)) pa_nil))) (pa_cons (pe_fld (pv 0) rfl) (pa_cons (pe_fld (pv 0) rfl) pa_nil)))))))),
      (sSeq (sAsg (sOwn sNil) sName)
      (sSeq (sFor (siL (sCallSW (W := fun cls d _ H => E cls d H) (by exact hW) (sCons sVar sNil))) (fun _ _ _ => (sgTup (sgCons sName (sgCons sName sgNil)))) (fun _ _ _ => (sDrop (sApp sVar (sCall (sCons sVar (sCons (sLc (siT sVar) (gwName List.mem_cons_self) (fun _ _ _ => sName) (fun _ _ _ => sYes) (fun _ _ _ => (sOp roIxT sVar sVar))) sNil)))))))
      (sRet (sMakeSW (W := fun cls d _ H => E cls d H) (by exact hW) (sCons (sTup (sCons sStr (sCons (sCB rcTuple (sCons sVar sNil)) sNil))) (sCons (sFldO (NS := NSA) (i := 1) T.cls_Aim T.na_Aim_options rfl (by decide) sVar) (sCons (sFldO (NS := NSA) (i := 2) T.cls_Aim T.na_Aim_outcomes rfl (by decide) sVar) sNil)))))))⟩) (fun ds μ Φ Ψ h => ?hv)
  case hv =>
    obtain ⟨n, k, a, rfl, ha, h1, h2⟩ := h
    have hs := ha.sz
    walk_at "wps"
    refine ⟨by decide, fun p hp => ⟨n, k, a, rfl, ha, fun q => ?_, fun q => ⟨μ, Sub.set Sub.refl hp, h2 q⟩⟩⟩
    have few := ctxs_few hs.k1 q
    refine ⟨_, rfl, fun i δ' μ' => μ' = sset μ p (.lst (((tabF n k (hullF k a)).take i).map Am.iT)) ∧ ∃ x y z, δ' = [some (aimO T.c_Aim a n k), some (.hd (.ref p)), x, y, z], ⟨rfl, none, none, none, rfl⟩, ?_, ?_⟩
    · rintro i d δ' μ' hi ⟨rfl, x, y, z, rfl⟩
      obtain ⟨c, hc, hi0, rfl⟩ := pairL_get hi
      have hok := ctxs_ok hs.n1 hs.n64 hs.k1 hs.k4 hc
      walk_at "wps"
      have gl := goodL_le k a c
      have cl := hok.len
      have n64 := hok.n64
      refine lcZ (fun z => .int (nth c z)) (by omega) (fun z μ2 X hz hsub hx => ?_) ?_
      · walk_at "wps"
        exact ⟨_, ixI (goodL_in hz), hx⟩
      · rw [map_nth]
        refine ⟨c, _, rfl, by omega, by rw [List.length_map]; omega, _, sset_same, ?_, ?_, _, _, _, rfl⟩
        · rw [List.length_map, List.length_take, tabF_len]; omega
        · rw [sset_sset, List.take_add_one, tabF_get, hi0, List.map_append]; rfl
    · rintro δ' μ' ⟨rfl, x, y, z, rfl⟩
      walk_at "wps"
      rw [pairL_len, List.take_of_length_le (by rw [tabF_len]; omega)]
      unfold aimO
      refine ⟨by decide, _, _, rfl, rfl, _, _, rfl, rfl, fun x hx => ?_⟩
      refine ⟨x, n, k, .table (tabF n k (hullF k a)), rfl, hs, tabF_ok hs q fun c hc => asc_hullL hc, by show 1 ≤ 6; decide, sset_same, rfl, NSA, _, sset_same, ?_⟩
      rw [sset_sset, sdel_sset hx]
      exact ⟨μ, Sub.set Sub.refl hp, h1 q⟩
theorem nin_I {z : Int} {l : List Int} {μ : Sto} {X : DK} (h : X (.bl (!l.contains z)) μ) : oIn true (.int z) (.tup (l.map .int)) μ X :=
  ⟨_, .tup _, rfl, flat_I l, by rw [if_pos rfl, inD_I]; exact h⟩
theorem owL_core {c g : List Int} : owL c (c.filter fun r => !(((optsI c.length).filter fun y => !g.contains y).map (nth c)).contains r) = coreL c g := by
  unfold owL coreL
  refine filt_ext fun z hz => ?_
  rw [List.contains_iff_mem, List.mem_filter]
  refine ⟨fun h => h.2, fun h => ⟨?_, h⟩⟩
  obtain ⟨h0, h1⟩ := mem_opts.mp hz
  unfold nth
  rw [List.getD_eq_getElem?_getD, List.getElem?_eq_getElem h1]
  exact List.getElem_mem h1
def c_fair_core (C L : Addr) : Con := TabC C L coreF
theorem len_fair_core {C L ds μ Φ Ψ} (h : c_fair_core C L ds μ Φ Ψ) : ds.length = 1 := h.len
theorem ok_fair_core (T : Txt P w K mg) : FnOk P w K mg base (L2N.CX P w) 24 T.f_fair_core T.d_fair_core ["aim"] (spOf K (c_fair_core T.c_Aim T.c_TooLarge)) := by
  refine def_okC T.F_fair_core sc_fair_core _ (fun ds μ Φ Ψ h => len_fair_core h) (fun cdv A outer s H E B hW hr =>
    have tk : L2N.Takes (cxOf (L2N.CX P w) P w K mg base N_fair_core "fair_core" (defScope s_fair_core) T.f_fair_core cdv A outer s H E) (fun cls d _ H => E cls d H) := L2N.takes_of rfl rfl rfl rfl
    ⟨_, (pss_cons (ps_set (i := 1) sc_fair_core.nd rfl (Or.inl rfl) (pe_lst pa_nil))
      (pss_cons (ps_for (passes_of rfl) rfl (pi_list (pe_callS (ok_good_in_contexts T) (hr.mono (by decide)) rfl T.g_good_in_contexts T.F_good_in_contexts.kp T.b_good_in_contexts (fun σ => L2N.passAt tk σ) (pa_cons (pv 0) pa_nil))) (pg_tup (n := 2) rfl (pgs_cons (pg_name (i := 2) sc_fair_core.nd rfl (Or.inr rfl)) (pgs_cons (pg_name (i := 3) sc_fair_core.nd rfl (Or.inr rfl)) pgs_nil))) (pss_cons (ps_set (i := 4) sc_fair_core.nd rfl (Or.inr rfl) (pe_lc (own := [("option", 5)]) rfl sc_fair_core.nd (pi_range1 rfl T.z_range (pa_cons (pe_fld (pv 0) rfl) pa_nil)) (blkOk_by (N := N_fair_core) (sc := defScope s_fair_core) (by decide +kernel)) (fun _ _ _ _ _ => (pg_name (i := 5) sc_fair_core.nd rfl (Or.inl rfl))) (fun _ _ _ _ _ => (pts_one (pt_cmpR op_notIn_seq (pv 5) (pv 3) (by with_unfolding_all rfl)))) (fun _ _ _ _ _ => (pe_ix ix_tup (pv 2) (pv 5) (fun _ _ => rfl)))))
      (pss_one (ps_expr (pe_bm PySem.F.plainAttrs_list PySem.F.slot_list_append PySem.F.type_list_append mt_append (pv 1) (pa_cons (pe_call (ok_options_with T) (hr.mono (by decide)) rfl T.g_options_with T.F_options_with.kp T.b_options_with .nil passN (pa_cons (pv 2) (pa_cons (pe_lc (own := [("outcome", 6)]) rfl sc_fair_core.nd (pi_tup (pv 2)) (blkOk_by (N := N_fair_core) (sc := defScope s_fair_core) (by decide +kernel)) (fun _ _ _ _ _ => (pg_name (i := 6) sc_fair_core.nd rfl (Or.inl rfl))) (fun _ _ _ _ _ => (pts_one (pt_cmpR op_notIn_seq (pv 6) (pv 4) (by with_unfolding_all rfl)))) (fun _ _ _ _ _ => (pv 6))) pa_nil))) pa_nil))))))
      (pss_one (ps_ret (pe_makeS T.mk_Aim (ok_Aim___init__ T) (hr.mono (by decide)) rfl T.g_Aim T.b_Aim___init__ (fun σ => L2N.passAt tk σ) (pa_cons (pe_tupN (pa_cons pe_str (pa_cons (pe_callTy call_tupleN (by rfl) T.z_tuple (by decide +kernel) (pa_cons (pv 1) pa_nil)) pa_nil))) (pa_cons (pe_fld (pv 0) rfl) (pa_cons (pe_fld (pv 0) rfl) pa_nil)))))))),
      (sSeq (sAsg (sOwn sNil) sName)
      (sSeq (sFor (siL (sCallSW (W := fun cls d _ H => E cls d H) (by exact hW) (sCons sVar sNil))) (fun _ _ _ => (sgTup (sgCons sName (sgCons sName sgNil)))) (fun _ _ _ => (sSeq (sAsg (sLc (siR1 (sFldO (NS := NSA) (i := 1) T.cls_Aim T.na_Aim_options rfl (by decide) sVar)) (gwName List.mem_cons_self) (fun _ _ _ => sName) (fun _ _ _ => (sTest (sOp (roIn (neg := true)) sVar sVar))) (fun _ _ _ => (sOp roIxT sVar sVar))) sName)
      (sDrop (sApp sVar (sCall (sCons sVar (sCons (sLc (siT sVar) (gwName List.mem_cons_self) (fun _ _ _ => sName) (fun _ _ _ => (sTest (sOp (roIn (neg := true)) sVar sVar))) (fun _ _ _ => sVar)) sNil))))))))
      (sRet (sMakeSW (W := fun cls d _ H => E cls d H) (by exact hW) (sCons (sTup (sCons sStr (sCons (sCB rcTuple (sCons sVar sNil)) sNil))) (sCons (sFldO (NS := NSA) (i := 1) T.cls_Aim T.na_Aim_options rfl (by decide) sVar) (sCons (sFldO (NS := NSA) (i := 2) T.cls_Aim T.na_Aim_outcomes rfl (by decide) sVar) sNil)))))))⟩) (fun ds μ Φ Ψ h => ?hv)
  case hv =>
    obtain ⟨n, k, a, rfl, ha, h1, h2⟩ := h
    have hs := ha.sz
    walk_at "wps"
    refine ⟨by decide, fun p hp => ⟨n, k, a, rfl, ha, fun q => ?_, fun q => ⟨μ, Sub.set Sub.refl hp, h2 q⟩⟩⟩
    have few := ctxs_few hs.k1 q
    refine ⟨_, rfl, fun i δ' μ' => μ' = sset μ p (.lst (((tabF n k (coreF k a)).take i).map Am.iT)) ∧ ∃ x y z u v, δ' = [some (aimO T.c_Aim a n k), some (.hd (.ref p)), x, y, z, u, v], ⟨rfl, none, none, none, none, none, rfl⟩, ?_, ?_⟩
    · rintro i d δ' μ' hi ⟨rfl, x, y, z, u, v, rfl⟩
      obtain ⟨c, hc, hi0, rfl⟩ := pairL_get hi
      have hok := ctxs_ok hs.n1 hs.n64 hs.k1 hs.k4 hc
      unfold aimO
      walk_at "wps"
      have cl := hok.len
      have n64 := hok.n64
      have en : optsI n = optsI c.length := by rw [cl]
      refine ⟨by omega, by omega, ?_⟩
      rw [rngD_opts, en]
      refine lcZf (fun z => !(goodL k a c).contains z) (fun z => .int (nth c z)) (by rw [optsI_len]; omega) (fun z μ2 X Y hz hsub hx hy => ?_) ?_
      · walk_at "wps"
        refine nin_I ?_
        walk_at "wps"
        exact ⟨fun hb => ⟨_, ixI hz, hx hb⟩, hy⟩
      · rw [map_nth]
        refine ⟨_, sset_same, ?_⟩
        refine lcZf (fun r => !(((optsI c.length).filter fun y => !(goodL k a c).contains y).map (nth c)).contains r) .int (by omega) (fun z μ2 X Y hz hsub hx hy => ?_) ?_
        · walk_at "wps"
          refine nin_IL ?_
          walk_at "wps"
          exact ⟨hx, hy⟩
        · refine ⟨c, _, rfl, by omega, ?_, ?_⟩
          · exact Nat.le_trans (List.length_filter_le _ _) (by omega)
          · rw [owL_core]
            refine ⟨_, sset_same, ?_, ?_, _, _, _, _, _, rfl⟩
            · rw [List.length_map, List.length_take, tabF_len]; omega
            · rw [sset_sset, List.take_add_one, tabF_get, hi0, List.map_append]; rfl
    · rintro δ' μ' ⟨rfl, x, y, z, u, v, rfl⟩
      walk_at "wps"
      rw [pairL_len, List.take_of_length_le (by rw [tabF_len]; omega)]
      unfold aimO
      refine ⟨by decide, _, _, rfl, rfl, _, _, rfl, rfl, fun x hx => ?_⟩
      refine ⟨x, n, k, .table (tabF n k (coreF k a)), rfl, hs, tabF_ok hs q fun c hc => asc_coreL hc, by show 1 ≤ 6; decide, sset_same, rfl, NSA, _, sset_same, ?_⟩
      rw [sset_sset, sdel_sset hx]
      exact ⟨μ, Sub.set Sub.refl hp, h1 q⟩
end
section
variable {P : Program} {w : World} {K : Fg} {mg : Str → Option Value} {base : Heap}
theorem ctxIx_digs {k : Nat} : ∀ (n p : Nat), ctxIx k (digs k n p) = ((p % k ^ n : Nat) : Int)
  | 0, p => by rw [Nat.pow_zero, Nat.mod_one]; rfl
  | n + 1, p => by
    have ih := ctxIx_digs (k := k) n (p / k)
    unfold ctxIx at ih ⊢
    show (digs k n (p / k) ++ [((p % k : Nat) : Int)]).foldl (fun s r => s * (k : Int) + r) 0 = _
    rw [List.foldl_append, ih]
    show ((p / k % k ^ n : Nat) : Int) * (k : Int) + ((p % k : Nat) : Int) = _
    rw [← Int.natCast_mul, ← Int.natCast_add]
    congr 1
    rw [Nat.pow_succ', Nat.mod_mul, Nat.mul_comm, Nat.add_comm]
def fairB (k n : Nat) (a : Am) : Bool := decide (tabF n k (hullF k a) = tabF n k (goodL k a))
theorem tabF_eq {n k : Nat} {f g : List Int → List Int} : tabF n k f = tabF n k g ↔ ∀ c ∈ ctxs n k, f c = g c := List.map_inj_left
theorem tabF_good {n k : Nat} {f : List Int → List Int} {c : List Int} (hs : SzOk n k) (hf : ∀ c, CtxOk n k c → Asc n 0 (f c)) (hc : c ∈ ctxs n k) : goodL k (.table (tabF n k f)) c = f c := by
  have hok := ctxs_ok hs.n1 hs.n64 hs.k1 hs.k4 hc
  rw [ctxs_eq hs.k1] at hc
  obtain ⟨p, hp, rfl⟩ := List.mem_map.mp hc
  have hp := List.mem_range.mp hp
  have e : (tabF n k f).getD (ctxIx k (digs k n p)).toNat [] = f (digs k n p) := by
    rw [ctxIx_digs, Nat.mod_eq_of_lt hp, Int.toNat_natCast, List.getD_eq_getElem?_getD, tabF_get, ctxs_eq hs.k1, List.getElem?_map, List.getElem?_range hp]
    rfl
  rw [goodL_opts]
  refine Eq.trans (List.filter_congr fun z hz => ?_) (asc_opts (n := (digs k n p).length) (by rw [hok.len]; exact hf _ hok))
  obtain ⟨i, rfl⟩ : ∃ i : Nat, z = (i : Int) := ⟨z.toNat, by have := mem_opts.mp hz; omega⟩
  show ((tabF n k f).getD (ctxIx k (digs k n p)).toNat []).contains (i : Int) = _
  rw [e]
theorem fair_part {n k : Nat} {a : Am} (hs : SzOk n k) : isNone (optC (partL k n a (.table (tabF n k (hullF k a))))) = some (fairB k n a) := by
  have key : partL k n a (.table (tabF n k (hullF k a))) = none ↔ fairB k n a = true := by
    unfold partL fairB
    rw [List.find?_eq_none, decide_eq_true_eq, tabF_eq]
    refine forall_congr' fun c => forall_congr' fun hc => ?_
    rw [tabF_good (f := hullF k a) hs (fun c hc => asc_hullL hc) hc]
    rw [Bool.not_eq_true', Bool.not_eq_false, decide_eq_true_eq]
    exact ⟨Eq.symm, Eq.symm⟩
  cases e : partL k n a (.table (tabF n k (hullF k a))) with
  | none => rw [key.mp e]; rfl
  | some c =>
    have : fairB k n a = false := Bool.eq_false_iff.mpr fun z => by rw [key.mpr z] at e; cases e
    rw [this]; rfl
def c_is_fair (C L : Addr) : Con := fun ds μ Φ Ψ => ∃ (n k : Nat) (a : Am), ds = [aimO C a n k] ∧ AmIn n k a ∧ (SmallOk n k → Φ (.bl (fairB k n a)) μ) ∧ (¬ SmallOk n k → Ψ (.mk L none) μ)
theorem len_is_fair {C L ds μ Φ Ψ} (h : c_is_fair C L ds μ Φ Ψ) : ds.length = 1 := by obtain ⟨_, _, _, rfl, _⟩ := h; rfl
theorem ok_is_fair (T : Txt P w K mg) : FnOk P w K mg base (L2N.CX P w) 26 T.f_is_fair T.d_is_fair ["aim"] (spOf K (c_is_fair T.c_Aim T.c_TooLarge)) := by
  refine def_okC T.F_is_fair sc_is_fair _ (fun ds μ Φ Ψ h => len_is_fair h) (fun cdv A outer s H E B hW hr =>
    have tk : L2N.Takes (cxOf (L2N.CX P w) P w K mg base N_is_fair "is_fair" (defScope s_is_fair) T.f_is_fair cdv A outer s H E) (fun cls d _ H => E cls d H) := L2N.takes_of rfl rfl rfl rfl
    ⟨_, (pss_one (ps_ret (pe_cmpR op_isN (pe_callS (ok_parting_context T) (hr.mono (by decide)) rfl T.g_parting_context T.F_parting_context.kp T.b_parting_context (fun σ => L2N.passAt tk σ) (pa_cons (pv 0) (pa_cons (pe_callS (ok_fair_hull T) (hr.mono (by decide)) rfl T.g_fair_hull T.F_fair_hull.kp T.b_fair_hull (fun σ => L2N.passAt tk σ) (pa_cons (pv 0) pa_nil)) pa_nil))) pe_non (nomark _)))),
      (sRet (sOp roIsN (sCallSW (W := fun cls d _ H => E cls d H) (by exact hW) (sCons sVar (sCons (sCallSW (W := fun cls d _ H => E cls d H) (by exact hW) (sCons sVar sNil)) sNil))) sNon))⟩) (fun ds μ Φ Ψ h => ?hv)
  case hv =>
    obtain ⟨n, k, a, rfl, ha, h1, h2⟩ := h
    have hs := ha.sz
    walk_at "wps"
    refine ⟨n, k, a, rfl, ha, fun q => ?_, fun q => ⟨_, Sub.refl, h2 q⟩⟩
    have hb : AmIn n k (.table (tabF n k (hullF k a))) := ⟨hs, tabF_ok hs q fun c hc => asc_hullL hc, by show 1 ≤ 6; decide⟩
    refine ⟨n, k, n, k, a, _, rfl, ha, hb, fun z => absurd ⟨rfl, rfl⟩ z, fun _ z => absurd q z, fun _ _ => ?_⟩
    exact ⟨fairB k n a, fair_part hs, ret_same (h1 q)⟩
def c_Aim___or__ (C : Addr) : Con := fun ds μ Φ _ => ∃ (n k : Nat) (a b : Am), ds = [aimO C a n k, aimO C b n k] ∧ AmIn n k a ∧ AmIn n k b ∧ (Am.either a b).dep ≤ 6 ∧ Φ (aimO C (.either a b) n k) μ
theorem len_Aim___or__ {C ds μ Φ Ψ} (h : c_Aim___or__ C ds μ Φ Ψ) : ds.length = 2 := by obtain ⟨_, _, _, _, rfl, _⟩ := h; rfl
theorem ok_Aim___or__ (T : Txt P w K mg) : FnOk P w K mg base (L2N.CX P w) 23 T.f_Aim___or__ T.d_Aim___or__ ["self", "other"] (spOf K (c_Aim___or__ T.c_Aim)) := by
  refine def_okC T.F_Aim___or__ sc_Aim___or__ _ (fun ds μ Φ Ψ h => len_Aim___or__ h) (fun cdv A outer s H E B hW hr =>
    have tk : L2N.Takes (cxOf (L2N.CX P w) P w K mg base N_Aim___or__ "Aim.__or__" (defScope s_Aim___or__) T.f_Aim___or__ cdv A outer s H E) (fun cls d _ H => E cls d H) := L2N.takes_of rfl rfl rfl rfl
    ⟨_, (pss_cons (ps_expr (pe_callS (ok_require_same_size T) (hr.mono (by decide)) rfl T.g_require_same_size T.F_require_same_size.kp T.b_require_same_size (fun σ => L2N.passAt tk σ) (pa_cons (pv 0) (pa_cons (pv 1) pa_nil))))
      (pss_one (ps_ret (pe_makeS T.mk_Aim (ok_Aim___init__ T) (hr.mono (by decide)) rfl T.g_Aim T.b_Aim___init__ (fun σ => L2N.passAt tk σ) (pa_cons (pe_tupN (pa_cons pe_str (pa_cons (pe_fld (pv 0) rfl) (pa_cons (pe_fld (pv 1) rfl) pa_nil)))) (pa_cons (pe_fld (pv 0) rfl) (pa_cons (pe_fld (pv 0) rfl) pa_nil))))))),
      (sSeq (sDrop (sCallSW (W := fun cls d _ H => E cls d H) (by exact hW) (sCons sVar (sCons sVar sNil))))
      (sRet (sMakeSW (W := fun cls d _ H => E cls d H) (by exact hW) (sCons (sTup (sCons sStr (sCons (sFldO (NS := NSA) (i := 0) T.cls_Aim T.na_Aim_term rfl (by decide) sVar) (sCons (sFldO (NS := NSA) (i := 0) T.cls_Aim T.na_Aim_term rfl (by decide) sVar) sNil)))) (sCons (sFldO (NS := NSA) (i := 1) T.cls_Aim T.na_Aim_options rfl (by decide) sVar) (sCons (sFldO (NS := NSA) (i := 2) T.cls_Aim T.na_Aim_outcomes rfl (by decide) sVar) sNil))))))⟩) (fun ds μ Φ Ψ h => ?hv)
  case hv =>
    obtain ⟨n, k, a, b, rfl, ha, hb, hd, h⟩ := h
    have hs := ha.sz
    walk_at "wps"
    refine ⟨a, b, n, k, n, k, rfl, fun _ => ?_, fun z => absurd ⟨rfl, rfl⟩ z⟩
    unfold aimO
    refine ⟨_, _, rfl, rfl, _, _, rfl, rfl, by decide, _, _, rfl, rfl, _, _, rfl, rfl, fun x hx => ?_⟩
    refine ⟨x, n, k, .either a b, rfl, hs, ⟨ha.ok, hb.ok⟩, hd, sset_same, rfl, NSA, _, sset_same, ?_⟩
    rw [sset_sset, sdel_sset hx]
    exact ret_same h
def c_Aim___and__ (C : Addr) : Con := fun ds μ Φ _ => ∃ (n k : Nat) (a b : Am), ds = [aimO C a n k, aimO C b n k] ∧ AmIn n k a ∧ AmIn n k b ∧ (Am.both a b).dep ≤ 6 ∧ Φ (aimO C (.both a b) n k) μ
theorem len_Aim___and__ {C ds μ Φ Ψ} (h : c_Aim___and__ C ds μ Φ Ψ) : ds.length = 2 := by obtain ⟨_, _, _, _, rfl, _⟩ := h; rfl
theorem ok_Aim___and__ (T : Txt P w K mg) : FnOk P w K mg base (L2N.CX P w) 23 T.f_Aim___and__ T.d_Aim___and__ ["self", "other"] (spOf K (c_Aim___and__ T.c_Aim)) := by
  refine def_okC T.F_Aim___and__ sc_Aim___and__ _ (fun ds μ Φ Ψ h => len_Aim___and__ h) (fun cdv A outer s H E B hW hr =>
    have tk : L2N.Takes (cxOf (L2N.CX P w) P w K mg base N_Aim___and__ "Aim.__and__" (defScope s_Aim___and__) T.f_Aim___and__ cdv A outer s H E) (fun cls d _ H => E cls d H) := L2N.takes_of rfl rfl rfl rfl
    ⟨_, (pss_cons (ps_expr (pe_callS (ok_require_same_size T) (hr.mono (by decide)) rfl T.g_require_same_size T.F_require_same_size.kp T.b_require_same_size (fun σ => L2N.passAt tk σ) (pa_cons (pv 0) (pa_cons (pv 1) pa_nil))))
      (pss_one (ps_ret (pe_makeS T.mk_Aim (ok_Aim___init__ T) (hr.mono (by decide)) rfl T.g_Aim T.b_Aim___init__ (fun σ => L2N.passAt tk σ) (pa_cons (pe_tupN (pa_cons pe_str (pa_cons (pe_fld (pv 0) rfl) (pa_cons (pe_fld (pv 1) rfl) pa_nil)))) (pa_cons (pe_fld (pv 0) rfl) (pa_cons (pe_fld (pv 0) rfl) pa_nil))))))),
      (sSeq (sDrop (sCallSW (W := fun cls d _ H => E cls d H) (by exact hW) (sCons sVar (sCons sVar sNil))))
      (sRet (sMakeSW (W := fun cls d _ H => E cls d H) (by exact hW) (sCons (sTup (sCons sStr (sCons (sFldO (NS := NSA) (i := 0) T.cls_Aim T.na_Aim_term rfl (by decide) sVar) (sCons (sFldO (NS := NSA) (i := 0) T.cls_Aim T.na_Aim_term rfl (by decide) sVar) sNil)))) (sCons (sFldO (NS := NSA) (i := 1) T.cls_Aim T.na_Aim_options rfl (by decide) sVar) (sCons (sFldO (NS := NSA) (i := 2) T.cls_Aim T.na_Aim_outcomes rfl (by decide) sVar) sNil))))))⟩) (fun ds μ Φ Ψ h => ?hv)
  case hv =>
    obtain ⟨n, k, a, b, rfl, ha, hb, hd, h⟩ := h
    have hs := ha.sz
    walk_at "wps"
    refine ⟨a, b, n, k, n, k, rfl, fun _ => ?_, fun z => absurd ⟨rfl, rfl⟩ z⟩
    unfold aimO
    refine ⟨_, _, rfl, rfl, _, _, rfl, rfl, by decide, _, _, rfl, rfl, _, _, rfl, rfl, fun x hx => ?_⟩
    refine ⟨x, n, k, .both a b, rfl, hs, ⟨ha.ok, hb.ok⟩, hd, sset_same, rfl, NSA, _, sset_same, ?_⟩
    rw [sset_sset, sdel_sset hx]
    exact ret_same h
def c_Aim___invert__ (C : Addr) : Con := fun ds μ Φ _ => ∃ (n k : Nat) (a : Am), ds = [aimO C a n k] ∧ AmIn n k a ∧ (Am.not a).dep ≤ 6 ∧ Φ (aimO C (.not a) n k) μ
theorem len_Aim___invert__ {C ds μ Φ Ψ} (h : c_Aim___invert__ C ds μ Φ Ψ) : ds.length = 1 := by obtain ⟨_, _, _, rfl, _⟩ := h; rfl
theorem ok_Aim___invert__ (T : Txt P w K mg) : FnOk P w K mg base (L2N.CX P w) 23 T.f_Aim___invert__ T.d_Aim___invert__ ["self"] (spOf K (c_Aim___invert__ T.c_Aim)) := by
  refine def_okC T.F_Aim___invert__ sc_Aim___invert__ _ (fun ds μ Φ Ψ h => len_Aim___invert__ h) (fun cdv A outer s H E B hW hr =>
    have tk : L2N.Takes (cxOf (L2N.CX P w) P w K mg base N_Aim___invert__ "Aim.__invert__" (defScope s_Aim___invert__) T.f_Aim___invert__ cdv A outer s H E) (fun cls d _ H => E cls d H) := L2N.takes_of rfl rfl rfl rfl
    ⟨_, (pss_one (ps_ret (pe_makeS T.mk_Aim (ok_Aim___init__ T) (hr.mono (by decide)) rfl T.g_Aim T.b_Aim___init__ (fun σ => L2N.passAt tk σ) (pa_cons (pe_tupN (pa_cons pe_str (pa_cons (pe_fld (pv 0) rfl) pa_nil))) (pa_cons (pe_fld (pv 0) rfl) (pa_cons (pe_fld (pv 0) rfl) pa_nil)))))),
      (sRet (sMakeSW (W := fun cls d _ H => E cls d H) (by exact hW) (sCons (sTup (sCons sStr (sCons (sFldO (NS := NSA) (i := 0) T.cls_Aim T.na_Aim_term rfl (by decide) sVar) sNil))) (sCons (sFldO (NS := NSA) (i := 1) T.cls_Aim T.na_Aim_options rfl (by decide) sVar) (sCons (sFldO (NS := NSA) (i := 2) T.cls_Aim T.na_Aim_outcomes rfl (by decide) sVar) sNil)))))⟩) (fun ds μ Φ Ψ h => ?hv)
  case hv =>
    obtain ⟨n, k, a, rfl, ha, hd, h⟩ := h
    have hs := ha.sz
    unfold aimO
    walk_at "wps"
    refine ⟨by decide, fun x hx => ?_⟩
    refine ⟨x, n, k, .not a, rfl, hs, ha.ok, hd, sset_same, rfl, NSA, _, sset_same, ?_⟩
    rw [sset_sset, sdel_sset hx]
    exact ret_same h
end
section
variable {P : Program} {w : World} {K : Fg} {mg : Str → Option Value} {base : Heap}
def HcC (f : List Int → List Int → List Int) : Con := fun ds μ Φ _ => ∃ (c g : List Int), ds = [.tup (c.map .int), .tup (g.map .int)] ∧ c.length ≤ 1000 ∧ g.length ≤ 1000 ∧ (∀ z ∈ g, z ∈ optsI c.length) ∧ Φ (.tup ((f c g).map .int)) μ
theorem HcC.len {f ds μ Φ Ψ} (h : HcC f ds μ Φ Ψ) : ds.length = 2 := by obtain ⟨_, _, rfl, _⟩ := h; rfl
def c__law_hull : Con := HcC hullL
theorem len__law_hull {ds μ Φ Ψ} (h : c__law_hull ds μ Φ Ψ) : ds.length = 2 := h.len
theorem ok__law_hull (T : Txt P w K mg) : FnOk P w K mg base (L2N.CX P w) 1 T.f__law_hull T.d__law_hull ["_law_context_here", "_law_good_here"] (spOf K c__law_hull) := by
  refine def_okC T.F__law_hull sc__law_hull _ (fun ds μ Φ Ψ h => len__law_hull h) (fun cdv A outer s H E B hW hr =>
    have tk : L2N.Takes (cxOf (L2N.CX P w) P w K mg base N__law_hull "_law_hull" (defScope s__law_hull) T.f__law_hull cdv A outer s H E) (fun cls d _ H => E cls d H) := L2N.takes_of rfl rfl rfl rfl
    ⟨_, (pss_cons (ps_set (i := 2) sc__law_hull.nd rfl (Or.inr rfl) (pe_lc (own := [("_law_x", 3)]) rfl sc__law_hull.nd (pi_tup (pv 1)) (blkOk_by (N := N__law_hull) (sc := defScope s__law_hull) (by decide +kernel)) (fun _ _ _ _ _ => (pg_name (i := 3) sc__law_hull.nd rfl (Or.inl rfl))) (fun _ _ _ _ _ => pts_nil) (fun _ _ _ _ _ => (pe_ix ix_tup (pv 0) (pv 3) (fun _ _ => rfl)))))
      (pss_one (ps_ret (pe_callTy call_tupleN (by rfl) T.z_tuple (by decide +kernel) (pa_cons (pe_lc (own := [("_law_x", 3)]) rfl sc__law_hull.nd (pi_range1 rfl T.z_range (pa_cons (pe_callB call_len_seq (by rfl) T.z_len PySem.boot_len (pa_cons (pv 0) pa_nil)) pa_nil)) (blkOk_by (N := N__law_hull) (sc := defScope s__law_hull) (by decide +kernel)) (fun _ _ _ _ _ => (pg_name (i := 3) sc__law_hull.nd rfl (Or.inl rfl))) (fun _ _ _ _ _ => (pts_one (pt_cmpR op_in_seq (pe_ix ix_tup (pv 0) (pv 3) (fun _ _ => rfl)) (pv 2) (by with_unfolding_all rfl)))) (fun _ _ _ _ _ => (pv 3))) pa_nil))))),
      (sSeq (sAsg (sLc (siT sVar) (gwName List.mem_cons_self) (fun _ _ _ => sName) (fun _ _ _ => sYes) (fun _ _ _ => (sOp roIxT sVar sVar))) sName)
      (sRet (sCB rcTuple (sCons (sLc (siR1 (sCB rcLen (sCons sVar sNil))) (gwName List.mem_cons_self) (fun _ _ _ => sName) (fun _ _ _ => (sTest (sOp (roIn (neg := false)) (sOp roIxT sVar sVar) sVar))) (fun _ _ _ => sVar)) sNil))))⟩) (fun ds μ Φ Ψ h => ?hv)
  case hv =>
    obtain ⟨c, g, rfl, hc, hg, hin, h⟩ := h
    walk_at "wps"
    refine lcZ (fun z => .int (nth c z)) (by omega) (fun z μ2 X hz hsub hx => ?_) ?_
    · walk_at "wps"
      exact ⟨_, ixI (hin z hz), hx⟩
    · rw [map_nth, rngD_opts]
      refine ⟨by omega, by omega, ?_⟩
      refine lcZf (fun z => (g.map (nth c)).contains (nth c z)) .int (by rw [optsI_len]; omega) (fun z μ2 X Y hz hsub hx hy => ?_) ?_
      · walk_at "wps"
        refine ⟨_, ixI hz, ?_⟩
        refine in_IL ?_
        walk_at "wps"
        exact ⟨hx, hy⟩
      · exact ⟨_, .lst _, ret_same h⟩
def c__law_core : Con := HcC coreL
theorem len__law_core {ds μ Φ Ψ} (h : c__law_core ds μ Φ Ψ) : ds.length = 2 := h.len
theorem ok__law_core (T : Txt P w K mg) : FnOk P w K mg base (L2N.CX P w) 1 T.f__law_core T.d__law_core ["_law_context_here", "_law_good_here"] (spOf K c__law_core) := by
  refine def_okC T.F__law_core sc__law_core _ (fun ds μ Φ Ψ h => len__law_core h) (fun cdv A outer s H E B hW hr =>
    have tk : L2N.Takes (cxOf (L2N.CX P w) P w K mg base N__law_core "_law_core" (defScope s__law_core) T.f__law_core cdv A outer s H E) (fun cls d _ H => E cls d H) := L2N.takes_of rfl rfl rfl rfl
    ⟨_, (pss_cons (ps_set (i := 2) sc__law_core.nd rfl (Or.inr rfl) (pe_lc (own := [("_law_x", 3)]) rfl sc__law_core.nd (pi_range1 rfl T.z_range (pa_cons (pe_callB call_len_seq (by rfl) T.z_len PySem.boot_len (pa_cons (pv 0) pa_nil)) pa_nil)) (blkOk_by (N := N__law_core) (sc := defScope s__law_core) (by decide +kernel)) (fun _ _ _ _ _ => (pg_name (i := 3) sc__law_core.nd rfl (Or.inl rfl))) (fun _ _ _ _ _ => (pts_one (pt_cmpR op_notIn_seq (pv 3) (pv 1) (by with_unfolding_all rfl)))) (fun _ _ _ _ _ => (pe_ix ix_tup (pv 0) (pv 3) (fun _ _ => rfl)))))
      (pss_one (ps_ret (pe_callTy call_tupleN (by rfl) T.z_tuple (by decide +kernel) (pa_cons (pe_lc (own := [("_law_x", 3)]) rfl sc__law_core.nd (pi_range1 rfl T.z_range (pa_cons (pe_callB call_len_seq (by rfl) T.z_len PySem.boot_len (pa_cons (pv 0) pa_nil)) pa_nil)) (blkOk_by (N := N__law_core) (sc := defScope s__law_core) (by decide +kernel)) (fun _ _ _ _ _ => (pg_name (i := 3) sc__law_core.nd rfl (Or.inl rfl))) (fun _ _ _ _ _ => (pts_one (pt_cmpR op_notIn_seq (pe_ix ix_tup (pv 0) (pv 3) (fun _ _ => rfl)) (pv 2) (by with_unfolding_all rfl)))) (fun _ _ _ _ _ => (pv 3))) pa_nil))))),
      (sSeq (sAsg (sLc (siR1 (sCB rcLen (sCons sVar sNil))) (gwName List.mem_cons_self) (fun _ _ _ => sName) (fun _ _ _ => (sTest (sOp (roIn (neg := true)) sVar sVar))) (fun _ _ _ => (sOp roIxT sVar sVar))) sName)
      (sRet (sCB rcTuple (sCons (sLc (siR1 (sCB rcLen (sCons sVar sNil))) (gwName List.mem_cons_self) (fun _ _ _ => sName) (fun _ _ _ => (sTest (sOp (roIn (neg := true)) (sOp roIxT sVar sVar) sVar))) (fun _ _ _ => sVar)) sNil))))⟩) (fun ds μ Φ Ψ h => ?hv)
  case hv =>
    obtain ⟨c, g, rfl, hc, hg, hin, h⟩ := h
    walk_at "wps"
    refine ⟨by omega, by omega, ?_⟩
    rw [rngD_opts]
    refine lcZf (fun z => !g.contains z) (fun z => .int (nth c z)) (by rw [optsI_len]; omega) (fun z μ2 X Y hz hsub hx hy => ?_) ?_
    · walk_at "wps"
      refine nin_I ?_
      walk_at "wps"
      exact ⟨fun hb => ⟨_, ixI hz, hx hb⟩, hy⟩
    · rw [map_nth]
      refine ⟨by omega, by omega, ?_⟩
      refine lcZf (fun z => !(((optsI c.length).filter fun y => !g.contains y).map (nth c)).contains (nth c z)) .int (by rw [optsI_len]; omega) (fun z μ2 X Y hz hsub hx hy => ?_) ?_
      · walk_at "wps"
        refine ⟨_, ixI hz, ?_⟩
        refine nin_IL ?_
        walk_at "wps"
        exact ⟨hx, hy⟩
      · exact ⟨_, .lst _, ret_same h⟩
def c__law_others : Con := fun ds μ Φ _ => ∃ (n : Nat) (rows : List (List Int)), ds = [.tup (rows.map Am.iT), .int n] ∧ n ≤ 1000 ∧ rows.length ≤ 1000 ∧ Φ (.tup ((rows.map (complL n)).map Am.iT)) μ
theorem len__law_others {ds μ Φ Ψ} (h : c__law_others ds μ Φ Ψ) : ds.length = 2 := by obtain ⟨_, _, rfl, _⟩ := h; rfl
theorem ok__law_others (T : Txt P w K mg) : FnOk P w K mg base (L2N.CX P w) 1 T.f__law_others T.d__law_others ["_law_rows", "_law_n"] (spOf K c__law_others) := by
  refine def_okC T.F__law_others sc__law_others _ (fun ds μ Φ Ψ h => len__law_others h) (fun cdv A outer s H E B hW hr =>
    have tk : L2N.Takes (cxOf (L2N.CX P w) P w K mg base N__law_others "_law_others" (defScope s__law_others) T.f__law_others cdv A outer s H E) (fun cls d _ H => E cls d H) := L2N.takes_of rfl rfl rfl rfl
    ⟨_, (pss_one (ps_ret (pe_callTy call_tupleN (by rfl) T.z_tuple (by decide +kernel) (pa_cons (pe_lc (own := [("_law_row", 2)]) rfl sc__law_others.nd (pi_tup (pv 0)) (blkOk_by (N := N__law_others) (sc := defScope s__law_others) (by decide +kernel)) (fun _ _ _ _ _ => (pg_name (i := 2) sc__law_others.nd rfl (Or.inr rfl))) (fun _ _ _ _ _ => pts_nil) (fun _ _ _ _ _ => (pe_callTy call_tupleN (by rfl) T.z_tuple (by decide +kernel) (pa_cons (pe_lc (own := [("_law_x", 3)]) rfl sc__law_others.nd (pi_range1 rfl T.z_range (pa_cons (pv 1) pa_nil)) (blkOk_by (N := N__law_others) (by exact rfl)) (fun _ _ _ _ _ => (pg_name (i := 3) sc__law_others.nd rfl (Or.inl rfl))) (fun _ _ _ _ _ => (pts_one (pt_cmpR op_notIn_seq (pv 3) (pv 2) (by with_unfolding_all rfl)))) (fun _ _ _ _ _ => (pv 3))) pa_nil)))) pa_nil)))),
      (sRet (sCB rcTuple (sCons (sLc (siT sVar) (gwName List.mem_cons_self) (fun _ _ _ => sName) (fun _ _ _ => sYes) (fun _ _ _ => (sCB rcTuple (sCons (sLc (siR1 sVar) (gwName List.mem_cons_self) (fun _ _ _ => sName) (fun _ _ _ => (sTest (sOp (roIn (neg := true)) sVar sVar))) (fun _ _ _ => sVar)) sNil)))) sNil)))⟩) (fun ds μ Φ Ψ h => ?hv)
  case hv =>
    obtain ⟨n, rows, rfl, hn, hl, h⟩ := h
    walk_at "wps"
    refine lcCs (fun r => Am.iT (complL n r)) (by omega) (fun r μ2 X hr hsub hx => ?_) ?_
    · unfold Am.iT
      walk_at "wps"
      refine ⟨by omega, by omega, ?_⟩
      rw [rngD_opts]
      refine lcZf (fun z => !r.contains z) .int (by rw [optsI_len]; omega) (fun z μ2 X Y hz hsub hx hy => ?_) ?_
      · walk_at "wps"
        refine nin_I ?_
        walk_at "wps"
        exact ⟨hx, hy⟩
      · exact ⟨_, .lst _, hx⟩
    · refine ⟨_, .lst _, ret_same ?_⟩
      rw [List.map_map] at h
      exact h
end
section
variable {P : Program} {w : World} {K : Fg} {mg : Str → Option Value} {base : Heap}
def c__law_shape : Con := fun ds μ Φ _ => ∃ (st : Addr) (ns : List Int) (c : List D), ds = [.hd (.ref st)] ∧ μ st = some (.lst c) ∧ StC ns c ∧ ∀ (n k : Nat) c', SzOk n k → SmallOk n k → StC ns c' → Φ (.tup [.int n, .int k]) (sset μ st (.lst c'))
theorem len__law_shape {ds μ Φ Ψ} (h : c__law_shape ds μ Φ Ψ) : ds.length = 1 := by obtain ⟨_, _, _, rfl, _⟩ := h; rfl
theorem ok__law_shape (T : Txt P w K mg) : FnOk P w K mg base (L2N.CX P w) 2 T.f__law_shape T.d__law_shape ["_law_state"] (spOf K c__law_shape) := by
  refine def_okC T.F__law_shape sc__law_shape _ (fun ds μ Φ Ψ h => len__law_shape h) (fun cdv A outer s H E B hW hr =>
    have tk : L2N.Takes (cxOf (L2N.CX P w) P w K mg base N__law_shape "_law_shape" (defScope s__law_shape) T.f__law_shape cdv A outer s H E) (fun cls d _ H => E cls d H) := L2N.takes_of rfl rfl rfl rfl
    ⟨_, (pss_cons (ps_set (i := 1) sc__law_shape.nd rfl (Or.inl rfl) (pe_ix ix_list (pe_lst (pa_cons pe_int (pa_cons pe_int (pa_cons pe_int (pa_cons pe_int (pa_cons pe_int (pa_cons pe_int pa_nil))))))) (pe_call (ok__law_pick T) hr rfl T.g__law_pick T.F__law_pick.kp T.b__law_pick .nil passN (pa_cons (pv 0) (pa_cons pe_int pa_nil))) (fun _ _ => rfl)))
      (pss_cons (ps_set (i := 2) sc__law_shape.nd rfl (Or.inl rfl) (pe_ix ix_list (pe_lst (pa_cons pe_int (pa_cons pe_int (pa_cons pe_int (pa_cons pe_int pa_nil))))) (pe_op op_sub (pv 1) pe_int) (fun _ _ => rfl)))
      (pss_cons (ps_if (pt_cmpR op_eq (pe_call (ok__law_pick T) hr rfl T.g__law_pick T.F__law_pick.kp T.b__law_pick .nil passN (pa_cons (pv 0) (pa_cons pe_int pa_nil))) pe_int (nomark _)) (pss_one (ps_set (i := 2) sc__law_shape.nd rfl (Or.inl rfl) (pe_ix ix_list (pe_lst (pa_cons pe_int (pa_cons pe_int (pa_cons pe_int (pa_cons pe_int pa_nil))))) (pe_op op_sub (pv 1) pe_int) (fun _ _ => rfl)))) pss_nil)
      (pss_one (ps_ret (pe_tupN (pa_cons (pe_op op_sub (pv 2) (pe_call (ok__law_pick T) hr rfl T.g__law_pick T.F__law_pick.kp T.b__law_pick .nil passN (pa_cons (pv 0) (pa_cons (pe_callB (call_min2 rfl) (by rfl) T.z_min (by decide +kernel) (pa_cons (pv 2) (pa_cons pe_int pa_nil))) pa_nil)))) (pa_cons (pv 1) pa_nil)))))))),
      (sSeq (sAsg (sOp roIxL (sLst (sCons sInt (sCons sInt (sCons sInt (sCons sInt (sCons sInt (sCons sInt sNil))))))) (sCall (sCons sVar (sCons sInt sNil)))) sName)
      (sSeq (sAsg (sOp roIxL (sLst (sCons sInt (sCons sInt (sCons sInt (sCons sInt sNil))))) (sOp roInt0 sVar sInt)) sName)
      (sSeq (sIfS (sTest (sOp roEq (sCall (sCons sVar (sCons sInt sNil))) sInt)) (sAsg (sOp roIxL (sLst (sCons sInt (sCons sInt (sCons sInt (sCons sInt sNil))))) (sOp roInt0 sVar sInt)) sName) sNext)
      (sRet (sTup (sCons (sOp roInt0 sVar (sCall (sCons sVar (sCons (sCB rcMin2 (sCons sVar (sCons sInt sNil))) sNil)))) (sCons sVar sNil)))))))⟩) (fun ds μ Φ Ψ h => ?hv)
  case hv =>
    obtain ⟨st, ns, c, rfl, hst, hc, h⟩ := h
    walk_at "wps"
    refine ⟨by decide, st, ns, c, 6, rfl, hst, hc, by decide, by decide, fun r c1 r0 r1 sc => ?_⟩
    have fin : ∀ (kk top lim : Nat) (c2 : List D), StC ns c2 → 1 ≤ kk → kk ≤ 4 → 1 ≤ lim → lim ≤ top → top ≤ 8 → kk ^ top ≤ 256 → c__law_pick [.hd (.ref st), .int lim] (sset μ st (.lst c2)) (fun y μ2 => oI0 (fun i j => D.int (i - j)) (.int top) y μ2 fun x μ1 => 2 ≤ 100000 ∧ ∃ μ2, DW.Sub μ2 μ1 ∧ Φ (.tup [x, .int kk]) μ2) fun _ _ => False := fun kk top lim c2 sc2 k1 k4 l1 lt t8 hp => by
      refine ⟨st, ns, c2, lim, rfl, sset_same, sc2, by omega, by rw [Int.natAbs_natCast]; have := Nat.log2_le_self lim; omega, fun v c3 v0 v1 sc3 => ?_⟩
      rw [sset_sset]
      walk_at "wps"
      have e : (top : Int) - v = ((top - v.toNat : Nat) : Int) := by omega
      rw [e]
      refine ⟨by decide, ret_same (h _ _ c3 ⟨by omega, by omega, by omega, by omega⟩ ⟨by omega, ?_⟩ sc3)⟩
      exact Nat.le_trans (Nat.pow_le_pow_right k1 (by omega)) hp
    rcases (show r = 0 ∨ r = 1 ∨ r = 2 ∨ r = 3 ∨ r = 4 ∨ r = 5 by omega) with rfl | rfl | rfl | rfl | rfl | rfl
    all_goals
      walk_at "wps"
      try refine ⟨_, rfl, ?_⟩
      refine ⟨by decide, ?_⟩
      walk_at "wps"
      try refine ⟨_, rfl, ?_⟩
      refine ⟨st, ns, c1, 12, rfl, sset_same, sc, by decide, by decide, fun u c2 u0 u1 sc2 => ?_⟩
      rw [sset_sset]
      walk_at "wps"
      refine ⟨fun _ => ⟨by decide, _, rfl, ?_⟩, fun _ => ?_⟩
    all_goals walk_at "wps"
    all_goals first
      | exact fin 2 8 3 _ (by assumption) (by decide) (by decide) (by decide) (by decide) (by decide) (by decide)
      | exact fin 2 5 3 _ (by assumption) (by decide) (by decide) (by decide) (by decide) (by decide) (by decide)
      | exact fin 3 5 3 _ (by assumption) (by decide) (by decide) (by decide) (by decide) (by decide) (by decide)
      | exact fin 3 3 3 _ (by assumption) (by decide) (by decide) (by decide) (by decide) (by decide) (by decide)
      | exact fin 4 4 3 _ (by assumption) (by decide) (by decide) (by decide) (by decide) (by decide) (by decide)
      | exact fin 4 2 2 _ (by assumption) (by decide) (by decide) (by decide) (by decide) (by decide) (by decide)
      | exact fin 1 8 3 _ (by assumption) (by decide) (by decide) (by decide) (by decide) (by decide) (by decide)
      | exact fin 1 4 3 _ (by assumption) (by decide) (by decide) (by decide) (by decide) (by decide) (by decide)
theorem sset_id {μ : Sto} {a : Addr} {c : Cell} (h : μ a = some c) : sset μ a c = μ := by
  funext b
  by_cases h1 : b = a
  · subst h1; rw [sset_same, h]
  · rw [sset_ne h1]
def c__law_fair_rows : Con := fun ds μ Φ _ => ∃ (st : Addr) (ns : List Int) (c : List D) (n k : Nat), ds = [.hd (.ref st), .lst ((ctxs n k).map Am.iT), .int k] ∧ μ st = some (.lst c) ∧ StC ns c ∧ SzOk n k ∧ SmallOk n k ∧ ∀ rows c', AmOk n k (.table rows) → StC ns c' → Φ (.lst (rows.map Am.iT)) (sset μ st (.lst c'))
theorem len__law_fair_rows {ds μ Φ Ψ} (h : c__law_fair_rows ds μ Φ Ψ) : ds.length = 3 := by obtain ⟨_, _, _, _, _, rfl, _⟩ := h; rfl
theorem ok__law_fair_rows (T : Txt P w K mg) : FnOk P w K mg base (L2N.CX P w) 3 T.f__law_fair_rows T.d__law_fair_rows ["_law_state", "_law_contexts_here", "_law_k"] (spOf K c__law_fair_rows) := by
  refine def_okC T.F__law_fair_rows sc__law_fair_rows _ (fun ds μ Φ Ψ h => len__law_fair_rows h) (fun cdv A outer s H E B hW hr =>
    have tk : L2N.Takes (cxOf (L2N.CX P w) P w K mg base N__law_fair_rows "_law_fair_rows" (defScope s__law_fair_rows) T.f__law_fair_rows cdv A outer s H E) (fun cls d _ H => E cls d H) := L2N.takes_of rfl rfl rfl rfl
    ⟨_, (pss_cons (ps_set (i := 3) sc__law_fair_rows.nd rfl (Or.inl rfl) (pe_lst pa_nil))
      (pss_cons (ps_for (passes_of rfl) rfl (pi_list (pv 1)) (pg_name (i := 4) sc__law_fair_rows.nd rfl (Or.inr rfl)) (pss_cons (ps_set (i := 5) sc__law_fair_rows.nd rfl (Or.inr rfl) (pe_call (ok__law_some T) hr rfl T.g__law_some T.F__law_some.kp T.b__law_some .nil passN (pa_cons (pv 0) (pa_cons (pv 2) pa_nil))))
      (pss_one (ps_expr (pe_bm PySem.F.plainAttrs_list PySem.F.slot_list_append PySem.F.type_list_append mt_append (pv 3) (pa_cons (pe_callTy call_tupleN (by rfl) T.z_tuple (by decide +kernel) (pa_cons (pe_lc (own := [("_law_x", 6)]) rfl sc__law_fair_rows.nd (pi_range1 rfl T.z_range (pa_cons (pe_callB call_len_seq (by rfl) T.z_len PySem.boot_len (pa_cons (pv 4) pa_nil)) pa_nil)) (blkOk_by (N := N__law_fair_rows) (sc := defScope s__law_fair_rows) (by decide +kernel)) (fun _ _ _ _ _ => (pg_name (i := 6) sc__law_fair_rows.nd rfl (Or.inl rfl))) (fun _ _ _ _ _ => (pts_one (pt_cmpR op_in_seq (pe_ix ix_tup (pv 4) (pv 6) (fun _ _ => rfl)) (pv 5) (by with_unfolding_all rfl)))) (fun _ _ _ _ _ => (pv 6))) pa_nil)) pa_nil))))))
      (pss_one (ps_ret (pv 3))))),
      (sSeq (sAsg (sOwn sNil) sName)
      (sSeq (sFor (siL sVar) (fun _ _ _ => sName) (fun _ _ _ => (sSeq (sAsg (sCall (sCons sVar (sCons sVar sNil))) sName)
      (sDrop (sApp sVar (sCB rcTuple (sCons (sLc (siR1 (sCB rcLen (sCons sVar sNil))) (gwName List.mem_cons_self) (fun _ _ _ => sName) (fun _ _ _ => (sTest (sOp (roIn (neg := false)) (sOp roIxT sVar sVar) sVar))) (fun _ _ _ => sVar)) sNil)))))))
      (sRet sRest)))⟩) (fun ds μ Φ Ψ h => ?hv)
  case hv =>
    obtain ⟨st, ns, c, n, k, rfl, hst, hc, hs, hsm, h⟩ := h
    walk_at "wps"
    have few := ctxs_few hs.k1 hsm
    refine ⟨by decide, fun p hp => ?_⟩
    have ne : st ≠ p := fun z => by rw [z, hp] at hst; cases hst
    refine ⟨fun i δ' μ' => ∃ (rows : List (List Int)) (c' : List D), StC ns c' ∧ rows.length = i ∧ (∀ r ∈ rows, Asc n 0 r) ∧ μ' = sset (sset μ st (.lst c')) p (.lst (rows.map Am.iT)) ∧ ∃ x y z, δ' = [some (.hd (.ref st)), some (.lst ((ctxs n k).map Am.iT)), some (.int k), some (.hd (.ref p)), x, y, z], ⟨[], c, hc, rfl, nofun, ?_, none, none, none, rfl⟩, ?_, ?_⟩
    · rw [sset_id hst]; rfl
    · rintro i d δ' μ' hi ⟨rows, c', sc, hl, ha, rfl, x, y, z, rfl⟩
      rw [List.getElem?_map, Option.map_eq_some_iff] at hi
      obtain ⟨cx, hi, rfl⟩ := hi
      have hok := ctxs_ok hs.n1 hs.n64 hs.k1 hs.k4 (List.mem_of_getElem? hi)
      walk_at "wps"
      have Mst : sset (sset μ st (.lst c')) p (.lst (rows.map Am.iT)) st = some (.lst c') := by rw [sset_ne ne, sset_same]
      refine ⟨st, ns, c', k, rfl, Mst, sc, by have := hs.k4; omega, fun l c2 hl2 sc2 => ?_⟩
      rw [sset_comm (a := p) (b := st) (Ne.symm ne), sset_sset]
      have cl := hok.len
      have n64 := hok.n64
      unfold Am.iT
      refine ⟨_, sset_same, _, .tup _, ?_, ?_, ?_⟩
      · rw [List.length_map]; omega
      · rw [List.length_map]; omega
      rw [List.length_map, rngD_opts]
      refine lcZf (fun z => l.contains (nth cx z)) .int (by rw [optsI_len]; omega) (fun z μ2 X Y hz hsub hx hy => ?_) ?_
      · walk_at "wps"
        refine ⟨_, ixI hz, ?_⟩
        refine in_I ?_
        walk_at "wps"
        exact ⟨hx, hy⟩
      · refine ⟨_, .lst _, _, sset_same, ?_, rows ++ [(optsI cx.length).filter fun z => l.contains (nth cx z)], c2, sc2, ?_, fun r hr => ?_, ?_, _, _, _, rfl⟩
        · rw [List.length_map, hl]
          have := (List.getElem?_eq_some_iff.mp hi).1
          omega
        · rw [List.length_append, hl]; rfl
        · rcases List.mem_append.mp hr with q | q
          · exact ha r q
          · rw [List.mem_singleton.mp q, cl]; exact asc_fopts _
        · rw [sset_sset, List.map_append]; rfl
    · rintro δ' μ' ⟨rows, c', sc, hl, ha, rfl, x, y, z, rfl⟩
      refine ⟨p, _, rfl, sset_same, sset μ st (.lst c'), ?_, h rows c' ⟨hsm.1, hsm.2, ?_, ha⟩ sc⟩
      · rw [sset_sset]
        exact Sub.refl.set (by rw [sset_ne (Ne.symm ne)]; exact hp)
      · rw [hl, ← ctxs_len hs.k1]
end
section
variable {P : Program} {w : World} {K : Fg} {mg : Str → Option Value} {base : Heap}
def c__law_toggled : Con := fun ds μ Φ _ => ∃ (st : Addr) (ns : List Int) (c : List D) (n k : Nat) (rows : List (List Int)), ds = [.hd (.ref st), .lst (rows.map Am.iT), .int n] ∧ μ st = some (.lst c) ∧ StC ns c ∧ SzOk n k ∧ AmOk n k (.table rows) ∧ ∀ rows' c', AmOk n k (.table rows') → StC ns c' → Φ (.lst (rows'.map Am.iT)) (sset μ st (.lst c'))
theorem len__law_toggled {ds μ Φ Ψ} (h : c__law_toggled ds μ Φ Ψ) : ds.length = 3 := by obtain ⟨_, _, _, _, _, _, rfl, _⟩ := h; rfl
theorem ok__law_toggled (T : Txt P w K mg) : FnOk P w K mg base (L2N.CX P w) 2 T.f__law_toggled T.d__law_toggled ["_law_state", "_law_rows", "_law_n"] (spOf K c__law_toggled) := by
  refine def_okC T.F__law_toggled sc__law_toggled _ (fun ds μ Φ Ψ h => len__law_toggled h) (fun cdv A outer s H E B hW hr =>
    have tk : L2N.Takes (cxOf (L2N.CX P w) P w K mg base N__law_toggled "_law_toggled" (defScope s__law_toggled) T.f__law_toggled cdv A outer s H E) (fun cls d _ H => E cls d H) := L2N.takes_of rfl rfl rfl rfl
    ⟨_, (pss_cons (ps_set (i := 3) sc__law_toggled.nd rfl (Or.inr rfl) (pe_call (ok__law_pick T) hr rfl T.g__law_pick T.F__law_pick.kp T.b__law_pick .nil passN (pa_cons (pv 0) (pa_cons (pe_callB call_len_seq (by rfl) T.z_len PySem.boot_len (pa_cons (pv 1) pa_nil)) pa_nil))))
      (pss_cons (ps_set (i := 4) sc__law_toggled.nd rfl (Or.inr rfl) (pe_call (ok__law_pick T) hr rfl T.g__law_pick T.F__law_pick.kp T.b__law_pick .nil passN (pa_cons (pv 0) (pa_cons (pv 2) pa_nil))))
      (pss_cons (ps_set (i := 5) sc__law_toggled.nd rfl (Or.inl rfl) (pe_callTy call_tupleN (by rfl) T.z_tuple (by decide +kernel) (pa_cons (pe_lc (own := [("_law_x", 6)]) rfl sc__law_toggled.nd (pi_range1 rfl T.z_range (pa_cons (pv 2) pa_nil)) (blkOk_by (N := N__law_toggled) (sc := defScope s__law_toggled) (by decide +kernel)) (fun _ _ _ _ _ => (pg_name (i := 6) sc__law_toggled.nd rfl (Or.inl rfl))) (fun _ _ _ _ _ => (pts_one (pt_cmpR op_ne (pe_cmpR op_in_seq (pv 6) (pe_ix ix_list (pv 1) (pv 3) (fun _ _ => rfl)) (by with_unfolding_all rfl)) (pe_cmpR op_eq (pv 6) (pv 4) (nomark _)) (nomark _)))) (fun _ _ _ _ _ => (pv 6))) pa_nil)))
      (pss_one (ps_ret (pe_op op_cat (pe_op op_cat (pe_slice sl_list (pv 1) po_none (po_some (pv 3))) (pe_lst (pa_cons (pv 5) pa_nil))) (pe_slice sl_list (pv 1) (po_some (pe_op op_add (pv 3) pe_int)) po_none))))))),
      (sSeq (sAsg (sCall (sCons sVar (sCons (sCB rcLen (sCons sVar sNil)) sNil))) sName)
      (sSeq (sAsg (sCall (sCons sVar (sCons sVar sNil))) sName)
      (sSeq (sAsg (sCB rcTuple (sCons (sLc (siR1 sVar) (gwName List.mem_cons_self) (fun _ _ _ => sName) (fun _ _ _ => (sTest (sOp roNe (sOp (roIn (neg := false)) sVar (sOp roIxL sVar sVar)) (sOp roEq sVar sVar)))) (fun _ _ _ => sVar)) sNil)) sName)
      (sRet (sOp roCatL (sOp roCatL (sSlL sVar sNoPart (sPart sVar)) (sLst (sCons sVar sNil))) (sSlL sVar (sPart (sOp roInt0 sVar sInt)) sNoPart))))))⟩) (fun ds μ Φ Ψ h => ?hv)
  case hv =>
    obtain ⟨st, ns, c, n, k, rows, rfl, hst, hc, hs, hr, h⟩ := h
    have hn8 := hr.1
    have h256 := hr.2.1
    have hrl := hr.2.2.1
    have hra := hr.2.2.2
    have kp : 0 < k ^ n := Nat.pow_pos hs.k1
    walk_at "wps"
    have lgr : (rows.length : Int).natAbs.log2 < 9000 := by rw [Int.natAbs_natCast]; have := Nat.log2_le_self rows.length; omega
    have lgn : (n : Int).natAbs.log2 < 9000 := by rw [Int.natAbs_natCast]; have := Nat.log2_le_self n; omega
    have n1 := hs.n1
    refine ⟨st, ns, c, rows.length, rfl, hst, hc, by omega, lgr, fun r c1 r0 r1 sc => ?_⟩
    refine ⟨st, ns, c1, n, rfl, sset_same, sc, by omega, lgn, fun u c2 u0 u1 sc2 => ⟨by omega, by omega, ?_⟩⟩
    rw [sset_sset, rngD_opts]
    obtain ⟨q, rfl⟩ : ∃ q : Nat, r = (q : Int) := ⟨r.toNat, by omega⟩
    have qr : q < rows.length := by omega
    refine lcZf (fun z => !decide (rows[q].contains z = decide (z = u))) .int (by rw [optsI_len]; omega) (fun z μ2 X Y hz hsub hx hy => ?_) ?_
    · walk_at "wps"
      refine ⟨Am.iT rows[q], atI_nat (by rw [List.getElem?_map, List.getElem?_eq_getElem qr]; rfl), ?_⟩
      unfold Am.iT
      refine in_I ?_
      walk_at "wps"
      exact ⟨hx, hy⟩
    · refine ⟨_, .lst _, _, rfl, by decide, ?_⟩
      walk_at "wps"
      have hq : (List.filter (fun z => !decide (rows[q].contains z = decide (z = u))) (optsI n)) ∈ [List.filter (fun z => !decide (rows[q].contains z = decide (z = u))) (optsI n)] := List.mem_singleton.mpr rfl
      have asc : Asc n 0 (List.filter (fun z => !decide (rows[q].contains z = decide (z = u))) (optsI n)) := by
        rw [opts_seg]
        exact asc_filter n 0 n _ (by omega)
      generalize List.filter (fun z => !decide (rows[q].contains z = decide (z = u))) (optsI n) = l at asc
      clear hq
      have e : List.take q (List.map Am.iT rows) ++ [D.tup (List.map D.int l)] ++ List.drop (q + 1) (List.map Am.iT rows) = (rows.take q ++ [l] ++ rows.drop (q + 1)).map Am.iT := by
        rw [List.map_append, List.map_append, List.map_take, List.map_drop]; rfl
      have ll : (rows.take q ++ [l] ++ rows.drop (q + 1)).length = rows.length := by
        rw [List.length_append, List.length_append, List.length_take, List.length_drop, List.length_singleton]; omega
      refine ⟨by rw [List.length_take, List.length_map]; omega, ?_, ret_same ?_⟩
      · rw [← List.length_append, e, List.length_map, ll]; omega
      · rw [e]
        refine h _ c2 ⟨hn8, h256, by rw [ll]; exact hrl, fun x hx => ?_⟩ sc2
        rcases List.mem_append.mp hx with z | z
        · rcases List.mem_append.mp z with z | z
          · exact hra x (List.mem_of_mem_take z)
          · rw [List.mem_singleton.mp z]; exact asc
        · exact hra x (List.mem_of_mem_drop z)
section
variable {P : Program} {w : World} {K : Fg} {mg : Str → Option Value} {base : Heap}
theorem okN__law_aim (T : Txt P w K mg) : ∀ n, FnOk P w K mg base (L2N.CX P w) (4 + n) T.f__law_aim T.d__law_aim ["_law_state", "_law_n", "_law_k", "_law_levels"] (spOf K (c__law_aim n))
  | 0 => fn_never fun ds μ Φ Ψ ⟨_, _, _, _, _, L, _, h1, h2, _⟩ => by omega
  | n + 1 => step__law_aim T (k := 4 + n) (by omega) n (okN__law_aim T n)
theorem ok__law_aim (T : Txt P w K mg) : FnOk P w K mg base (L2N.CX P w) 20 T.f__law_aim T.d__law_aim ["_law_state", "_law_n", "_law_k", "_law_levels"] (spOf K (c__law_aim 4)) := (okN__law_aim T 4).mono (by decide)
end
def c__law_any_aim : Con := fun ds μ Φ _ => ∃ (st : Addr) (ns : List Int) (c : List D) (n k : Nat), ds = [.hd (.ref st), .lst ((ctxs n k).map Am.iT), .int n, .int k] ∧ μ st = some (.lst c) ∧ StC ns c ∧ SzOk n k ∧ SmallOk n k ∧ ∀ a c', AmIn n k a → a.dep ≤ 4 → StC ns c' → Φ a.d (sset μ st (.lst c'))
theorem len__law_any_aim {ds μ Φ Ψ} (h : c__law_any_aim ds μ Φ Ψ) : ds.length = 4 := by obtain ⟨_, _, _, _, _, rfl, _⟩ := h; rfl
theorem ok__law_any_aim (T : Txt P w K mg) : FnOk P w K mg base (L2N.CX P w) 21 T.f__law_any_aim T.d__law_any_aim ["_law_state", "_law_contexts_here", "_law_n", "_law_k"] (spOf K c__law_any_aim) := by
  refine def_okC T.F__law_any_aim sc__law_any_aim _ (fun ds μ Φ Ψ h => len__law_any_aim h) (fun cdv A outer s H E B hW hr =>
    have tk : L2N.Takes (cxOf (L2N.CX P w) P w K mg base N__law_any_aim "_law_any_aim" (defScope s__law_any_aim) T.f__law_any_aim cdv A outer s H E) (fun cls d _ H => E cls d H) := L2N.takes_of rfl rfl rfl rfl
    ⟨_, (pss_cons (ps_set (i := 4) sc__law_any_aim.nd rfl (Or.inl rfl) (pe_call (ok__law_pick T) (hr.mono (by decide)) rfl T.g__law_pick T.F__law_pick.kp T.b__law_pick .nil passN (pa_cons (pv 0) (pa_cons pe_int pa_nil))))
      (pss_cons (ps_if (pt_cmpR op_eq (pv 4) pe_int (nomark _)) (pss_one (ps_ret (pe_call (ok__law_aim T) hr rfl T.g__law_aim T.F__law_aim.kp T.b__law_aim .nil passN (pa_cons (pv 0) (pa_cons (pv 2) (pa_cons (pv 3) (pa_cons (pe_op op_add pe_int (pe_op op_mulX (pe_call (ok__law_pick T) (hr.mono (by decide)) rfl T.g__law_pick T.F__law_pick.kp T.b__law_pick .nil passN (pa_cons (pv 0) (pa_cons pe_int pa_nil))) (pe_callTy call_int1 (by rfl) T.z_int (by decide +kernel) (pa_cons (pe_cmpR op_le (pe_callB call_len_seq (by rfl) T.z_len PySem.boot_len (pa_cons (pv 1) pa_nil)) pe_int (nomark _)) pa_nil)))) pa_nil))))))) pss_nil)
      (pss_cons (ps_setLc (i := 5) (own := [("_law_context_here", 6)]) rfl sc__law_any_aim.nd rfl rfl (sw_true rfl rfl rfl (by decide +kernel)) (pi_list (pv 1)) (blkOk_by (N := N__law_any_aim) (sc := defScope s__law_any_aim) (by decide +kernel)) (fun _ _ _ _ _ => (pg_name (i := 6) sc__law_any_aim.nd rfl (Or.inl rfl))) (fun _ _ _ _ _ => pts_nil) (fun _ _ _ _ _ => (pe_call (ok__law_some T) (hr.mono (by decide)) rfl T.g__law_some T.F__law_some.kp T.b__law_some .nil passN (pa_cons (pv 0) (pa_cons (pv 2) pa_nil)))))
      (pss_cons (ps_if (pt_cmpR op_gt (pv 4) pe_int (nomark _)) (pss_one (ps_set (i := 5) sc__law_any_aim.nd rfl (Or.inl rfl) (pe_call (ok__law_fair_rows T) (hr.mono (by decide)) rfl T.g__law_fair_rows T.F__law_fair_rows.kp T.b__law_fair_rows .nil passN (pa_cons (pv 0) (pa_cons (pv 1) (pa_cons (pv 3) pa_nil)))))) pss_nil)
      (pss_cons (ps_if (pt_cmpR op_eq (pv 4) pe_int (nomark _)) (pss_one (ps_set (i := 5) sc__law_any_aim.nd rfl (Or.inl rfl) (pe_call (ok__law_toggled T) (hr.mono (by decide)) rfl T.g__law_toggled T.F__law_toggled.kp T.b__law_toggled .nil passN (pa_cons (pv 0) (pa_cons (pv 5) (pa_cons (pv 2) pa_nil)))))) pss_nil)
      (pss_one (ps_ret (pe_tupN (pa_cons pe_str (pa_cons (pe_callTy call_tupleN (by rfl) T.z_tuple (by decide +kernel) (pa_cons (pv 5) pa_nil)) pa_nil)))))))))),
      (sSeq (sAsg (sCall (sCons sVar (sCons sInt sNil))) sName)
      (sSeq (sIfS (sTest (sOp roEq sVar sInt)) (sRet (sCall (sCons sVar (sCons sVar (sCons sVar (sCons (sOp roInt0 sInt (sOp roInt (sCall (sCons sVar (sCons sInt sNil))) (sCB rcInt (sCons (sOp roBl0 (sCB rcLen (sCons sVar sNil)) sInt) sNil)))) sNil)))))) sNext)
      (sSeq (sAsg (sLc (siL sVar) (gwName List.mem_cons_self) (fun _ _ _ => sName) (fun _ _ _ => sYes) (fun _ _ _ => (sCall (sCons sVar (sCons sVar sNil))))) sName)
      (sSeq (sIfS (sTest (sOp roBl0 sVar sInt)) (sAsg (sCall (sCons sVar (sCons sVar (sCons sVar sNil)))) sName) sNext)
      (sSeq (sIfS (sTest (sOp roEq sVar sInt)) (sAsg (sCall (sCons sVar (sCons sVar (sCons sVar sNil)))) sName) sNext)
      (sRet (sTup (sCons sStr (sCons (sCB rcTuple (sCons sVar sNil)) sNil)))))))))⟩) (fun ds μ Φ Ψ h => ?hv)
  case hv =>
    obtain ⟨st, ns, c, n, k, rfl, hst, hc, hs, hsm, h⟩ := h
    have few := ctxs_few hs.k1 hsm
    refine seq_cut fun M hM => ?_
    walk_at "wp"
    refine ⟨st, ns, c, 4, rfl, hst, hc, by decide, by decide, fun r c1 r0 r1 sc => ?_⟩
    rw [hM]; clear hM M
    refine seq_cut fun M hM => ?_
    walk_at "wp"
    refine ⟨fun _ => ⟨st, ns, c1, 3, rfl, sset_same, sc, by decide, by decide, fun u c2 u0 u1 sc2 => ?_⟩, fun hr => ?_⟩
    · rw [sset_sset]
      refine w_intBl ?_
      walk_at "wp"
      obtain ⟨L, hL, L1, L3⟩ : ∃ L : Nat, 1 + u * (if ((ctxs n k).length : Int) ≤ 81 then 1 else 0) = (L : Int) ∧ 1 ≤ L ∧ L ≤ 3 := by
        split
        · exact ⟨(1 + u).toNat, by omega, by omega, by omega⟩
        · exact ⟨1, by omega, by omega, by omega⟩
      refine ⟨mulx 10 10 (by omega) (by split <;> decide) (by decide), ?_⟩
      rw [hL]
      refine ⟨st, ns, c2, n, k, L, rfl, by omega, by omega, sset_same, sc2, hs, hsm, fun a c' ha hd sc' => ?_⟩
      rw [sset_sset]
      exact ret_same (h a c' ⟨hs, ha, by omega⟩ (by omega) sc')
    · rw [hM]; clear hM M
      refine seq_cut fun M hM => ?_
      walk_at "wp"
      refine lcG_drawN (StC ns) (fun i acc => ∃ rows : List (List Int), acc = rows.map Am.iT ∧ rows.length = i ∧ ∀ l ∈ rows, Asc n 0 l) (by rw [List.length_map]; omega) sset_same sc ⟨[], rfl, rfl, by simp⟩ (fun i d μ2 X acc c3 hi hs2 sc3 ⟨rows, e4, rl, ra⟩ hla hx => ?_) (fun acc c3 ⟨rows, e4, rl, ra⟩ hla sc3 => ?_)
      · have n64 := hs.n64
        walk_at "wps"
        refine ⟨st, ns, c3, n, rfl, hs2, sc3, by omega, fun l c4 as sc4 => hx _ c4 sc4 ⟨rows ++ [l], by rw [e4, List.map_append]; rfl, by rw [List.length_append, rl]; rfl, fun l' hl' => ?_⟩⟩
        rcases List.mem_append.mp hl' with q | q
        · exact ra l' q
        · rw [List.mem_singleton.mp q]; exact as
      · subst e4
        rw [List.length_map, ctxs_len hs.k1] at rl
        have hok : AmOk n k (.table rows) := ⟨hsm.1, hsm.2, rl, ra⟩
        rw [sset_sset, hM]; clear hM M
        refine seq_cut fun M hM => ?_
        have next : ∀ (rows : List (List Int)) (c3 : List D), AmOk n k (.table rows) → StC ns c3 → M [some (.hd (.ref st)), some (.lst ((ctxs n k).map Am.iT)), some (.int n), some (.int k), some (.int r), some (.lst (rows.map Am.iT)), none] (sset μ st (.lst c3)) := fun rows c3 ok sc3 => by
          rw [hM]
          refine seq_cut fun M hM => ?_
          have last : ∀ (rows : List (List Int)) (c3 : List D), AmOk n k (.table rows) → StC ns c3 → M [some (.hd (.ref st)), some (.lst ((ctxs n k).map Am.iT)), some (.int n), some (.int k), some (.int r), some (.lst (rows.map Am.iT)), none] (sset μ st (.lst c3)) := fun rows c3 ok sc3 => by
            rw [hM]
            walk_at "wp"
            exact ⟨by decide, ret_same (h (.table rows) c3 ⟨hs, ok, by show 1 ≤ 6; decide⟩ (by show 1 ≤ 4; decide) sc3)⟩
          walk_at "wp"
          refine ⟨fun _ => ⟨st, ns, c3, n, k, rows, rfl, sset_same, sc3, hs, ok, fun rows' c' h1 h2 => ?_⟩, fun _ => last rows c3 ok sc3⟩
          rw [sset_sset]
          exact last rows' c' h1 h2
        walk_at "wp"
        refine ⟨fun _ => ⟨st, ns, c3, n, k, rfl, sset_same, sc3, hs, hsm, fun rows' c' h1 h2 => ?_⟩, fun _ => next rows c3 hok sc3⟩
        rw [sset_sset]
        exact next rows' c' h1 h2
end
section
variable {P : Program} {w : World} {K : Fg} {mg : Str → Option Value} {base : Heap}
def rowsD (rows : List (List Int)) : D := .tup (rows.map Am.iT)
def aimD (n k : Nat) (rows : List (List Int)) : D := .tup [.str "aim", .tup [.str "table", rowsD rows], .int n, .int k, rowsD rows]
def doD (n k : Nat) (a : Am) : Nat → D
  | 0 => .tup [.str "told", .bl (fairB k n a)]
  | 1 => aimD n k (tabF n k (hullF k a))
  | _ => aimD n k (tabF n k (coreF k a))
theorem tabF_tab {n k : Nat} {f : List Int → List Int} (hs : SzOk n k) (hf : ∀ c, CtxOk n k c → Asc n 0 (f c)) : tabRows k n (.table (tabF n k f)) = tabF n k f :=
  List.map_congr_left fun c hc => tabF_good hs hf hc
def c__law_do (C : Addr) : Con := fun ds μ Φ _ => ∃ (d n k : Nat) (a : Am), ds = [.int d, aimO C a n k] ∧ d < 3 ∧ AmIn n k a ∧ (SmallOk n k → Φ (doD n k a d) μ) ∧ (¬ SmallOk n k → Φ (.tup [.str "refused", .bl true]) μ)
theorem len__law_do {C ds μ Φ Ψ} (h : c__law_do C ds μ Φ Ψ) : ds.length = 2 := by obtain ⟨_, _, _, _, rfl, _⟩ := h; rfl
theorem ok__law_do (T : Txt P w K mg) : FnOk P w K mg base (L2N.CX P w) 27 T.f__law_do T.d__law_do ["_law_door", "_law_aim_here"] (spOf K (c__law_do T.c_Aim)) := by
  refine def_okC T.F__law_do sc__law_do _ (fun ds μ Φ Ψ h => len__law_do h) (fun cdv A outer s H E B hW hr =>
    have tk : L2N.Takes (cxOf (L2N.CX P w) P w K mg base N__law_do "_law_do" (defScope s__law_do) T.f__law_do cdv A outer s H E) (fun cls d _ H => E cls d H) := L2N.takes_of rfl rfl rfl rfl
    ⟨_, (pss_one (L2N.ps_try_as (i := 2) rfl rfl sc__law_do.nd rfl rfl ⟨rfl, by decide, .inl T.g_ChoosersError⟩ tk (fun W pn xe tk pown => (pss_cons (ps_if (pt_cmpR op_eq (pv 0) pe_int (nomark _)) (pss_one (ps_ret (pe_tupN (pa_cons pe_str (pa_cons (pe_callS (ok_is_fair T) hr rfl T.g_is_fair T.F_is_fair.kp T.b_is_fair (fun σ => L2N.passAt tk σ) (pa_cons (pv 1) pa_nil)) pa_nil))))) pss_nil)
      (pss_cons (ps_if (pt_cmpR op_eq (pv 0) pe_int (nomark _)) (pss_one (ps_set (i := 3) sc__law_do.nd rfl (Or.inl rfl) (pe_callS (ok_fair_hull T) (hr.mono (by decide)) rfl T.g_fair_hull T.F_fair_hull.kp T.b_fair_hull (fun σ => L2N.passAt tk σ) (pa_cons (pv 1) pa_nil)))) (pss_one (ps_set (i := 3) sc__law_do.nd rfl (Or.inl rfl) (pe_callS (ok_fair_core T) (hr.mono (by decide)) rfl T.g_fair_core T.F_fair_core.kp T.b_fair_core (fun σ => L2N.passAt tk σ) (pa_cons (pv 1) pa_nil)))))
      (pss_one (ps_ret (pe_tupN (pa_cons pe_str (pa_cons (pe_fld (pv 3) rfl) (pa_cons (pe_fld (pv 3) rfl) (pa_cons (pe_fld (pv 3) rfl) (pa_cons (pe_callS (ok_aim_table T) (hr.mono (by decide)) rfl T.g_aim_table T.F_aim_table.kp T.b_aim_table (fun σ => L2N.passAt tk σ) (pa_cons (pv 3) pa_nil)) pa_nil)))))))))))
      (fun a oe cls d pn hz hf => (pss_cons (ps_set (i := 4) sc__law_do.nd rfl (Or.inl rfl) (pe_lst (pa_cons (pe_callB (call_isH hz hf) (by rfl) T.z_isinstance (by decide +kernel) (pa_cons (pv 2) (pa_cons (pe_glob (v := .ref T.c_SizeMismatch) rfl T.g_SizeMismatch rfl) pa_nil))) (pa_cons (pe_callB (call_isH hz hf) (by rfl) T.z_isinstance (by decide +kernel) (pa_cons (pv 2) (pa_cons (pe_glob (v := .ref T.c_OutOfRange) rfl T.g_OutOfRange rfl) pa_nil))) (pa_cons (pe_callB (call_isH hz hf) (by rfl) T.z_isinstance (by decide +kernel) (pa_cons (pv 2) (pa_cons (pe_glob (v := .ref T.c_InvalidTerm) rfl T.g_InvalidTerm rfl) pa_nil))) pa_nil)))))
      (pss_one (ps_ret (pe_tupN (pa_cons pe_str (pa_cons (pe_and (pe_callB (call_isH hz hf) (by rfl) T.z_isinstance (by decide +kernel) (pa_cons (pv 2) (pa_cons (pe_glob (v := .ref T.c_TooLarge) rfl T.g_TooLarge rfl) pa_nil))) (pe_and (pe_callB (call_isH hz hf) (by rfl) T.z_isinstance (by decide +kernel) (pa_cons (pv 2) (pa_cons (pe_bltn (v := .ty "ValueError") rfl T.z_ValueError (by decide +kernel) rfl) pa_nil))) (pe_one (pe_not (pe_callB (cr_anyH hz.2.2 hf) (by rfl) T.z_any (by decide +kernel) (pa_cons (pv 4) pa_nil)))))) pa_nil))))))))),
      (sTryAs (c := .ref T.c_ChoosersError) (i := 2) hW (fun W B hW => (sSeq (sIfS (sTest (sOp roEq sVar sInt)) (sRet (sTup (sCons sStr (sCons (sCallSW (W := W) (by exact hW) (sCons sVar sNil)) sNil)))) sNext)
      (sSeq (sIfS (sTest (sOp roEq sVar sInt)) (sAsg (sCallSW (W := W) (by exact hW) (sCons sVar sNil)) sName) (sAsg (sCallSW (W := W) (by exact hW) (sCons sVar sNil)) sName))
      (sRet (sTup (sCons sStr (sCons (sFldO (NS := NSA) (i := 0) T.cls_Aim T.na_Aim_term rfl (by decide) sVar) (sCons (sFldO (NS := NSA) (i := 1) T.cls_Aim T.na_Aim_options rfl (by decide) sVar) (sCons (sFldO (NS := NSA) (i := 2) T.cls_Aim T.na_Aim_outcomes rfl (by decide) sVar) (sCons (sCallSW (W := W) (by exact hW) (sCons sVar sNil)) sNil))))))))))
      (fun a cls dd x B hW rx => (sSeq (sAsg (sLst (sCons (sIsE rx (sCons sVar (sCons sHd sNil))) (sCons (sIsE rx (sCons sVar (sCons sHd sNil))) (sCons (sIsE rx (sCons sVar (sCons sHd sNil))) sNil)))) sName)
      (sRet (sTup (sCons sStr (sCons (sAndV (sIsE rx (sCons sVar (sCons sHd sNil))) (sAndV (sIsE rx (sCons sVar (sCons sHd sNil))) (sNotV (sCB rcAny (sCons sVar sNil))))) sNil)))))))⟩) (fun ds μ Φ Ψ h => ?hv)
  case hv =>
    obtain ⟨d, n, k, a, rfl, hd, ha, h1, h2⟩ := h
    have hs := ha.sz
    walk_at "wps"
    rcases (show d = 0 ∨ d = 1 ∨ d = 2 by omega) with rfl | rfl | rfl
    all_goals simp (config := { decide := true }) only [false_implies, true_implies, and_true, true_and, not_true_eq_false, not_false_eq_true]
    · refine ⟨n, k, a, rfl, ha, fun q => ret_same (h1 q), fun q => ⟨true, T.m_TooLarge_ChoosersError, fun _ p hp => ⟨false, T.i_TooLarge_SizeMismatch, T.ec_TooLarge, false, T.i_TooLarge_OutOfRange, T.ec_TooLarge, false, T.i_TooLarge_InvalidTerm, T.ec_TooLarge, true, T.i_TooLarge_TooLarge, T.ec_TooLarge, fun _ => ⟨true, T.i_TooLarge_ValueError, T.ec_TooLarge, fun _ => ?_, nofun⟩, nofun⟩, nofun⟩⟩
      show cAny [.lst (([false, false, false] : List Bool).map .bl)] _ _
      rw [w_any]
      exact ⟨_, rfl, ret_same (h2 q)⟩
    · refine ⟨n, k, a, rfl, ha, fun q => ?_, fun q => ⟨true, T.m_TooLarge_ChoosersError, fun _ p hp => ⟨false, T.i_TooLarge_SizeMismatch, T.ec_TooLarge, false, T.i_TooLarge_OutOfRange, T.ec_TooLarge, false, T.i_TooLarge_InvalidTerm, T.ec_TooLarge, true, T.i_TooLarge_TooLarge, T.ec_TooLarge, fun _ => ⟨true, T.i_TooLarge_ValueError, T.ec_TooLarge, fun _ => ?_, nofun⟩, nofun⟩, nofun⟩⟩
      · have e := tabF_tab (n := n) (k := k) (f := hullF k a) hs fun c hc => asc_hullL hc
        unfold aimO
        refine ⟨_, _, rfl, rfl, _, _, rfl, rfl, _, _, rfl, rfl, n, k, .table (tabF n k (hullF k a)), rfl, ⟨hs, tabF_ok hs q fun c hc => asc_hullL hc, by show 1 ≤ 6; decide⟩, fun _ => ret_same ?_, fun z => absurd q z⟩
        unfold tabD
        rw [e]
        exact h1 q
      show cAny [.lst (([false, false, false] : List Bool).map .bl)] _ _
      rw [w_any]
      exact ⟨_, rfl, ret_same (h2 q)⟩
    · refine ⟨n, k, a, rfl, ha, fun q => ?_, fun q => ⟨true, T.m_TooLarge_ChoosersError, fun _ p hp => ⟨false, T.i_TooLarge_SizeMismatch, T.ec_TooLarge, false, T.i_TooLarge_OutOfRange, T.ec_TooLarge, false, T.i_TooLarge_InvalidTerm, T.ec_TooLarge, true, T.i_TooLarge_TooLarge, T.ec_TooLarge, fun _ => ⟨true, T.i_TooLarge_ValueError, T.ec_TooLarge, fun _ => ?_, nofun⟩, nofun⟩, nofun⟩⟩
      · have e := tabF_tab (n := n) (k := k) (f := coreF k a) hs fun c hc => asc_coreL hc
        unfold aimO
        refine ⟨_, _, rfl, rfl, _, _, rfl, rfl, _, _, rfl, rfl, n, k, .table (tabF n k (coreF k a)), rfl, ⟨hs, tabF_ok hs q fun c hc => asc_coreL hc, by show 1 ≤ 6; decide⟩, fun _ => ret_same ?_, fun z => absurd q z⟩
        unfold tabD
        rw [e]
        exact h1 q
      show cAny [.lst (([false, false, false] : List Bool).map .bl)] _ _
      rw [w_any]
      exact ⟨_, rfl, ret_same (h2 q)⟩
end
section
variable {P : Program} {w : World} {K : Fg} {mg : Str → Option Value} {base : Heap}
section
variable {P : Program} {w : World} {K : Fg} {mg : Str → Option Value} {base : Heap}
theorem okN__law_same (T : Txt P w K mg) : ∀ n, FnOk P w K mg base (L2N.CX P w) n T.f__law_same T.d__law_same ["_law_actual", "_law_due"] (spOf K (c__law_same n))
  | 0 => fn_never fun ds μ Φ Ψ h => h
  | n + 1 => step__law_same T (Nat.zero_le _) n (okN__law_same T n)
theorem ok__law_same (T : Txt P w K mg) : FnOk P w K mg base (L2N.CX P w) 30 T.f__law_same T.d__law_same ["_law_actual", "_law_due"] (spOf K (c__law_same 30)) := okN__law_same T 30
end
mutual
theorem same_refl : ∀ d : D, plainD d = true → sameD d d = true
  | .non, _ => rfl
  | .bl b, _ => by simp [sameD]
  | .int b, _ => by simp [sameD]
  | .str b, _ => by simp [sameD]
  | .tup ds, h => by
    simp only [plainD, Bool.and_eq_true] at h
    simp only [sameD]
    exact sames_refl ds h.1
  | .lst _, h => by simp [plainD] at h
  | .pr _, h => by simp [plainD] at h
  | .obj _ _ _, h => by simp [plainD] at h
  | .hd _, h => by simp [plainD] at h
  | .scr _, h => by simp [plainD] at h
theorem sames_refl : ∀ ds : List D, plainDs ds = true → sameDs ds ds = true
  | [], _ => rfl
  | d :: ds, h => by simp only [plainDs, Bool.and_eq_true] at h; simp only [sameDs, same_refl d h.1, sames_refl ds h.2, Bool.and_self]
end
theorem plainDs_all : ∀ {ds : List D}, (∀ d ∈ ds, plainD d = true) → plainDs ds = true
  | [], _ => rfl
  | d :: ds, h => by
    simp only [plainDs, Bool.and_eq_true]
    exact ⟨h d List.mem_cons_self, plainDs_all fun x hx => h x (List.mem_cons_of_mem _ hx)⟩
theorem depDs_all {m : Nat} : ∀ {ds : List D}, (∀ d ∈ ds, depD d ≤ m) → depDs ds ≤ m
  | [], _ => Nat.zero_le _
  | d :: ds, h => by
    simp only [depDs]
    have h1 := h d List.mem_cons_self
    have h2 := depDs_all fun x hx => h x (List.mem_cons_of_mem _ hx)
    omega
theorem plain_tup {ds : List D} (h : ∀ d ∈ ds, plainD d = true) (hl : ds.length ≤ 100000) : plainD (.tup ds) = true := by
  simp only [plainD, Bool.and_eq_true]
  exact ⟨plainDs_all h, decide_eq_true hl⟩
theorem dep_tup {m : Nat} {ds : List D} (h : ∀ d ∈ ds, depD d ≤ m) : depD (.tup ds) ≤ m + 1 := by
  simp only [depD]
  have := depDs_all h
  omega
theorem plain_I {l : List Int} (h : l.length ≤ 100000) : plainD (.tup (l.map .int)) = true :=
  plain_tup (fun d hd => by obtain ⟨z, _, rfl⟩ := List.mem_map.mp hd; rfl) (by rw [List.length_map]; exact h)
theorem dep_I {l : List Int} : depD (.tup (l.map .int)) ≤ 2 :=
  dep_tup fun d hd => by obtain ⟨z, _, rfl⟩ := List.mem_map.mp hd; exact Nat.le_refl _
theorem asc_len {hi : Int} : ∀ {lo : Int} {l : List Int}, Asc hi lo l → (l.length : Int) ≤ max 0 (hi - lo)
  | _, [], _ => by simp; omega
  | lo, x :: r, ⟨h1, h2, h3⟩ => by
    have := asc_len h3
    rw [List.length_cons]
    omega
theorem plain_2 {a b : D} (ha : plainD a = true) (hb : plainD b = true) : plainD (.tup [a, b]) = true := plain_tup (fun d hd => by
  rcases List.mem_cons.mp hd with e | e
  · rw [e]; exact ha
  · rw [List.mem_singleton.mp e]; exact hb) (by show 2 ≤ 100000; decide)
theorem plain_3 {a b c : D} (ha : plainD a = true) (hb : plainD b = true) (hc : plainD c = true) : plainD (.tup [a, b, c]) = true := plain_tup (fun d hd => by
  rcases List.mem_cons.mp hd with e | e
  · rw [e]; exact ha
  rcases List.mem_cons.mp e with e | e
  · rw [e]; exact hb
  · rw [List.mem_singleton.mp e]; exact hc) (by show 3 ≤ 100000; decide)
theorem dep_2 {a b : D} {m : Nat} (ha : depD a ≤ m) (hb : depD b ≤ m) : depD (.tup [a, b]) ≤ m + 1 := dep_tup (fun d hd => by
  rcases List.mem_cons.mp hd with e | e
  · rw [e]; exact ha
  · rw [List.mem_singleton.mp e]; exact hb)
theorem dep_3 {a b c : D} {m : Nat} (ha : depD a ≤ m) (hb : depD b ≤ m) (hc : depD c ≤ m) : depD (.tup [a, b, c]) ≤ m + 1 := dep_tup (fun d hd => by
  rcases List.mem_cons.mp hd with e | e
  · rw [e]; exact ha
  rcases List.mem_cons.mp e with e | e
  · rw [e]; exact hb
  · rw [List.mem_singleton.mp e]; exact hc)
theorem plain_rows {rows : List (List Int)} (h : rows.length ≤ 100000) (h2 : ∀ r ∈ rows, r.length ≤ 100000) : plainD (.tup (rows.map Am.iT)) = true :=
  plain_tup (fun d hd => by obtain ⟨r, hr, rfl⟩ := List.mem_map.mp hd; exact plain_I (h2 r hr)) (by rw [List.length_map]; exact h)
theorem dep_rows {rows : List (List Int)} : depD (.tup (rows.map Am.iT)) ≤ 3 := dep_tup fun d hd => by obtain ⟨r, hr, rfl⟩ := List.mem_map.mp hd; exact dep_I
def c__law_asked (C : Addr) : Con := fun ds μ Φ _ => ∃ (n k : Nat) (a : Am) (H R : List (List Int)) (b : Bool), ds = [aimO C a n k, .tup [.int n, .int k], rowsD H, rowsD R, .bl b] ∧ AmIn n k a ∧ SmallOk n k ∧ H = tabF n k (hullF k a) ∧ R = tabF n k (coreF k a) ∧ b = fairB k n a ∧ Φ (.bl true) μ
theorem len__law_asked {C ds μ Φ Ψ} (h : c__law_asked C ds μ Φ Ψ) : ds.length = 5 := by obtain ⟨_, _, _, _, _, _, rfl, _⟩ := h; rfl
theorem plain_tabF {n k : Nat} {f : List Int → List Int} (hs : SzOk n k) (h : SmallOk n k) (hf : ∀ c, CtxOk n k c → Asc n 0 (f c)) : plainD (rowsD (tabF n k f)) = true := by
  have few := ctxs_few hs.k1 h
  refine plain_rows (by rw [tabF_len]; omega) fun r hr => ?_
  obtain ⟨c, hc, rfl⟩ := List.mem_map.mp hr
  have hok := ctxs_ok hs.n1 hs.n64 hs.k1 hs.k4 hc
  have := asc_len (hf c hok)
  have := hs.n64
  omega
theorem plain_aim {n k : Nat} {rows : List (List Int)} (h : plainD (rowsD rows) = true) : plainD (aimD n k rows) = true := by
  refine plain_tup (fun d hd => ?_) (by show 5 ≤ 100000; decide)
  simp only [List.mem_cons, List.not_mem_nil, or_false] at hd
  rcases hd with e | e | e | e | e
  · rw [e]; rfl
  · rw [e]; exact plain_2 rfl h
  · rw [e]; rfl
  · rw [e]; rfl
  · rw [e]; exact h
theorem dep_aim {n k : Nat} {rows : List (List Int)} : depD (aimD n k rows) ≤ 5 := by
  refine dep_tup (m := 4) fun d hd => ?_
  simp only [List.mem_cons, List.not_mem_nil, or_false] at hd
  rcases hd with e | e | e | e | e
  · rw [e]; show 1 ≤ 4; decide
  · rw [e]; exact dep_2 (by show 1 ≤ 3; decide) dep_rows
  · rw [e]; show 1 ≤ 4; decide
  · rw [e]; show 1 ≤ 4; decide
  · rw [e]; exact Nat.le_trans dep_rows (by decide)
theorem ok__law_asked (T : Txt P w K mg) : FnOk P w K mg base (L2N.CX P w) 31 T.f__law_asked T.d__law_asked ["_law_aim_here", "_law_size", "_law_hull_here", "_law_core_here", "_law_fair"] (spOf K (c__law_asked T.c_Aim)) := by
  refine def_okC T.F__law_asked sc__law_asked _ (fun ds μ Φ Ψ h => len__law_asked h) (fun cdv A outer s H E B hW hr =>
    have tk : L2N.Takes (cxOf (L2N.CX P w) P w K mg base N__law_asked "_law_asked" (defScope s__law_asked) T.f__law_asked cdv A outer s H E) (fun cls d _ H => E cls d H) := L2N.takes_of rfl rfl rfl rfl
    ⟨_, (pss_cons (ps_if (pt_not (pt_val (pe_call (ok__law_same T) (hr.mono (by decide)) rfl T.g__law_same T.F__law_same.kp T.b__law_same .nil passN (pa_cons (pe_call (ok__law_do T) (hr.mono (by decide)) rfl T.g__law_do T.F__law_do.kp T.b__law_do .nil passN (pa_cons pe_int (pa_cons (pv 0) pa_nil))) (pa_cons (pe_tupN (pa_cons pe_str (pa_cons (pe_tupN (pa_cons pe_str (pa_cons (pv 2) pa_nil))) (pa_cons (pe_ix ix_tup (pv 1) pe_int (fun _ _ => rfl)) (pa_cons (pe_ix ix_tup (pv 1) pe_int (fun _ _ => rfl)) (pa_cons (pv 2) pa_nil)))))) pa_nil))))) (pss_one (ps_ret pe_bl)) pss_nil)
      (pss_cons (ps_if (pt_not (pt_val (pe_call (ok__law_same T) (hr.mono (by decide)) rfl T.g__law_same T.F__law_same.kp T.b__law_same .nil passN (pa_cons (pe_call (ok__law_do T) (hr.mono (by decide)) rfl T.g__law_do T.F__law_do.kp T.b__law_do .nil passN (pa_cons pe_int (pa_cons (pv 0) pa_nil))) (pa_cons (pe_tupN (pa_cons pe_str (pa_cons (pe_tupN (pa_cons pe_str (pa_cons (pv 3) pa_nil))) (pa_cons (pe_ix ix_tup (pv 1) pe_int (fun _ _ => rfl)) (pa_cons (pe_ix ix_tup (pv 1) pe_int (fun _ _ => rfl)) (pa_cons (pv 3) pa_nil)))))) pa_nil))))) (pss_one (ps_ret pe_bl)) pss_nil)
      (pss_one (ps_ret (pe_call (ok__law_same T) (hr.mono (by decide)) rfl T.g__law_same T.F__law_same.kp T.b__law_same .nil passN (pa_cons (pe_call (ok__law_do T) (hr.mono (by decide)) rfl T.g__law_do T.F__law_do.kp T.b__law_do .nil passN (pa_cons pe_int (pa_cons (pv 0) pa_nil))) (pa_cons (pe_tupN (pa_cons pe_str (pa_cons (pv 4) pa_nil))) pa_nil))))))),
      (sSeq (sIfS (sNot (sB (sCall (sCons (sCall (sCons sInt (sCons sVar sNil))) (sCons (sTup (sCons sStr (sCons (sTup (sCons sStr (sCons sVar sNil))) (sCons (sOp roIxT sVar sInt) (sCons (sOp roIxT sVar sInt) (sCons sVar sNil)))))) sNil))))) (sRet sBl) sNext)
      (sSeq (sIfS (sNot (sB (sCall (sCons (sCall (sCons sInt (sCons sVar sNil))) (sCons (sTup (sCons sStr (sCons (sTup (sCons sStr (sCons sVar sNil))) (sCons (sOp roIxT sVar sInt) (sCons (sOp roIxT sVar sInt) (sCons sVar sNil)))))) sNil))))) (sRet sBl) sNext)
      (sRet (sCall (sCons (sCall (sCons sInt (sCons sVar sNil))) (sCons (sTup (sCons sStr (sCons sVar sNil))) sNil))))))⟩) (fun ds μ Φ Ψ h => ?hv)
  case hv =>
    obtain ⟨n, k, a, H, R, b, rfl, ha, hsm, rfl, rfl, rfl, h⟩ := h
    have hs := ha.sz
    walk_at "wps"
    have ph := plain_aim (n := n) (k := k) (plain_tabF (f := hullF k a) hs hsm fun c hc => asc_hullL hc)
    have pc := plain_aim (n := n) (k := k) (plain_tabF (f := coreF k a) hs hsm fun c hc => asc_coreL hc)
    have p0 : plainD (.tup [.str "told", .bl (fairB k n a)]) = true := plain_2 rfl rfl
    refine ⟨1, n, k, a, rfl, by decide, ha, fun _ => ⟨by decide, by decide, ?_⟩, fun z => absurd hsm z⟩
    show c__law_same 30 [aimD n k (tabF n k (hullF k a)), aimD n k (tabF n k (hullF k a))] _ _ _
    refine same_at ph ph (Nat.le_trans dep_aim (by decide)) ?_
    rw [same_refl _ ph]
    refine ⟨true, rfl, fun z => by simp at z, fun _ => ?_⟩
    refine ⟨2, n, k, a, rfl, by decide, ha, fun _ => ⟨by decide, by decide, ?_⟩, fun z => absurd hsm z⟩
    show c__law_same 30 [aimD n k (tabF n k (coreF k a)), aimD n k (tabF n k (coreF k a))] _ _ _
    refine same_at pc pc (Nat.le_trans dep_aim (by decide)) ?_
    rw [same_refl _ pc]
    refine ⟨true, rfl, fun z => by simp at z, fun _ => ?_⟩
    refine ⟨0, n, k, a, rfl, by decide, ha, fun _ => ⟨by decide, ?_⟩, fun z => absurd hsm z⟩
    show c__law_same 30 [.tup [.str "told", .bl (fairB k n a)], .tup [.str "told", .bl (fairB k n a)]] _ _ _
    refine same_at p0 p0 (Nat.le_trans (dep_2 (m := 1) (by show 1 ≤ 1; decide) (by show 1 ≤ 1; decide)) (by decide)) ?_
    rw [same_refl _ p0]
    exact ret_same h
def c__law_refused (C : Addr) : Con := fun ds μ Φ _ => ∃ (st : Addr) (ns : List Int) (c : List D), ds = [.hd (.ref st)] ∧ μ st = some (.lst c) ∧ StC ns c ∧ ∀ c', StC ns c' → Φ (.bl true) (sset μ st (.lst c'))
theorem len__law_refused {C ds μ Φ Ψ} (h : c__law_refused C ds μ Φ Ψ) : ds.length = 1 := by obtain ⟨_, _, _, rfl, _⟩ := h; rfl
theorem ok__law_refused (T : Txt P w K mg) : FnOk P w K mg base (L2N.CX P w) 31 T.f__law_refused T.d__law_refused ["_law_state"] (spOf K (c__law_refused T.c_Aim)) := by
  refine def_okC T.F__law_refused sc__law_refused _ (fun ds μ Φ Ψ h => len__law_refused h) (fun cdv A outer s H E B hW hr =>
    have tk : L2N.Takes (cxOf (L2N.CX P w) P w K mg base N__law_refused "_law_refused" (defScope s__law_refused) T.f__law_refused cdv A outer s H E) (fun cls d _ H => E cls d H) := L2N.takes_of rfl rfl rfl rfl
    ⟨_, (pss_cons (ps_set (i := 1) sc__law_refused.nd rfl (Or.inl rfl) (pe_ix ix_list (pe_lst (pa_cons (pe_tupN (pa_cons pe_int (pa_cons pe_int pa_nil))) (pa_cons (pe_tupN (pa_cons pe_int (pa_cons pe_int pa_nil))) (pa_cons (pe_tupN (pa_cons pe_int (pa_cons pe_int pa_nil))) (pa_cons (pe_tupN (pa_cons pe_int (pa_cons pe_int pa_nil))) (pa_cons (pe_tupN (pa_cons pe_int (pa_cons pe_int pa_nil))) (pa_cons (pe_tupN (pa_cons pe_int (pa_cons pe_int pa_nil))) (pa_cons (pe_tupN (pa_cons pe_int (pa_cons pe_int pa_nil))) (pa_cons (pe_tupN (pa_cons pe_int (pa_cons pe_int pa_nil))) pa_nil))))))))) (pe_call (ok__law_pick T) (hr.mono (by decide)) rfl T.g__law_pick T.F__law_pick.kp T.b__law_pick .nil passN (pa_cons (pv 0) (pa_cons pe_int pa_nil))) (fun _ _ => rfl)))
      (pss_cons (ps_for (passes_of rfl) rfl (pi_list (pe_lst (pa_cons (pe_makeS T.mk_Aim (ok_Aim___init__ T) (hr.mono (by decide)) rfl T.g_Aim T.b_Aim___init__ (fun σ => L2N.passAt tk σ) (pa_cons (pe_tupN (pa_cons pe_str pa_nil)) (pa_cons (pe_ix ix_tup (pv 1) pe_int (fun _ _ => rfl)) (pa_cons (pe_ix ix_tup (pv 1) pe_int (fun _ _ => rfl)) pa_nil)))) (pa_cons (pe_makeS T.mk_Aim (ok_Aim___init__ T) (hr.mono (by decide)) rfl T.g_Aim T.b_Aim___init__ (fun σ => L2N.passAt tk σ) (pa_cons (pe_tupN (pa_cons pe_str (pa_cons (pe_op op_sub (pe_ix ix_tup (pv 1) pe_int (fun _ _ => rfl)) pe_int) pa_nil))) (pa_cons (pe_ix ix_tup (pv 1) pe_int (fun _ _ => rfl)) (pa_cons (pe_ix ix_tup (pv 1) pe_int (fun _ _ => rfl)) pa_nil)))) pa_nil)))) (pg_name (i := 2) sc__law_refused.nd rfl (Or.inr rfl)) (pss_one (ps_if (pt_not (pt_val (pe_callB (cr_all rfl) (by rfl) T.z_all (by decide +kernel) (pa_cons (pe_lc (own := [("_law_door", 3)]) rfl sc__law_refused.nd (pi_range1 rfl T.z_range (pa_cons pe_int pa_nil)) (blkOk_by (N := N__law_refused) (sc := defScope s__law_refused) (by decide +kernel)) (fun _ _ _ _ _ => (pg_name (i := 3) sc__law_refused.nd rfl (Or.inl rfl))) (fun _ _ _ _ _ => pts_nil) (fun _ _ _ _ _ => (pe_call (ok__law_same T) (hr.mono (by decide)) rfl T.g__law_same T.F__law_same.kp T.b__law_same .nil passN (pa_cons (pe_call (ok__law_do T) (hr.mono (by decide)) rfl T.g__law_do T.F__law_do.kp T.b__law_do .nil passN (pa_cons (pv 3) (pa_cons (pv 2) pa_nil))) (pa_cons (pe_tupN (pa_cons pe_str (pa_cons pe_bl pa_nil))) pa_nil))))) pa_nil)))) (pss_one (ps_ret pe_bl)) pss_nil)))
      (pss_one (ps_ret pe_bl)))),
      (sSeq (sAsg (sOp roIxL (sLst (sCons (sTup (sCons sInt (sCons sInt sNil))) (sCons (sTup (sCons sInt (sCons sInt sNil))) (sCons (sTup (sCons sInt (sCons sInt sNil))) (sCons (sTup (sCons sInt (sCons sInt sNil))) (sCons (sTup (sCons sInt (sCons sInt sNil))) (sCons (sTup (sCons sInt (sCons sInt sNil))) (sCons (sTup (sCons sInt (sCons sInt sNil))) (sCons (sTup (sCons sInt (sCons sInt sNil))) sNil))))))))) (sCall (sCons sVar (sCons sInt sNil)))) sName)
      (sSeq (sFor (siL (sLst (sCons (sMakeSW (W := fun cls d _ H => E cls d H) (by exact hW) (sCons (sTup (sCons sStr sNil)) (sCons (sOp roIxT sVar sInt) (sCons (sOp roIxT sVar sInt) sNil)))) (sCons (sMakeSW (W := fun cls d _ H => E cls d H) (by exact hW) (sCons (sTup (sCons sStr (sCons (sOp roInt0 (sOp roIxT sVar sInt) sInt) sNil))) (sCons (sOp roIxT sVar sInt) (sCons (sOp roIxT sVar sInt) sNil)))) sNil)))) (fun _ _ _ => sName) (fun _ _ _ => (sIfS (sNot (sB (sCB rcAll (sCons (sLc (siR1 sInt) (gwName List.mem_cons_self) (fun _ _ _ => sName) (fun _ _ _ => sYes) (fun _ _ _ => (sCall (sCons (sCall (sCons sVar (sCons sVar sNil))) (sCons (sTup (sCons sStr (sCons sBl sNil))) sNil))))) sNil)))) (sRet sBl) sNext)))
      (sRet sBl)))⟩) (fun ds μ Φ Ψ h => ?hv)
  case hv =>
    obtain ⟨st, ns, c, rfl, hst, hc, h⟩ := h
    refine seq_cut fun M hM => ?_
    simp only [u_asg, u_op, u_lst, u_cons, u_nil, u_tup, u_c]
    have two : ∀ a b : D, [a, b].length ≤ 100000 := fun a b => (by decide : 2 ≤ 100000)
    refine ⟨two _ _, two _ _, two _ _, two _ _, two _ _, two _ _, two _ _, two _ _, (by decide : 8 ≤ 100000), ?_⟩
    walk_at "wp"
    refine ⟨st, ns, c, 8, rfl, hst, hc, by decide, by decide, fun r c1 r0 r1 sc => ?_⟩
    obtain ⟨q, rfl⟩ : ∃ q : Nat, r = (q : Int) := ⟨r.toNat, by omega⟩
    obtain ⟨wn, wk, ew, hws, hwl⟩ : ∃ wn wk : Nat, atI ([(9, 1), (9, 2), (6, 3), (5, 4), (64, 1), (64, 4), (8, 3), (10, 2)].map fun p : Int × Int => D.tup [.int p.1, .int p.2]) (q : Int) = some (.tup [.int wn, .int wk]) ∧ SzOk wn wk ∧ ¬ SmallOk wn wk := by
      rcases (show q = 0 ∨ q = 1 ∨ q = 2 ∨ q = 3 ∨ q = 4 ∨ q = 5 ∨ q = 6 ∨ q = 7 by omega) with rfl | rfl | rfl | rfl | rfl | rfl | rfl | rfl
      · exact ⟨9, 1, rfl, ⟨by decide, by decide, by decide, by decide⟩, by decide⟩
      · exact ⟨9, 2, rfl, ⟨by decide, by decide, by decide, by decide⟩, by decide⟩
      · exact ⟨6, 3, rfl, ⟨by decide, by decide, by decide, by decide⟩, by decide⟩
      · exact ⟨5, 4, rfl, ⟨by decide, by decide, by decide, by decide⟩, by decide⟩
      · exact ⟨64, 1, rfl, ⟨by decide, by decide, by decide, by decide⟩, by decide⟩
      · exact ⟨64, 4, rfl, ⟨by decide, by decide, by decide, by decide⟩, fun z => absurd z.1 (by decide)⟩
      · exact ⟨8, 3, rfl, ⟨by decide, by decide, by decide, by decide⟩, by decide⟩
      · exact ⟨10, 2, rfl, ⟨by decide, by decide, by decide, by decide⟩, by decide⟩
    walk_at "wp"
    refine ⟨_, ew, ?_⟩
    clear ew r0 r1
    rw [hM]; clear hM M
    walk_at "wps"
    refine ⟨by decide, fun x hx => ⟨x, wn, wk, .any, rfl, hws, trivial, by show 1 ≤ 6; decide, sset_same, rfl, NSA, _, sset_same, ?_⟩⟩
    rw [sset_sset, sdel_sset hx]
    clear hx x
    have w1 := hws.n1
    have e1 : (wn : Int) - 1 = ((wn - 1 : Nat) : Int) := by omega
    rw [e1]
    refine ⟨by decide, fun x hx => ⟨x, wn, wk, .like (wn - 1), rfl, hws, (show wn - 1 < wn by omega), by show 1 ≤ 6; decide, sset_same, rfl, NSA, _, sset_same, ?_⟩⟩
    rw [sset_sset, sdel_sset hx]
    clear hx x
    have hit : ∀ d ∈ [aimO T.c_Aim .any wn wk, aimO T.c_Aim (.like (wn - 1)) wn wk], ∃ b : Am, d = aimO T.c_Aim b wn wk ∧ AmIn wn wk b := fun d hd => by
      rcases List.mem_cons.mp hd with e | e
      · exact ⟨_, e, hws, trivial, by show 1 ≤ 6; decide⟩
      · exact ⟨_, List.mem_singleton.mp e, hws, (show wn - 1 < wn by omega), by show 1 ≤ 6; decide⟩
    have pr : plainD (.tup [.str "refused", .bl true]) = true := plain_2 rfl rfl
    refine ⟨by decide, fun i δ' μ' => μ' = sset μ st (.lst c1) ∧ ∃ x2 : Option D, δ' = [some (.hd (.ref st)), some (.tup [.int wn, .int wk]), x2, none], ⟨rfl, none, rfl⟩, ?_, ?_⟩
    · rintro i d δ' μ' hi ⟨rfl, x2, rfl⟩
      obtain ⟨b, rfl, hb⟩ := hit d (List.mem_of_getElem? hi)
      refine ⟨by decide, by decide, ?_⟩
      refine lcR (m := 3) (fun _ => .bl true) (by decide) (fun j μ2 X hj hsub hx => ?_) ?_
      · walk_at "wps"
        refine ⟨j, wn, wk, b, rfl, hj, hb, fun z => absurd z hwl, fun _ => ⟨by decide, ?_⟩⟩
        refine same_at pr pr (Nat.le_trans (dep_2 (m := 1) (by show 1 ≤ 1; decide) (by show 1 ≤ 1; decide)) (by decide)) ?_
        rw [same_refl _ pr]
        exact hx
      · show cAll [.lst (([true, true, true] : List Bool).map .bl)] _ _
        rw [w_all]
        exact ⟨_, rfl, nofun, fun _ => ⟨rfl, _, rfl⟩⟩
    · rintro δ' μ' ⟨rfl, x2, rfl⟩
      exact ret_same (h c1 sc)
end
section
variable {P : Program} {w : World} {K : Fg} {mg : Str → Option Value} {base : Heap}
def c__law_context : Con := fun ds μ Φ _ => ∃ p n k : Nat, ds = [.int p, .int n, .int k] ∧ 1 ≤ k ∧ k ≤ 4 ∧ n ≤ 8 ∧ p ≤ 100000 ∧ Φ (Am.iT (digs k n p)) μ
theorem len__law_context {ds μ Φ Ψ} (h : c__law_context ds μ Φ Ψ) : ds.length = 3 := by obtain ⟨_, _, _, rfl, _⟩ := h; rfl
theorem ok__law_context {cx : CXT} (T : Txt P w K mg) : FnOk P w K mg base cx 1 T.f__law_context T.d__law_context ["_law_number", "_law_n", "_law_k"] (spOf K c__law_context) := by
  refine def_okC T.F__law_context sc__law_context _ (fun ds μ Φ Ψ h => len__law_context h) (fun cdv A outer s H E B hW hr =>
    ⟨_, (pss_cons (ps_set (i := 3) sc__law_context.nd rfl (Or.inl rfl) (pe_lst pa_nil))
      (pss_cons (ps_set (i := 4) sc__law_context.nd rfl (Or.inl rfl) (pe_callTy call_int1 (by rfl) T.z_int (by decide +kernel) (pa_cons (pv 0) pa_nil)))
      (pss_cons (ps_for (passes_of rfl) rfl (pi_range1 rfl T.z_range (pa_cons (pv 1) pa_nil)) (pg_name (i := 5) sc__law_context.nd rfl (Or.inl rfl)) (pss_cons (ps_set (i := 3) sc__law_context.nd rfl (Or.inl rfl) (pe_op op_cat (pe_lst (pa_cons (pe_op op_mod (pv 4) (pv 2)) pa_nil)) (pv 3)))
      (pss_one (ps_set (i := 4) sc__law_context.nd rfl (Or.inl rfl) (pe_op op_fdivW (pv 4) (pv 2))))))
      (pss_one (ps_ret (pe_callTy call_tupleN (by rfl) T.z_tuple (by decide +kernel) (pa_cons (pv 3) pa_nil))))))),
      (sSeq (sAsg (sLst sNil) sName)
      (sSeq (sAsg (sCB rcInt (sCons sVar sNil)) sName)
      (sSeq (sFor (siR1 sVar) (fun _ _ _ => sName) (fun _ _ _ => (sSeq (sAsg (sOp roCatL (sLst (sCons (sOp roInt sVar sVar) sNil)) sVar) sName)
      (sAsg (sOp roInt sVar sVar) sName))))
      (sRet (sCB rcTuple (sCons sVar sNil))))))⟩) (fun ds μ Φ Ψ h => ?hv)
  case hv =>
    obtain ⟨p, n, k, rfl, k1, k4, n8, hp, h⟩ := h
    walk_at "wps"
    refine ⟨by decide, by omega, by omega, fun i δ' μ' => μ' = μ ∧ i ≤ n ∧ ∃ x : Option D, δ' = [some (.int p), some (.int n), some (.int k), some (.lst ((digs k i p).map .int)), some (.int ((p / k ^ i : Nat) : Int)), x], ⟨rfl, Nat.zero_le _, none, ?_⟩, ?_, ?_⟩
    · rw [Nat.pow_zero, Nat.div_one]; rfl
    · rintro i d δ' μ' hi ⟨rfl, hin, x, rfl⟩
      obtain ⟨hj, rfl⟩ := rngD_get hi
      walk_at "wps"
      have hle : p / k ^ i ≤ p := Nat.div_le_self _ _
      have hdl := (digs_ok (k := k) k1 i p).1
      refine ⟨by omega, by decide, by omega, ?_, by omega, some (.int i), ?_⟩
      · exact ⟨by omega, by rw [Int.natAbs_natCast]; have := Nat.log2_le_self k; omega⟩
      · rw [digs_cons, List.map_cons, ← Int.natCast_ediv, ← Int.natCast_emod, Nat.div_div_eq_div_mul, ← Nat.pow_succ]
    · rintro δ' μ' ⟨rfl, hin, x, rfl⟩
      walk_at "wps"
      exact ret_same h
end
section
variable {P : Program} {w : World} {K : Fg} {mg : Str → Option Value} {base : Heap}
section
variable {P : Program} {w : World} {K : Fg} {mg : Str → Option Value} {base : Heap}
theorem okN__law_good (T : Txt P w K mg) : ∀ n, FnOk P w K mg base (L2N.CX P w) (4 + n) T.f__law_good T.d__law_good ["_law_term", "_law_context_here", "_law_k"] (spOf K (c__law_good n))
  | 0 => fn_never fun ds μ Φ Ψ h => by
    rcases h with ⟨_, _, a, _, _, h, _⟩ | ⟨_, _, a, _, _, h, _⟩ <;> (have := dep_pos a; omega)
  | n + 1 => FnOk_or (step__law_good_T T (k := 4 + n) (by omega) n (okN__law_good T n)) (step__law_good_L T (k := 4 + n) (by omega) n (okN__law_good T n))
theorem ok__law_good (T : Txt P w K mg) : FnOk P w K mg base (L2N.CX P w) 30 T.f__law_good T.d__law_good ["_law_term", "_law_context_here", "_law_k"] (spOf K (c__law_good 6)) := (okN__law_good T 6).mono (by decide)
end
theorem closed_tab {n k : Nat} {f : List Int → List Int} (hs : SzOk n k) (hf : ∀ c, CtxOk n k c → Asc n 0 (f c)) (h1 : ∀ c, hullL c (f c) = f c) (h2 : ∀ c, coreL c (f c) = f c) :
    tabF n k (hullF k (.table (tabF n k f))) = tabF n k f ∧ tabF n k (coreF k (.table (tabF n k f))) = tabF n k f ∧ fairB k n (.table (tabF n k f)) = true := by
  have e1 : tabF n k (hullF k (.table (tabF n k f))) = tabF n k f := tabF_eq.mpr fun c hc => by
    unfold hullF; rw [tabF_good hs hf hc, h1]
  have e2 : tabF n k (coreF k (.table (tabF n k f))) = tabF n k f := tabF_eq.mpr fun c hc => by
    unfold coreF; rw [tabF_good hs hf hc, h2]
  have e3 : tabF n k (goodL k (.table (tabF n k f))) = tabF n k f := tabF_eq.mpr fun c hc => tabF_good hs hf hc
  exact ⟨e1, e2, by unfold fairB; rw [e1, e3]; exact decide_eq_true rfl⟩
theorem goodL_not {k : Nat} {b : Am} {c : List Int} : goodL k (.not b) c = complL c.length (goodL k b c) := by
  rw [goodL_opts]
  unfold complL
  refine List.filter_congr fun z hz => ?_
  rw [goodL_has hz]
  rfl
theorem map_tabF {n k : Nat} {f g : List Int → List Int} {m : List Int → List Int} (h : ∀ c ∈ ctxs n k, m (f c) = g c) : (tabF n k f).map m = tabF n k g := by
  unfold tabF
  rw [List.map_map]
  exact List.map_congr_left h
theorem not_tab {n k : Nat} {b : Am} (hs : SzOk n k) : (tabF n k (coreF k b)).map (complL n) = tabF n k (hullF k (.not b)) ∧ (tabF n k (hullF k b)).map (complL n) = tabF n k (coreF k (.not b)) ∧ fairB k n b = fairB k n (.not b) := by
  have len : ∀ c ∈ ctxs n k, n = c.length := fun c hc => (ctxs_ok hs.n1 hs.n64 hs.k1 hs.k4 hc).len.symm
  refine ⟨map_tabF fun c hc => ?_, map_tabF fun c hc => ?_, ?_⟩
  · unfold hullF coreF; rw [goodL_not, hull_compl, ← len c hc]
  · unfold hullF coreF; rw [goodL_not, core_compl c _ fun z hz => goodL_in hz, ← len c hc]
  · unfold fairB
    refine decide_eq_decide.mpr ?_
    rw [tabF_eq, tabF_eq]
    refine forall_congr' fun c => forall_congr' fun hc => ?_
    unfold hullF
    rw [goodL_not, goodL_opts]
    exact fair_compl.symm
def orF (n k : Nat) (a b : Am) (c : List Int) : List Int := (optsI n).filter fun z => (hullF k a c).contains z || (hullF k b c).contains z
def andF (k : Nat) (a b : Am) (c : List Int) : List Int := (coreF k a c).filter fun z => (coreF k b c).contains z
theorem mem_goodL {k : Nat} {a : Am} {c : List Int} {z : Int} : z ∈ goodL k a c ↔ z ∈ optsI c.length ∧ isG k a c z.toNat = true := by rw [goodL_opts, List.mem_filter]
theorem or_tab {n k : Nat} {a b : Am} (hs : SzOk n k) : tabF n k (orF n k a b) = tabF n k (hullF k (.either a b)) := tabF_eq.mpr fun c hc => by
  unfold hullF orF
  rw [hull_or c (goodL k a c) (goodL k b c) (goodL k (.either a b) c) fun z => ?_, (ctxs_ok hs.n1 hs.n64 hs.k1 hs.k4 hc).len]
  · rfl
  · rw [mem_goodL, mem_goodL, mem_goodL]
    show _ ∧ (isG k a c z.toNat || isG k b c z.toNat) = true ↔ _
    rw [Bool.or_eq_true]
    exact ⟨fun ⟨h, q⟩ => q.elim (fun q => .inl ⟨h, q⟩) fun q => .inr ⟨h, q⟩, fun h => h.elim (fun q => ⟨q.1, .inl q.2⟩) fun q => ⟨q.1, .inr q.2⟩⟩
theorem and_tab {n k : Nat} {a b : Am} : tabF n k (andF k a b) = tabF n k (coreF k (.both b a)) := tabF_eq.mpr fun c hc => by
  unfold coreF andF
  rw [core_and c (goodL k a c) (goodL k b c) (goodL k (.both b a) c) fun z => ?_]
  · rfl
  · rw [mem_goodL, mem_goodL, mem_goodL]
    show _ ∧ (isG k b c z.toNat && isG k a c z.toNat) = true ↔ _
    rw [Bool.and_eq_true]
    exact ⟨fun ⟨h, q⟩ => ⟨⟨h, q.1⟩, ⟨h, q.2⟩⟩, fun ⟨q1, q2⟩ => ⟨q1.1, q1.2, q2.2⟩⟩
theorem plain_am {n k : Nat} (hs : SzOk n k) : ∀ a : Am, AmOk n k a → plainD a.d = true
  | .any, _ => rfl
  | .best r, h => plain_2 rfl (plain_I (by have := h.1; have := hs.k4; omega))
  | .second r, h => plain_2 rfl (plain_I (by have := h.1; have := hs.k4; omega))
  | .most, _ => rfl
  | .fewest, _ => rfl
  | .fixed, _ => rfl
  | .like i, _ => rfl
  | .unlike i, _ => rfl
  | .among l, h => plain_2 rfl (plain_I (by have := asc_len (lo := 0) (l := l) h; have := hs.k4; omega))
  | .only l, h => plain_2 rfl (plain_I (by have := asc_len (lo := 0) (l := l) h; have := hs.n64; omega))
  | .table rows, h => plain_2 rfl (plain_tup (fun d hd => by
      obtain ⟨l, hl, rfl⟩ := List.mem_map.mp hd
      exact plain_I (by have := asc_len (h.2.2.2 l hl); have := hs.n64; omega)) (by rw [List.length_map, h.2.2.1]; have := h.2.1; omega))
  | .either a b, h => plain_3 rfl (plain_am hs a h.1) (plain_am hs b h.2)
  | .both a b, h => plain_3 rfl (plain_am hs a h.1) (plain_am hs b h.2)
  | .els a b, h => plain_3 rfl (plain_am hs a h.1) (plain_am hs b h.2)
  | .not a, h => plain_2 rfl (plain_am hs a h)
  | .first a, h => plain_2 rfl (plain_am hs a h)
  | .recode m a, h => plain_3 rfl (plain_I (by have := h.1.1; have := hs.k4; omega)) (plain_am hs a h.2)
  | .reorder p a, h => plain_3 rfl (plain_I (by have := h.1.1; have := hs.n64; omega)) (plain_am hs a h.2.2)
theorem depD_am : ∀ a : Am, depD a.d ≤ a.dep + 3
  | .any => by decide
  | .best r => Nat.le_trans (dep_2 (m := 2) (by decide) dep_I) (by show 3 ≤ 4; decide)
  | .second r => Nat.le_trans (dep_2 (m := 2) (by decide) dep_I) (by show 3 ≤ 4; decide)
  | .most => by decide
  | .fewest => by decide
  | .fixed => by decide
  | .like i => Nat.le_trans (dep_2 (m := 1) (by decide) (Nat.le_refl 1)) (by show 2 ≤ 4; decide)
  | .unlike i => Nat.le_trans (dep_2 (m := 1) (by decide) (Nat.le_refl 1)) (by show 2 ≤ 4; decide)
  | .among l => Nat.le_trans (dep_2 (m := 2) (by decide) dep_I) (by show 3 ≤ 4; decide)
  | .only l => Nat.le_trans (dep_2 (m := 2) (by decide) dep_I) (by show 3 ≤ 4; decide)
  | .table rows => Nat.le_trans (dep_2 (m := 3) (by decide) (dep_tup fun d hd => by obtain ⟨l, _, rfl⟩ := List.mem_map.mp hd; exact dep_I)) (by show 4 ≤ 4; decide)
  | .either a b => Nat.le_trans (dep_3 (m := max a.dep b.dep + 3) (by show 1 ≤ _; omega) (Nat.le_trans (depD_am a) (by omega)) (Nat.le_trans (depD_am b) (by omega))) (by simp only [Am.dep]; omega)
  | .both a b => Nat.le_trans (dep_3 (m := max a.dep b.dep + 3) (by show 1 ≤ _; omega) (Nat.le_trans (depD_am a) (by omega)) (Nat.le_trans (depD_am b) (by omega))) (by simp only [Am.dep]; omega)
  | .els a b => Nat.le_trans (dep_3 (m := max a.dep b.dep + 3) (by show 1 ≤ _; omega) (Nat.le_trans (depD_am a) (by omega)) (Nat.le_trans (depD_am b) (by omega))) (by simp only [Am.dep]; omega)
  | .not a => Nat.le_trans (dep_2 (m := a.dep + 3) (by show 1 ≤ _; omega) (depD_am a)) (by simp only [Am.dep]; omega)
  | .first a => Nat.le_trans (dep_2 (m := a.dep + 3) (by show 1 ≤ _; omega) (depD_am a)) (by simp only [Am.dep]; omega)
  | .recode m a => Nat.le_trans (dep_3 (m := a.dep + 3) (by show 1 ≤ _; omega) (Nat.le_trans dep_I (by omega)) (depD_am a)) (by simp only [Am.dep]; omega)
  | .reorder p a => Nat.le_trans (dep_3 (m := a.dep + 3) (by show 1 ≤ _; omega) (Nat.le_trans dep_I (by omega)) (depD_am a)) (by simp only [Am.dep]; omega)
/-- a state and three lists -/
def S4 (μ : Sto) (p q1 q2 q3 : Addr) (c H R F : List D) : Sto := sset (sset (sset (sset μ p (.lst c)) q1 (.lst H)) q2 (.lst R)) q3 (.lst F)
structure Dis (p q1 q2 q3 : Addr) : Prop where
  n1p : q1 ≠ p
  n2p : q2 ≠ p
  n3p : q3 ≠ p
  n21 : q2 ≠ q1
  n31 : q3 ≠ q1
  n32 : q3 ≠ q2
theorem ne_of {μ : Sto} {a q : Addr} {c : Cell} (h : sset μ a c q = none) : q ≠ a := fun e => by rw [e, sset_same] at h; cases h
theorem down {μ : Sto} {a q : Addr} {c : Cell} (h : sset μ a c q = none) : μ q = none := by rw [sset_ne (ne_of h)] at h; exact h
section
variable {μ : Sto} {p q1 q2 q3 : Addr} {c H R F c' H' R' F' : List D}
theorem S4_1 (d : Dis p q1 q2 q3) : S4 μ p q1 q2 q3 c H R F q1 = some (.lst H) := by unfold S4; rw [sset_ne (Ne.symm d.n31), sset_ne (Ne.symm d.n21), sset_same]
theorem S4_2 (d : Dis p q1 q2 q3) : S4 μ p q1 q2 q3 c H R F q2 = some (.lst R) := by unfold S4; rw [sset_ne (Ne.symm d.n32), sset_same]
theorem S4_3 : S4 μ p q1 q2 q3 c H R F q3 = some (.lst F) := by unfold S4; rw [sset_same]
theorem S4_p (d : Dis p q1 q2 q3) : S4 μ p q1 q2 q3 c H R F p = some (.lst c) := by unfold S4; rw [sset_ne (Ne.symm d.n3p), sset_ne (Ne.symm d.n2p), sset_ne (Ne.symm d.n1p), sset_same]
theorem S4_w1 (d : Dis p q1 q2 q3) : sset (S4 μ p q1 q2 q3 c H R F) q1 (.lst H') = S4 μ p q1 q2 q3 c H' R F := by unfold S4; rw [sset_comm (a := q3) (b := q1) d.n31, sset_comm (a := q2) (b := q1) d.n21, sset_sset]
theorem S4_w2 (d : Dis p q1 q2 q3) : sset (S4 μ p q1 q2 q3 c H R F) q2 (.lst R') = S4 μ p q1 q2 q3 c H R' F := by unfold S4; rw [sset_comm (a := q3) (b := q2) d.n32, sset_sset]
theorem S4_w3 : sset (S4 μ p q1 q2 q3 c H R F) q3 (.lst F') = S4 μ p q1 q2 q3 c H R F' := by unfold S4; rw [sset_sset]
theorem S4_wp (d : Dis p q1 q2 q3) : sset (S4 μ p q1 q2 q3 c H R F) p (.lst c') = S4 μ p q1 q2 q3 c' H R F := by unfold S4; rw [sset_comm (a := q3) (b := p) d.n3p, sset_comm (a := q2) (b := p) d.n2p, sset_comm (a := q1) (b := p) d.n1p, sset_sset]
end
theorem take_map_succ {α β : Type} {f : α → β} {l : List α} {i : Nat} {e : α} (h : l[i]? = some e) : (l.map f).take (i + 1) = (l.map f).take i ++ [f e] := by
  rw [List.take_add_one, List.getElem?_map, h]; rfl
theorem ctx_at {n k : Nat} {i : Nat} {c : List Int} (h : (ctxs n k)[i]? = some c) : atI ((ctxs n k).map Am.iT) (i : Int) = some (Am.iT c) := atI_nat (by rw [List.getElem?_map, h]; rfl)
theorem tab_at {n k : Nat} {f : List Int → List Int} {i : Nat} {c : List Int} (h : (ctxs n k)[i]? = some c) : atI ((tabF n k f).map Am.iT) (i : Int) = some (Am.iT (f c)) := atI_nat (by rw [List.getElem?_map, tabF_get, h]; rfl)
theorem rng_tab {n k : Nat} {f : List Int → List Int} : (List.range (ctxs n k).length).map (fun i => Am.iT (f ((ctxs n k).getD i []))) = (tabF n k f).map Am.iT := by
  unfold tabF
  rw [List.map_map]
  apply List.ext_getElem
  · simp
  · intro i h1 h2
    simp at h1
    simp [List.getD_eq_getElem?_getD, List.getElem?_eq_getElem h1]
def c_law : Con := fun ds μ Φ _ => ∃ ns : List Int, ds = [.scr ns] ∧ ns.length ≤ 63 ∧ Φ (.bl true) μ
theorem len_law {ds μ Φ Ψ} (h : c_law ds μ Φ Ψ) : ds.length = 1 := by obtain ⟨_, rfl, _⟩ := h; rfl
theorem ok_law (T : Txt P w K mg) : FnOk P w K mg base (L2N.CX P w) 40 T.f_law T.d_law ["_law_script"] (spOf K c_law) := by
  refine def_okC T.F_law sc_law _ (fun ds μ Φ Ψ h => len_law h) (fun cdv A outer s H E B hW hr =>
    have tk : L2N.Takes (cxOf (L2N.CX P w) P w K mg base N_law "law" (defScope s_law) T.f_law cdv A outer s H E) (fun cls d _ H => E cls d H) := L2N.takes_of rfl rfl rfl rfl
    ⟨_, (pss_cons (ps_set (i := 1) sc_law.nd rfl (Or.inl rfl) (pe_call (ok__law_start T) (hr.mono (by decide)) rfl T.g__law_start T.F__law_start.kp T.b__law_start .nil passN (pa_cons (pv 0) pa_nil)))
      (pss_cons (ps_set (i := 2) sc_law.nd rfl (Or.inl rfl) (pe_call (ok__law_shape T) (hr.mono (by decide)) rfl T.g__law_shape T.F__law_shape.kp T.b__law_shape .nil passN (pa_cons (pv 1) pa_nil)))
      (pss_cons (ps_set (i := 3) sc_law.nd rfl (Or.inr rfl) (pe_ix ix_tup (pv 2) pe_int (fun _ _ => rfl)))
      (pss_cons (ps_set (i := 4) sc_law.nd rfl (Or.inr rfl) (pe_ix ix_tup (pv 2) pe_int (fun _ _ => rfl)))
      (pss_cons (ps_set (i := 5) sc_law.nd rfl (Or.inr rfl) (pe_lc (own := [("_law_p", 16)]) rfl sc_law.nd (pi_range1 rfl T.z_range (pa_cons (pe_call (ok__law_contexts T) (hr.mono (by decide)) rfl T.g__law_contexts T.F__law_contexts.kp T.b__law_contexts .nil passN (pa_cons (pv 3) (pa_cons (pv 4) pa_nil))) pa_nil)) (blkOk_by (N := N_law) (sc := defScope s_law) (by decide +kernel)) (fun _ _ _ _ _ => (pg_name (i := 16) sc_law.nd rfl (Or.inl rfl))) (fun _ _ _ _ _ => pts_nil) (fun _ _ _ _ _ => (pe_call (ok__law_context T) (hr.mono (by decide)) rfl T.g__law_context T.F__law_context.kp T.b__law_context .nil passN (pa_cons (pv 16) (pa_cons (pv 3) (pa_cons (pv 4) pa_nil)))))))
      (pss_cons (ps_set (i := 6) sc_law.nd rfl (Or.inl rfl) (pe_lst (pa_cons (pe_call (ok__law_any_aim T) (hr.mono (by decide)) rfl T.g__law_any_aim T.F__law_any_aim.kp T.b__law_any_aim .nil passN (pa_cons (pv 1) (pa_cons (pv 5) (pa_cons (pv 3) (pa_cons (pv 4) pa_nil))))) (pa_cons (pe_call (ok__law_any_aim T) (hr.mono (by decide)) rfl T.g__law_any_aim T.F__law_any_aim.kp T.b__law_any_aim .nil passN (pa_cons (pv 1) (pa_cons (pv 5) (pa_cons (pv 3) (pa_cons (pv 4) pa_nil))))) pa_nil))))
      (pss_cons (ps_set (i := 7) sc_law.nd rfl (Or.inl rfl) (pe_lst (pa_cons (pe_makeS T.mk_Aim (ok_Aim___init__ T) (hr.mono (by decide)) rfl T.g_Aim T.b_Aim___init__ (fun σ => L2N.passAt tk σ) (pa_cons (pe_ix ix_list (pv 6) pe_int (fun _ _ => rfl)) (pa_cons (pv 3) (pa_cons (pv 4) pa_nil)))) (pa_cons (pe_makeS T.mk_Aim (ok_Aim___init__ T) (hr.mono (by decide)) rfl T.g_Aim T.b_Aim___init__ (fun σ => L2N.passAt tk σ) (pa_cons (pe_ix ix_list (pv 6) pe_int (fun _ _ => rfl)) (pa_cons (pv 3) (pa_cons (pv 4) pa_nil)))) pa_nil))))
      (pss_cons (ps_set (i := 8) sc_law.nd rfl (Or.inr rfl) (pe_lst pa_nil))
      (pss_cons (ps_set (i := 9) sc_law.nd rfl (Or.inr rfl) (pe_lst pa_nil))
      (pss_cons (ps_set (i := 10) sc_law.nd rfl (Or.inl rfl) (pe_lst pa_nil))
      (pss_cons (ps_for (passes_of rfl) rfl (pi_list (pv 6)) (pg_name (i := 11) sc_law.nd rfl (Or.inr rfl)) (pss_cons (ps_set (i := 17) sc_law.nd rfl (Or.inr rfl) (pe_callTy call_tupleN (by rfl) T.z_tuple (by decide +kernel) (pa_cons (pe_lc (own := [("_law_context_here", 18)]) rfl sc_law.nd (pi_list (pv 5)) (blkOk_by (N := N_law) (sc := defScope s_law) (by decide +kernel)) (fun _ _ _ _ _ => (pg_name (i := 18) sc_law.nd rfl (Or.inl rfl))) (fun _ _ _ _ _ => pts_nil) (fun _ _ _ _ _ => (pe_callTy call_tupleN (by rfl) T.z_tuple (by decide +kernel) (pa_cons (pe_call (ok__law_good T) (hr.mono (by decide)) rfl T.g__law_good T.F__law_good.kp T.b__law_good .nil passN (pa_cons (pv 11) (pa_cons (pv 18) (pa_cons (pv 4) pa_nil)))) pa_nil)))) pa_nil)))
      (pss_cons (ps_expr (pe_bm PySem.F.plainAttrs_list PySem.F.slot_list_append PySem.F.type_list_append mt_append (pv 8) (pa_cons (pe_callTy call_tupleN (by rfl) T.z_tuple (by decide +kernel) (pa_cons (pe_lc (own := [("_law_p", 16)]) rfl sc_law.nd (pi_range1 rfl T.z_range (pa_cons (pe_callB call_len_seq (by rfl) T.z_len PySem.boot_len (pa_cons (pv 5) pa_nil)) pa_nil)) (blkOk_by (N := N_law) (sc := defScope s_law) (by decide +kernel)) (fun _ _ _ _ _ => (pg_name (i := 16) sc_law.nd rfl (Or.inl rfl))) (fun _ _ _ _ _ => pts_nil) (fun _ _ _ _ _ => (pe_call (ok__law_hull T) (hr.mono (by decide)) rfl T.g__law_hull T.F__law_hull.kp T.b__law_hull .nil passN (pa_cons (pe_ix ix_list (pv 5) (pv 16) (fun _ _ => rfl)) (pa_cons (pe_ix ix_tup (pv 17) (pv 16) (fun _ _ => rfl)) pa_nil))))) pa_nil)) pa_nil)))
      (pss_cons (ps_expr (pe_bm PySem.F.plainAttrs_list PySem.F.slot_list_append PySem.F.type_list_append mt_append (pv 9) (pa_cons (pe_callTy call_tupleN (by rfl) T.z_tuple (by decide +kernel) (pa_cons (pe_lc (own := [("_law_p", 16)]) rfl sc_law.nd (pi_range1 rfl T.z_range (pa_cons (pe_callB call_len_seq (by rfl) T.z_len PySem.boot_len (pa_cons (pv 5) pa_nil)) pa_nil)) (blkOk_by (N := N_law) (sc := defScope s_law) (by decide +kernel)) (fun _ _ _ _ _ => (pg_name (i := 16) sc_law.nd rfl (Or.inl rfl))) (fun _ _ _ _ _ => pts_nil) (fun _ _ _ _ _ => (pe_call (ok__law_core T) (hr.mono (by decide)) rfl T.g__law_core T.F__law_core.kp T.b__law_core .nil passN (pa_cons (pe_ix ix_list (pv 5) (pv 16) (fun _ _ => rfl)) (pa_cons (pe_ix ix_tup (pv 17) (pv 16) (fun _ _ => rfl)) pa_nil))))) pa_nil)) pa_nil)))
      (pss_one (ps_expr (pe_bm PySem.F.plainAttrs_list PySem.F.slot_list_append PySem.F.type_list_append mt_append (pv 10) (pa_cons (pe_cmpR (op_eqD hr.units) (pe_ix ix_list (pv 8) (pe_un un_neg pe_int) (fun _ _ => rfl)) (pv 17) (nomark _)) pa_nil))))))))
      (pss_cons (ps_for (passes_of rfl) rfl (pi_range1 rfl T.z_range (pa_cons pe_int pa_nil)) (pg_name (i := 12) sc_law.nd rfl (Or.inl rfl)) (pss_one (ps_if (pt_not (pt_val (pe_call (ok__law_asked T) (hr.mono (by decide)) rfl T.g__law_asked T.F__law_asked.kp T.b__law_asked .nil passN (pa_cons (pe_ix ix_list (pv 7) (pv 12) (fun _ _ => rfl)) (pa_cons (pv 2) (pa_cons (pe_ix ix_list (pv 8) (pv 12) (fun _ _ => rfl)) (pa_cons (pe_ix ix_list (pv 9) (pv 12) (fun _ _ => rfl)) (pa_cons (pe_ix ix_list (pv 10) (pv 12) (fun _ _ => rfl)) pa_nil)))))))) (pss_one (ps_ret pe_bl)) pss_nil)))
      (pss_cons (ps_for (passes_of rfl) rfl (pi_list (pe_lst (pa_cons (pe_ix ix_list (pv 8) pe_int (fun _ _ => rfl)) (pa_cons (pe_ix ix_list (pv 9) pe_int (fun _ _ => rfl)) pa_nil)))) (pg_name (i := 13) sc_law.nd rfl (Or.inl rfl)) (pss_one (ps_if (pt_not (pt_val (pe_call (ok__law_asked T) (hr.mono (by decide)) rfl T.g__law_asked T.F__law_asked.kp T.b__law_asked .nil passN (pa_cons (pe_makeS T.mk_Aim (ok_Aim___init__ T) (hr.mono (by decide)) rfl T.g_Aim T.b_Aim___init__ (fun σ => L2N.passAt tk σ) (pa_cons (pe_tupN (pa_cons pe_str (pa_cons (pv 13) pa_nil))) (pa_cons (pv 3) (pa_cons (pv 4) pa_nil)))) (pa_cons (pv 2) (pa_cons (pv 13) (pa_cons (pv 13) (pa_cons pe_bl pa_nil)))))))) (pss_one (ps_ret pe_bl)) pss_nil)))
      (pss_cons (ps_if (PW.pt (pw_or (pt_not (pt_val (pe_call (ok__law_asked T) (hr.mono (by decide)) rfl T.g__law_asked T.F__law_asked.kp T.b__law_asked .nil passN (pa_cons (pe_invX T.me_Aim___invert__ (ok_Aim___invert__ T) (hr.mono (by decide)) T.b_Aim___invert__ (fun σ => L2N.passAt tk σ) (pe_ix ix_list (pv 7) pe_int (fun _ _ => rfl))) (pa_cons (pv 2) (pa_cons (pe_call (ok__law_others T) (hr.mono (by decide)) rfl T.g__law_others T.F__law_others.kp T.b__law_others .nil passN (pa_cons (pe_ix ix_list (pv 9) pe_int (fun _ _ => rfl)) (pa_cons (pv 3) pa_nil))) (pa_cons (pe_call (ok__law_others T) (hr.mono (by decide)) rfl T.g__law_others T.F__law_others.kp T.b__law_others .nil passN (pa_cons (pe_ix ix_list (pv 8) pe_int (fun _ _ => rfl)) (pa_cons (pv 3) pa_nil))) (pa_cons (pe_ix ix_list (pv 10) pe_int (fun _ _ => rfl)) pa_nil)))))))) (pw_or1 (pt_not (pt_val (pe_call (ok__law_refused T) (hr.mono (by decide)) rfl T.g__law_refused T.F__law_refused.kp T.b__law_refused .nil passN (pa_cons (pv 1) pa_nil))))))) (pss_one (ps_ret pe_bl)) pss_nil)
      (pss_cons (ps_set (i := 14) sc_law.nd rfl (Or.inl rfl) (pe_lst pa_nil))
      (pss_cons (ps_set (i := 15) sc_law.nd rfl (Or.inl rfl) (pe_lst pa_nil))
      (pss_cons (ps_for (passes_of rfl) rfl (pi_range1 rfl T.z_range (pa_cons (pe_callB call_len_seq (by rfl) T.z_len PySem.boot_len (pa_cons (pv 5) pa_nil)) pa_nil)) (pg_name (i := 16) sc_law.nd rfl (Or.inr rfl)) (pss_cons (ps_expr (pe_bm PySem.F.plainAttrs_list PySem.F.slot_list_append PySem.F.type_list_append mt_append (pv 14) (pa_cons (pe_callTy call_tupleN (by rfl) T.z_tuple (by decide +kernel) (pa_cons (pe_lc (own := [("_law_x", 19)]) rfl sc_law.nd (pi_range1 rfl T.z_range (pa_cons (pv 3) pa_nil)) (blkOk_by (N := N_law) (sc := defScope s_law) (by decide +kernel)) (fun _ _ _ _ _ => (pg_name (i := 19) sc_law.nd rfl (Or.inl rfl))) (fun _ _ _ _ _ => (pts_one (PW.pt (pw_or (pt_cmpR op_in_seq (pv 19) (pe_ix ix_tup (pe_ix ix_list (pv 8) pe_int (fun _ _ => rfl)) (pv 16) (fun _ _ => rfl)) (by with_unfolding_all rfl)) (pw_or1 (pt_cmpR op_in_seq (pv 19) (pe_ix ix_tup (pe_ix ix_list (pv 8) pe_int (fun _ _ => rfl)) (pv 16) (fun _ _ => rfl)) (by with_unfolding_all rfl))))))) (fun _ _ _ _ _ => (pv 19))) pa_nil)) pa_nil)))
      (pss_one (ps_expr (pe_bm PySem.F.plainAttrs_list PySem.F.slot_list_append PySem.F.type_list_append mt_append (pv 15) (pa_cons (pe_callTy call_tupleN (by rfl) T.z_tuple (by decide +kernel) (pa_cons (pe_lc (own := [("_law_x", 19)]) rfl sc_law.nd (pi_tup (pe_ix ix_tup (pe_ix ix_list (pv 9) pe_int (fun _ _ => rfl)) (pv 16) (fun _ _ => rfl))) (blkOk_by (N := N_law) (sc := defScope s_law) (by decide +kernel)) (fun _ _ _ _ _ => (pg_name (i := 19) sc_law.nd rfl (Or.inl rfl))) (fun _ _ _ _ _ => (pts_one (pt_cmpR op_in_seq (pv 19) (pe_ix ix_tup (pe_ix ix_list (pv 9) pe_int (fun _ _ => rfl)) (pv 16) (fun _ _ => rfl)) (by with_unfolding_all rfl)))) (fun _ _ _ _ _ => (pv 19))) pa_nil)) pa_nil))))))
      (pss_cons (ps_if (pt_not (pt_val (pe_call (ok__law_same T) (hr.mono (by decide)) rfl T.g__law_same T.F__law_same.kp T.b__law_same .nil passN (pa_cons (pe_call (ok__law_do T) (hr.mono (by decide)) rfl T.g__law_do T.F__law_do.kp T.b__law_do .nil passN (pa_cons pe_int (pa_cons (pe_binX T.sf_Aim T.me_Aim___or__ (ok_Aim___or__ T) (hr.mono (by decide)) T.b_Aim___or__ (fun σ => L2N.passAt tk σ) (pe_ix ix_list (pv 7) pe_int (fun _ _ => rfl)) (pe_ix ix_list (pv 7) pe_int (fun _ _ => rfl))) pa_nil))) (pa_cons (pe_tupN (pa_cons pe_str (pa_cons (pe_tupN (pa_cons pe_str (pa_cons (pe_callTy call_tupleN (by rfl) T.z_tuple (by decide +kernel) (pa_cons (pv 14) pa_nil)) pa_nil))) (pa_cons (pv 3) (pa_cons (pv 4) (pa_cons (pe_callTy call_tupleN (by rfl) T.z_tuple (by decide +kernel) (pa_cons (pv 14) pa_nil)) pa_nil)))))) pa_nil))))) (pss_one (ps_ret pe_bl)) pss_nil)
      (pss_cons (ps_if (pt_not (pt_val (pe_call (ok__law_same T) (hr.mono (by decide)) rfl T.g__law_same T.F__law_same.kp T.b__law_same .nil passN (pa_cons (pe_call (ok__law_do T) (hr.mono (by decide)) rfl T.g__law_do T.F__law_do.kp T.b__law_do .nil passN (pa_cons pe_int (pa_cons (pe_binX T.sf_Aim T.me_Aim___and__ (ok_Aim___and__ T) (hr.mono (by decide)) T.b_Aim___and__ (fun σ => L2N.passAt tk σ) (pe_ix ix_list (pv 7) pe_int (fun _ _ => rfl)) (pe_ix ix_list (pv 7) pe_int (fun _ _ => rfl))) pa_nil))) (pa_cons (pe_tupN (pa_cons pe_str (pa_cons (pe_tupN (pa_cons pe_str (pa_cons (pe_callTy call_tupleN (by rfl) T.z_tuple (by decide +kernel) (pa_cons (pv 15) pa_nil)) pa_nil))) (pa_cons (pv 3) (pa_cons (pv 4) (pa_cons (pe_callTy call_tupleN (by rfl) T.z_tuple (by decide +kernel) (pa_cons (pv 15) pa_nil)) pa_nil)))))) pa_nil))))) (pss_one (ps_ret pe_bl)) pss_nil)
      (pss_one (ps_ret (pe_and (pe_call (ok__law_asked T) (hr.mono (by decide)) rfl T.g__law_asked T.F__law_asked.kp T.b__law_asked .nil passN (pa_cons (pe_ix ix_list (pv 7) pe_int (fun _ _ => rfl)) (pa_cons (pv 2) (pa_cons (pe_ix ix_list (pv 8) pe_int (fun _ _ => rfl)) (pa_cons (pe_ix ix_list (pv 9) pe_int (fun _ _ => rfl)) (pa_cons (pe_ix ix_list (pv 10) pe_int (fun _ _ => rfl)) pa_nil)))))) (pe_one (pe_call (ok__law_same T) (hr.mono (by decide)) rfl T.g__law_same T.F__law_same.kp T.b__law_same .nil passN (pa_cons (pe_fld (pe_ix ix_list (pv 7) pe_int (fun _ _ => rfl)) rfl) (pa_cons (pe_ix ix_list (pv 6) pe_int (fun _ _ => rfl)) pa_nil)))))))))))))))))))))))))),
      (sSeq (sAsg (sCall (sCons sVar sNil)) sName)
      (sSeq (sAsg (sCall (sCons sVar sNil)) sName)
      (sSeq (sAsg (sOp roIxT sVar sInt) sName)
      (sSeq (sAsg (sOp roIxT sVar sInt) sName)
      (sSeq (sAsg (sLc (siR1 (sCall (sCons sVar (sCons sVar sNil)))) (gwName List.mem_cons_self) (fun _ _ _ => sName) (fun _ _ _ => sYes) (fun _ _ _ => (sCall (sCons sVar (sCons sVar (sCons sVar sNil)))))) sName)
      (sSeq (sAsg (sLst (sCons (sCall (sCons sVar (sCons sVar (sCons sVar (sCons sVar sNil))))) (sCons (sCall (sCons sVar (sCons sVar (sCons sVar (sCons sVar sNil))))) sNil))) sName)
      (sSeq (sAsg (sLst (sCons (sMakeSW (W := fun cls d _ H => E cls d H) (by exact hW) (sCons (sOp roIxL sVar sInt) (sCons sVar (sCons sVar sNil)))) (sCons (sMakeSW (W := fun cls d _ H => E cls d H) (by exact hW) (sCons (sOp roIxL sVar sInt) (sCons sVar (sCons sVar sNil)))) sNil))) sName)
      (sSeq (sAsg (sOwn sNil) sName)
      (sSeq (sAsg (sOwn sNil) sName)
      (sSeq (sAsg (sOwn sNil) sName)
      (sSeq (sFor (siL sVar) (fun _ _ _ => sName) (fun _ _ _ => (sSeq (sAsg (sCB rcTuple (sCons (sLc (siL sVar) (gwName List.mem_cons_self) (fun _ _ _ => sName) (fun _ _ _ => sYes) (fun _ _ _ => (sCB rcTuple (sCons (sCall (sCons sVar (sCons sVar (sCons sVar sNil)))) sNil)))) sNil)) sName)
      (sSeq (sDrop (sApp sVar (sCB rcTuple (sCons (sLc (siR1 (sCB rcLen (sCons sVar sNil))) (gwName List.mem_cons_self) (fun _ _ _ => sName) (fun _ _ _ => sYes) (fun _ _ _ => (sCall (sCons (sOp roIxL sVar sVar) (sCons (sOp roIxT sVar sVar) sNil))))) sNil))))
      (sSeq (sDrop (sApp sVar (sCB rcTuple (sCons (sLc (siR1 (sCB rcLen (sCons sVar sNil))) (gwName List.mem_cons_self) (fun _ _ _ => sName) (fun _ _ _ => sYes) (fun _ _ _ => (sCall (sCons (sOp roIxL sVar sVar) (sCons (sOp roIxT sVar sVar) sNil))))) sNil))))
      (sDrop (sApp sVar (sOp roEqD (sOp roIxL sVar (sUn ruInt sInt)) sVar))))))))
      (sSeq (sFor (siR1 sInt) (fun _ _ _ => sName) (fun _ _ _ => (sIfS (sNot (sB (sCall (sCons (sOp roIxL sVar sVar) (sCons sVar (sCons (sOp roIxL sVar sVar) (sCons (sOp roIxL sVar sVar) (sCons (sOp roIxL sVar sVar) sNil)))))))) (sRet sBl) sNext)))
      (sSeq (sFor (siL (sLst (sCons (sOp roIxL sVar sInt) (sCons (sOp roIxL sVar sInt) sNil)))) (fun _ _ _ => sName) (fun _ _ _ => (sIfS (sNot (sB (sCall (sCons (sMakeSW (W := fun cls d _ H => E cls d H) (by exact hW) (sCons (sTup (sCons sStr (sCons sVar sNil))) (sCons sVar (sCons sVar sNil)))) (sCons sVar (sCons sVar (sCons sVar (sCons sBl sNil)))))))) (sRet sBl) sNext)))
      (sSeq (sIfS (sOr (sNot (sB (sCall (sCons (sInvX (NS := NSA) (W := fun cls d _ H => E cls d H) (by exact hW) (sOp roIxL sVar sInt)) (sCons sVar (sCons (sCall (sCons (sOp roIxL sVar sInt) (sCons sVar sNil))) (sCons (sCall (sCons (sOp roIxL sVar sInt) (sCons sVar sNil))) (sCons (sOp roIxL sVar sInt) sNil)))))))) (sNot (sB (sCall (sCons sVar sNil))))) (sRet sBl) sNext)
      (sSeq (sAsg (sOwn sNil) sName)
      (sSeq (sAsg (sOwn sNil) sName)
      (sSeq (sFor (siR1 (sCB rcLen (sCons sVar sNil))) (fun _ _ _ => sName) (fun _ _ _ => (sSeq (sDrop (sApp sVar (sCB rcTuple (sCons (sLc (siR1 sVar) (gwName List.mem_cons_self) (fun _ _ _ => sName) (fun _ _ _ => (sOr (sTest (sOp (roIn (neg := false)) sVar (sOp roIxT (sOp roIxL sVar sInt) sVar))) (sTest (sOp (roIn (neg := false)) sVar (sOp roIxT (sOp roIxL sVar sInt) sVar))))) (fun _ _ _ => sVar)) sNil))))
      (sDrop (sApp sVar (sCB rcTuple (sCons (sLc (siT (sOp roIxT (sOp roIxL sVar sInt) sVar)) (gwName List.mem_cons_self) (fun _ _ _ => sName) (fun _ _ _ => (sTest (sOp (roIn (neg := false)) sVar (sOp roIxT (sOp roIxL sVar sInt) sVar)))) (fun _ _ _ => sVar)) sNil)))))))
      (sSeq (sIfS (sNot (sB (sCall (sCons (sCall (sCons sInt (sCons (sBinX (NS := NSA) (W := fun cls d _ H => E cls d H) (by exact hW) (sOp roIxL sVar sInt) (sOp roIxL sVar sInt)) sNil))) (sCons (sTup (sCons sStr (sCons (sTup (sCons sStr (sCons (sCB rcTuple (sCons sVar sNil)) sNil))) (sCons sVar (sCons sVar (sCons (sCB rcTuple (sCons sVar sNil)) sNil)))))) sNil))))) (sRet sBl) sNext)
      (sSeq (sIfS (sNot (sB (sCall (sCons (sCall (sCons sInt (sCons (sBinX (NS := NSA) (W := fun cls d _ H => E cls d H) (by exact hW) (sOp roIxL sVar sInt) (sOp roIxL sVar sInt)) sNil))) (sCons (sTup (sCons sStr (sCons (sTup (sCons sStr (sCons (sCB rcTuple (sCons sVar sNil)) sNil))) (sCons sVar (sCons sVar (sCons (sCB rcTuple (sCons sVar sNil)) sNil)))))) sNil))))) (sRet sBl) sNext)
      (sRet (sAndV (sCall (sCons (sOp roIxL sVar sInt) (sCons sVar (sCons (sOp roIxL sVar sInt) (sCons (sOp roIxL sVar sInt) (sCons (sOp roIxL sVar sInt) sNil)))))) (sCall (sCons (sFldO (NS := NSA) (i := 0) T.cls_Aim T.na_Aim_term rfl (by decide) (sOp roIxL sVar sInt)) (sCons (sOp roIxL sVar sInt) sNil))))))))))))))))))))))))⟩) (fun ds μ Φ Ψ h => ?hv)
  case hv =>
    obtain ⟨ns, rfl, hlen, h⟩ := h
    refine seq_cut fun M hM => ?_
    walk_at "wp"
    refine ⟨ns, rfl, hlen, fun p c hp sc => ?_⟩
    have fin : ∀ c' : List D, ∃ μ2, Sub μ2 (sset μ p (.lst c')) ∧ Φ (.bl true) μ2 := fun c' => ⟨μ, Sub.set Sub.refl hp, h⟩
    rw [hM]; clear hM M
    refine seq_cut fun M hM => ?_
    walk_at "wp"
    refine ⟨p, ns, c, rfl, sset_same, sc, fun n k c1 hs hsm sc => ?_⟩
    rw [sset_sset, hM]; clear hM M
    have n1 := hs.n1
    have n64 := hs.n64
    have k1 := hs.k1
    have k4 := hs.k4
    have h256 := hsm.2
    have hn8 := hsm.1
    have few := ctxs_few k1 hsm
    refine seq_cut fun M hM => ?_
    walk_at "wp"
    rw [hM]; clear hM M
    refine seq_cut fun M hM => ?_
    walk_at "wp"
    rw [hM]; clear hM M
    refine seq_cut fun M hM => ?_
    walk_at "wp"
    refine ⟨n, k, rfl, hn8, k4, k1, ?_⟩
    refine ⟨_, rfl, by omega, by omega, ?_⟩
    rw [Int.toNat_natCast]
    refine lcR (m := k ^ n) (fun i => Am.iT (digs k n i)) (by omega) (fun i μ2 X hi hsub hx => ?_) ?_
    · walk_at "wp"
      exact ⟨i, n, k, rfl, k1, k4, hn8, by omega, hx⟩
    have ecx : (List.range (k ^ n)).map (fun i => Am.iT (digs k n i)) = (ctxs n k).map Am.iT := by rw [ctxs_eq k1, List.map_map]; rfl
    rw [ecx]
    rw [hM]; clear hM M
    refine seq_cut fun M hM => ?_
    walk_at "wp"
    refine ⟨p, ns, c1, n, k, rfl, sset_same, sc, hs, hsm, fun a c2 ha ha4 sc => ?_⟩
    rw [sset_sset]
    refine ⟨p, ns, c2, n, k, rfl, sset_same, sc, hs, hsm, fun b c3 hb hb4 sc => ?_⟩
    rw [sset_sset]
    refine ⟨by decide, ?_⟩
    rw [hM]; clear hM M
    refine seq_cut fun M hM => ?_
    walk_at "wp"
    intro x hx
    refine ⟨x, n, k, a, rfl, hs, ha.ok, ha.dep, sset_same, rfl, NSA, _, sset_same, ?_⟩
    rw [sset_sset, sdel_sset hx]
    clear hx x
    intro x hx
    refine ⟨x, n, k, b, rfl, hs, hb.ok, hb.dep, sset_same, rfl, NSA, _, sset_same, ?_⟩
    rw [sset_sset, sdel_sset hx]
    clear hx x
    refine ⟨by decide, ?_⟩
    rw [hM]; clear hM M
    refine seq_cut fun M hM => ?_
    walk_at "wp"
    refine ⟨by decide, fun q1 hq1 => ?_⟩
    rw [hM]; clear hM M
    refine seq_cut fun M hM => ?_
    walk_at "wp"
    refine ⟨by decide, fun q2 hq2 => ?_⟩
    rw [hM]; clear hM M
    refine seq_cut fun M hM => ?_
    walk_at "wp"
    refine ⟨by decide, fun q3 hq3 => ?_⟩
    rw [hM]; clear hM M
    refine seq_cut fun M hM => ?_
    have dis : Dis p q1 q2 q3 := ⟨ne_of hq1, ne_of (down hq2), ne_of (down (down hq3)), ne_of hq2, ne_of (down hq3), ne_of hq3⟩
    have z1 : μ q1 = none := down hq1
    have z2 : μ q2 = none := down (down hq2)
    have z3 : μ q3 = none := down (down (down hq3))
    clear hq1 hq2 hq3
    walk_at "wps"
    refine ⟨fun i δ' μ' => μ' = S4 μ p q1 q2 q3 c3 (([a, b].map fun e => rowsD (tabF n k (hullF k e))).take i) (([a, b].map fun e => rowsD (tabF n k (coreF k e))).take i) (([a, b].map fun e => D.bl (fairB k n e)).take i) ∧ ∃ x1 x2 x3 x4 x5 x6 x7 x8 x9 : Option D, δ' = [some (.scr ns), some (.hd (.ref p)), some (.tup [.int n, .int k]), some (.int n), some (.int k), some (.lst ((ctxs n k).map Am.iT)), some (.lst [a.d, b.d]), some (.lst [aimO T.c_Aim a n k, aimO T.c_Aim b n k]), some (.hd (.ref q1)), some (.hd (.ref q2)), some (.hd (.ref q3)), x1, x2, x3, x4, x5, x6, x7, x8, x9], ⟨rfl, none, none, none, none, none, none, none, none, none, rfl⟩, ?_, ?_⟩
    · rintro i d δ' μ' hi ⟨rfl, x1, x2, x3, x4, x5, x6, x7, x8, x9, rfl⟩
      obtain ⟨e, he, rfl, hee, hi2⟩ : ∃ e : Am, [a, b][i]? = some e ∧ d = e.d ∧ AmIn n k e ∧ i < 2 := by
        rcases i with _ | _ | i
        · cases hi; exact ⟨a, rfl, rfl, ha, by decide⟩
        · cases hi; exact ⟨b, rfl, rfl, hb, by decide⟩
        · cases hi
      walk_at "wps"
      refine lcCs (fun c => Am.iT (goodL k e c)) (by omega) (fun c μ2 X hc hsub hx => ?_) ?_
      · have hok := ctxs_ok n1 n64 k1 k4 hc
        unfold Am.iT
        walk_at "wps"
        exact .inl ⟨n, k, e, c, rfl, hee.dep, hee.ok, hok, _, .lst _, hx⟩
      · have eT : (ctxs n k).map (fun c => Am.iT (goodL k e c)) = (tabF n k (goodL k e)).map Am.iT := by unfold tabF; rw [List.map_map]; rfl
        rw [eT]
        refine ⟨_, .lst _, _, S4_1 dis, by omega, by omega, ?_⟩
        refine lcR (m := (ctxs n k).length) (fun j => Am.iT (hullF k e ((ctxs n k).getD j []))) (by omega) (fun j μ2 X hj hsub hx => ?_) ?_
        · obtain ⟨c, hc0⟩ : ∃ c, (ctxs n k)[j]? = some c := ⟨_, List.getElem?_eq_getElem hj⟩
          have hok := ctxs_ok n1 n64 k1 k4 (List.mem_of_getElem? hc0)
          rw [List.getD_eq_getElem?_getD, hc0] at hx
          walk_at "wps"
          refine ⟨_, ctx_at hc0, _, tab_at hc0, ?_⟩
          have gl := goodL_le k e c
          have cl := hok.len
          exact ⟨c, goodL k e c, rfl, by omega, by omega, fun z hz => goodL_in hz, hx⟩
        · rw [rng_tab (f := hullF k e)]
          refine ⟨_, .lst _, _, S4_1 dis, by rw [List.length_take]; omega, ?_⟩
          rw [S4_w1 dis]
          refine ⟨_, S4_2 dis, by omega, by omega, ?_⟩
          refine lcR (m := (ctxs n k).length) (fun j => Am.iT (coreF k e ((ctxs n k).getD j []))) (by omega) (fun j μ2 X hj hsub hx => ?_) ?_
          · obtain ⟨c, hc0⟩ : ∃ c, (ctxs n k)[j]? = some c := ⟨_, List.getElem?_eq_getElem hj⟩
            have hok := ctxs_ok n1 n64 k1 k4 (List.mem_of_getElem? hc0)
            rw [List.getD_eq_getElem?_getD, hc0] at hx
            walk_at "wps"
            refine ⟨_, ctx_at hc0, _, tab_at hc0, ?_⟩
            have gl := goodL_le k e c
            have cl := hok.len
            exact ⟨c, goodL k e c, rfl, by omega, by omega, fun z hz => goodL_in hz, hx⟩
          · rw [rng_tab (f := coreF k e)]
            refine ⟨_, .lst _, _, S4_2 dis, by rw [List.length_take]; omega, ?_⟩
            rw [S4_w2 dis]
            have e1 : [rowsD (tabF n k (hullF k a)), rowsD (tabF n k (hullF k b))].take (i + 1) = [rowsD (tabF n k (hullF k a)), rowsD (tabF n k (hullF k b))].take i ++ [rowsD (tabF n k (hullF k e))] := take_map_succ (f := fun e => rowsD (tabF n k (hullF k e))) he
            have e2 : [rowsD (tabF n k (coreF k a)), rowsD (tabF n k (coreF k b))].take (i + 1) = [rowsD (tabF n k (coreF k a)), rowsD (tabF n k (coreF k b))].take i ++ [rowsD (tabF n k (coreF k e))] := take_map_succ (f := fun e => rowsD (tabF n k (coreF k e))) he
            have e3 : [D.bl (fairB k n a), D.bl (fairB k n b)].take (i + 1) = [D.bl (fairB k n a), D.bl (fairB k n b)].take i ++ [D.bl (fairB k n e)] := take_map_succ (f := fun e => D.bl (fairB k n e)) he
            refine ⟨_, S4_3, .inl ⟨_, S4_1 dis, rowsD (tabF n k (hullF k e)), atI_last, side_rows _, side_rows _, _, S4_3, by rw [List.length_take]; omega, ?_, _, _, _, _, _, _, _, _, _, rfl⟩⟩
            have e4 : eqD (rowsD (tabF n k (hullF k e))) (.tup ((tabF n k (goodL k e)).map Am.iT)) = fairB k n e := eqD_rows _ _
            rw [S4_w3, e1, e2, e3, ← e4]
            rfl
    · rintro δ' μ' ⟨rfl, x1, x2, x3, x4, x5, x6, x7, x8, x9, rfl⟩
      rw [hM]; clear hM M
      have ac : ∀ e : Am, AmIn n k e → ∀ (X : DK) (Y : XD → Sto → Prop) (ν : Sto), X (.bl true) ν → c__law_asked T.c_Aim [aimO T.c_Aim e n k, .tup [.int n, .int k], rowsD (tabF n k (hullF k e)), rowsD (tabF n k (coreF k e)), .bl (fairB k n e)] ν X Y := fun e he X Y ν hX => ⟨n, k, e, _, _, _, rfl, he, hsm, rfl, rfl, rfl, hX⟩
      refine seq_cut fun M hM => ?_
      walk_at "wps"
      refine ⟨by decide, by decide, fun i δ' μ' => μ' = S4 μ p q1 q2 q3 c3 [rowsD (tabF n k (hullF k a)), rowsD (tabF n k (hullF k b))] [rowsD (tabF n k (coreF k a)), rowsD (tabF n k (coreF k b))] [D.bl (fairB k n a), D.bl (fairB k n b)] ∧ ∃ x1 x2 x3 x4 x5 x6 x7 x8 x9 : Option D, δ' = [some (.scr ns), some (.hd (.ref p)), some (.tup [.int n, .int k]), some (.int n), some (.int k), some (.lst ((ctxs n k).map Am.iT)), some (.lst [a.d, b.d]), some (.lst [aimO T.c_Aim a n k, aimO T.c_Aim b n k]), some (.hd (.ref q1)), some (.hd (.ref q2)), some (.hd (.ref q3)), x1, x2, x3, x4, x5, x6, x7, x8, x9], ⟨rfl, x1, x2, x3, x4, x5, x6, x7, x8, x9, rfl⟩, ?_, ?_⟩
      · clear x1 x2 x3 x4 x5 x6 x7 x8 x9
        rintro i d δ' μ' hi ⟨rfl, x1, x2, x3, x4, x5, x6, x7, x8, x9, rfl⟩
        obtain ⟨hj, rfl⟩ := rngD_get hi
        rcases (show i = 0 ∨ i = 1 by have : Int.toNat 2 = 2 := rfl; omega) with rfl | rfl
        · walk_at "wps"
          exact ⟨_, rfl, .inl ⟨_, S4_1 dis, _, rfl, .inl ⟨_, S4_2 dis, _, rfl, .inl ⟨_, S4_3, _, rfl, ac a ha _ _ _ ⟨true, rfl, nofun, fun _ => ⟨rfl, _, _, _, _, _, _, _, _, _, rfl⟩⟩⟩⟩⟩⟩
        · walk_at "wps"
          exact ⟨_, rfl, .inl ⟨_, S4_1 dis, _, rfl, .inl ⟨_, S4_2 dis, _, rfl, .inl ⟨_, S4_3, _, rfl, ac b hb _ _ _ ⟨true, rfl, nofun, fun _ => ⟨rfl, _, _, _, _, _, _, _, _, _, rfl⟩⟩⟩⟩⟩⟩
      · clear x1 x2 x3 x4 x5 x6 x7 x8 x9
        rintro δ' μ' ⟨rfl, x1, x2, x3, x4, x5, x6, x7, x8, x9, rfl⟩
        rw [hM]; clear hM M
        refine seq_cut fun M hM => ?_
        walk_at "wps"
        refine .inl ⟨_, S4_1 dis, _, rfl, .inl ⟨_, S4_2 dis, _, rfl, by decide, fun i δ' μ' => μ' = S4 μ p q1 q2 q3 c3 [rowsD (tabF n k (hullF k a)), rowsD (tabF n k (hullF k b))] [rowsD (tabF n k (coreF k a)), rowsD (tabF n k (coreF k b))] [D.bl (fairB k n a), D.bl (fairB k n b)] ∧ ∃ x1 x2 x3 x4 x5 x6 x7 x8 x9 : Option D, δ' = [some (.scr ns), some (.hd (.ref p)), some (.tup [.int n, .int k]), some (.int n), some (.int k), some (.lst ((ctxs n k).map Am.iT)), some (.lst [a.d, b.d]), some (.lst [aimO T.c_Aim a n k, aimO T.c_Aim b n k]), some (.hd (.ref q1)), some (.hd (.ref q2)), some (.hd (.ref q3)), x1, x2, x3, x4, x5, x6, x7, x8, x9], ⟨rfl, x1, x2, x3, x4, x5, x6, x7, x8, x9, rfl⟩, ?_, ?_⟩⟩
        · clear x1 x2 x3 x4 x5 x6 x7 x8 x9
          rintro i d δ' μ' hi ⟨rfl, x1, x2, x3, x4, x5, x6, x7, x8, x9, rfl⟩
          obtain ⟨f, hf, h1, h2, rfl⟩ : ∃ f : List Int → List Int, (∀ c, CtxOk n k c → Asc n 0 (f c)) ∧ (∀ c, hullL c (f c) = f c) ∧ (∀ c, coreL c (f c) = f c) ∧ d = rowsD (tabF n k f) := by
            rcases i with _ | _ | i
            · cases hi; exact ⟨hullF k a, fun c hc => asc_hullL hc, fun c => hull_hull c _, fun c => core_hull c _, rfl⟩
            · cases hi; exact ⟨coreF k b, fun c hc => asc_coreL hc, fun c => hull_core c _, fun c => core_core c _, rfl⟩
            · cases hi
          obtain ⟨e1, e2, e3⟩ := closed_tab hs hf h1 h2
          walk_at "wps"
          refine ⟨by decide, fun x hx => ⟨x, n, k, .table (tabF n k f), rfl, hs, tabF_ok hs hsm hf, by show 1 ≤ 6; decide, sset_same, rfl, NSA, _, sset_same, ?_⟩⟩
          rw [sset_sset, sdel_sset hx]
          exact ⟨n, k, .table (tabF n k f), _, _, _, rfl, ⟨hs, tabF_ok hs hsm hf, by show 1 ≤ 6; decide⟩, hsm, e1.symm, e2.symm, e3.symm, true, rfl, nofun, fun _ => ⟨rfl, _, _, _, _, _, _, _, _, _, rfl⟩⟩
        · clear x1 x2 x3 x4 x5 x6 x7 x8 x9
          rintro δ' μ' ⟨rfl, x1, x2, x3, x4, x5, x6, x7, x8, x9, rfl⟩
          rw [hM]; clear hM M
          refine seq_cut fun M hM => ?_
          walk_at "wps"
          have hnb : AmIn n k (.not b) := ⟨hs, hb.ok, by simp only [Am.dep]; omega⟩
          obtain ⟨n1', n2', n3'⟩ := not_tab (b := b) hs
          refine ⟨_, rfl, n, k, b, rfl, hb, hnb.dep, .inl ⟨_, S4_2 dis, _, rfl, n, tabF n k (coreF k b), rfl, by omega, by rw [tabF_len]; omega, .inl ⟨_, S4_1 dis, _, rfl, n, tabF n k (hullF k b), rfl, by omega, by rw [tabF_len]; omega, .inl ⟨_, S4_3, _, rfl, n, k, .not b, _, _, _, rfl, hnb, hsm, n1', n2', n3', true, rfl, nofun, fun _ => ?_⟩⟩⟩⟩
          refine ⟨p, ns, c3, rfl, S4_p dis, sc, fun c4 sc4 => ⟨true, rfl, nofun, fun _ => ?_⟩⟩
          rw [S4_wp dis, hM]; clear hM M
          refine seq_cut fun M hM => ?_
          walk_at "wps"
          refine ⟨by decide, fun q4 hq4 => ?_⟩
          rw [hM]; clear hM M
          refine seq_cut fun M hM => ?_
          walk_at "wps"
          refine ⟨by decide, fun q5 hq5 => ?_⟩
          rw [hM]; clear hM M
          refine seq_cut fun M hM => ?_
          obtain ⟨X, hX⟩ : ∃ X, X = S4 μ p q1 q2 q3 c4 [rowsD (tabF n k (hullF k a)), rowsD (tabF n k (hullF k b))] [rowsD (tabF n k (coreF k a)), rowsD (tabF n k (coreF k b))] [D.bl (fairB k n a), D.bl (fairB k n b)] := ⟨_, rfl⟩
          have X1 : X q1 = some (.lst [rowsD (tabF n k (hullF k a)), rowsD (tabF n k (hullF k b))]) := by rw [hX]; exact S4_1 dis
          have X2 : X q2 = some (.lst [rowsD (tabF n k (coreF k a)), rowsD (tabF n k (coreF k b))]) := by rw [hX]; exact S4_2 dis
          have X3 : X q3 = some (.lst [D.bl (fairB k n a), D.bl (fairB k n b)]) := by rw [hX]; exact S4_3
          have subX : Sub μ X := by
            rw [hX]
            unfold S4
            exact Sub.set (Sub.set (Sub.set (Sub.set Sub.refl hp) z1) z2) z3
          rw [← hX] at hq4 hq5 ⊢
          have n4 : ∀ {q : Addr} {c : Cell}, X q = some c → q ≠ q4 := fun h e => by rw [e, hq4] at h; cases h
          have n54 : q5 ≠ q4 := ne_of hq5
          have hq5' : X q5 = none := down hq5
          have n5 : ∀ {q : Addr} {c : Cell}, X q = some c → q ≠ q5 := fun h e => by rw [e, hq5'] at h; cases h
          have rd : ∀ {q : Addr} {c : Cell} {J I : Cell}, X q = some c → sset (sset X q4 J) q5 I q = some c := fun h => by rw [sset_ne (n5 h), sset_ne (n4 h), h]
          have rd4 : ∀ {J I : Cell}, sset (sset X q4 J) q5 I q4 = some J := by intro J I; rw [sset_ne (Ne.symm n54), sset_same]
          have w4 : ∀ {J I J' : Cell}, sset (sset (sset X q4 J) q5 I) q4 J' = sset (sset X q4 J') q5 I := by intro J I J'; rw [sset_comm (a := q5) (b := q4) n54, sset_sset]
          walk_at "wps"
          refine ⟨by omega, by omega, fun i δ' μ' => μ' = sset (sset X q4 (.lst (((tabF n k (orF n k a b)).take i).map Am.iT))) q5 (.lst (((tabF n k (andF k a b)).take i).map Am.iT)) ∧ ∃ x1 x2 x3 x6 x7 x8 x9 : Option D, δ' = [some (.scr ns), some (.hd (.ref p)), some (.tup [.int n, .int k]), some (.int n), some (.int k), some (.lst ((ctxs n k).map Am.iT)), some (.lst [a.d, b.d]), some (.lst [aimO T.c_Aim a n k, aimO T.c_Aim b n k]), some (.hd (.ref q1)), some (.hd (.ref q2)), some (.hd (.ref q3)), x1, x2, x3, some (.hd (.ref q4)), some (.hd (.ref q5)), x6, x7, x8, x9], ⟨rfl, x1, x2, x3, x6, x7, x8, x9, rfl⟩, ?_, ?_⟩
          · clear x1 x2 x3 x4 x5 x6 x7 x8 x9
            rintro i d δ' μ' hi ⟨rfl, x1, x2, x3, x6, x7, x8, x9, rfl⟩
            obtain ⟨hj, rfl⟩ := rngD_get hi
            obtain ⟨c, hc0⟩ : ∃ c, (ctxs n k)[i]? = some c := ⟨_, List.getElem?_eq_getElem hj⟩
            have hok := ctxs_ok n1 n64 k1 k4 (List.mem_of_getElem? hc0)
            walk_at "wps"
            refine ⟨_, rd4, by omega, by omega, ?_⟩
            rw [rngD_opts]
            refine lcZf (fun z => (hullF k a c).contains z || (hullF k b c).contains z) .int (by rw [optsI_len]; omega) (fun z μ2 X' Y hz hsub hx hy => ?_) ?_
            · walk_at "wps"
              have M1 : μ2 q1 = some (.lst [rowsD (tabF n k (hullF k a)), rowsD (tabF n k (hullF k b))]) := hsub _ _ (rd X1)
              refine .inl ⟨_, M1, _, rfl, ?_⟩
              unfold rowsD
              walk_at "wps"
              refine ⟨_, tab_at hc0, ?_⟩
              unfold Am.iT
              refine in_I ?_
              refine ⟨_, rfl, fun e1 => hx (by rw [e1]; rfl), fun e1 => .inl ⟨_, M1, _, rfl, ?_⟩⟩
              unfold rowsD
              walk_at "wps"
              refine ⟨_, tab_at hc0, ?_⟩
              unfold Am.iT
              refine in_I ?_
              exact ⟨_, rfl, fun e2 => hx (by rw [e1, e2]; rfl), fun e2 => hy (by rw [e1, e2]; rfl)⟩
            · refine ⟨_, .lst _, _, rd4, by rw [List.length_map, List.length_take, tabF_len]; omega, _, by rw [w4]; exact sset_same, .inl ⟨_, by rw [w4]; exact rd X2, _, rfl, ?_⟩⟩
              rw [w4]
              unfold rowsD
              walk_at "wps"
              refine ⟨_, tab_at hc0, ?_⟩
              unfold Am.iT
              walk_at "wps"
              have lc := asc_len (asc_coreL (g := goodL k a c) hok)
              refine lcZf (ws := coreF k a c) (fun z => (coreF k b c).contains z) .int (by show (coreL c (goodL k a c)).length ≤ _; omega) (fun z μ2 X' Y hz hsub hx hy => ?_) ?_
              · walk_at "wps"
                refine .inl ⟨_, hsub _ _ (rd X2), _, rfl, ?_⟩
                unfold rowsD
                walk_at "wps"
                refine ⟨_, tab_at hc0, ?_⟩
                unfold Am.iT
                refine in_I ?_
                walk_at "wps"
                exact ⟨hx, hy⟩
              · have e1 : (tabF n k (orF n k a b)).take (i + 1) = (tabF n k (orF n k a b)).take i ++ [orF n k a b c] := by rw [List.take_add_one, tabF_get, hc0]; rfl
                have e2 : (tabF n k (andF k a b)).take (i + 1) = (tabF n k (andF k a b)).take i ++ [andF k a b c] := by rw [List.take_add_one, tabF_get, hc0]; rfl
                refine ⟨_, .lst _, _, sset_same, by rw [List.length_map, List.length_take, tabF_len]; omega, ?_, _, _, _, _, _, _, _, rfl⟩
                rw [sset_sset, e1, e2, List.map_append, List.map_append]
                rfl
          · clear x1 x2 x3 x4 x5 x6 x7 x8 x9
            rintro δ' μ' ⟨rfl, x1, x2, x3, x6, x7, x8, x9, rfl⟩
            rw [hM]; clear hM M
            refine seq_cut fun M hM => ?_
            have z4 : μ q4 = none := by
              cases e : μ q4 with
              | none => rfl
              | some c => have := subX _ _ e; rw [hq4] at this; cases this
            have z5 : μ q5 = none := by
              cases e : μ q5 with
              | none => rfl
              | some c => have := subX _ _ e; rw [hq5'] at this; cases this
            walk_at "wps"
            rw [List.take_of_length_le (by rw [tabF_len]; omega), List.take_of_length_le (by rw [tabF_len]; omega)]
            have hor : AmIn n k (.either a b) := ⟨hs, ⟨ha.ok, hb.ok⟩, by simp only [Am.dep]; omega⟩
            have hand : AmIn n k (.both b a) := ⟨hs, ⟨hb.ok, ha.ok⟩, by simp only [Am.dep]; omega⟩
            have po := plain_aim (n := n) (k := k) (plain_tabF (f := hullF k (.either a b)) hs hsm fun c hc => asc_hullL hc)
            have pc := plain_aim (n := n) (k := k) (plain_tabF (f := coreF k (.both b a)) hs hsm fun c hc => asc_coreL hc)
            refine ⟨_, _, rfl, rfl, n, k, a, b, rfl, ha, hb, hor.dep, ⟨_, _, _, rfl⟩, 1, n, k, .either a b, rfl, by decide, hor, fun _ => .inl ⟨_, rd4, by decide, .inl ⟨_, rd4, by decide, ?_⟩⟩, fun z => absurd hsm z⟩
            show c__law_same 30 [aimD n k (tabF n k (hullF k (.either a b))), aimD n k (tabF n k (orF n k a b))] _ _ _
            rw [or_tab hs]
            refine same_at po po (Nat.le_trans dep_aim (by decide)) ?_
            rw [same_refl _ po]
            refine ⟨true, rfl, nofun, fun _ => ?_⟩
            rw [hM]; clear hM M
            refine seq_cut fun M hM => ?_
            walk_at "wps"
            refine ⟨_, _, rfl, rfl, n, k, b, a, rfl, hb, ha, hand.dep, ⟨_, _, _, rfl⟩, 2, n, k, .both b a, rfl, by decide, hand, fun _ => .inl ⟨_, sset_same, by decide, .inl ⟨_, sset_same, by decide, ?_⟩⟩, fun z => absurd hsm z⟩
            show c__law_same 30 [aimD n k (tabF n k (coreF k (.both b a))), aimD n k (tabF n k (andF k a b))] _ _ _
            rw [and_tab]
            refine same_at pc pc (Nat.le_trans dep_aim (by decide)) ?_
            rw [same_refl _ pc]
            refine ⟨true, rfl, nofun, fun _ => ?_⟩
            rw [hM]; clear hM M
            walk_at "wps"
            refine .inl ⟨_, rd X1, _, rfl, .inl ⟨_, rd X2, _, rfl, .inl ⟨_, rd X3, _, rfl, ac a ha _ _ _ ⟨true, rfl, ?_⟩⟩⟩⟩
            have pa := plain_am hs a ha.ok
            unfold aimO
            refine ⟨fun _ => ⟨_, _, rfl, rfl, ?_⟩, fun z => by simp at z⟩
            refine same_at pa pa (Nat.le_trans (depD_am a) (by omega)) ?_
            rw [same_refl _ pa]
            exact ⟨μ, Sub.set (Sub.set subX z4) z5, h⟩
end
end LW
set_option Elab.async false
set_option linter.all false
set_option maxRecDepth 100000
set_option maxHeartbeats 4000000
namespace LW
open PySem PySem.Spec L2 DW PyProof.Rows NdefX
theorem kit_refS {K : PySem.W.Frag} {R C : Addr} {b : Bool} (h0 : PySem.W.subIn K (.ref R) (.ref R) = some true) (h1 : PySem.W.isClsIn K C = true) (h2 : PySem.W.typeIn K (.ref C) = some (.type "type")) (h3 : PySem.W.subIn K (.ref R) (.ref C) = some b) : PySem.W.kitOne K (.ref R) (.ref C) = some b := by
  unfold PySem.W.kitOne
  by_cases e : R = C
  · subst e
    rw [h0] at h3
    rw [if_pos (by simp)]
    exact h3
  · rw [if_neg (by simp [e])]
    have h1' : (PySem.W.clsIn K C).isSome = true := h1
    show (if ((PySem.W.clsIn K C).isSome && PySem.W.typeIn K (.ref C) == some (.type "type")) = true then PySem.W.subIn K (.ref R) (.ref C) else none) = some b
    rw [if_pos (by rw [h1', h2] <;> rfl)]
    exact h3
theorem kit_tyS {K : PySem.W.Frag} {R : Addr} {T : String} {b : Bool} (h1 : PySem.W.kitMeta T = true) (h3 : PySem.W.subIn K (.ref R) (.type T) = some b) : PySem.W.kitOne K (.ref R) (.type T) = some b := by
  unfold PySem.W.kitOne
  rw [if_neg (by simp)]
  show (if PySem.W.kitMeta T = true then PySem.W.subIn K (.ref R) (.type T) else none) = some b
  rw [if_pos h1]
  exact h3
abbrev si_InvalidTerm : Stmt := (C8.clsBody (topS 3)).getD 0 (.Pass ⟨0, 0, 0, 0⟩)
theorem sci_InvalidTerm : NScope ["self", "path", "__class__"] ["self", "path"] ["__class__"] (defScope si_InvalidTerm) := nscope_by (by decide +kernel)
theorem okinit_InvalidTerm {CX : CXT} {P : Program} {w : World} {K : Fg} {mg : Str → Option Value} {base : Heap} {f C D cc cda : Addr} {file : Str} {kV doc pm ct oc : Value} {an od : Option Addr} {osl : Array (Option Value)}
    (lk : K.lookup f = some ⟨oc, od, .func (PySem.W.ksFn "__init__" "InvalidTerm.__init__" (defArgs si_InvalidTerm) (defBody si_InvalidTerm) (defScope si_InvalidTerm) .none kV doc pm an (.ref cda) ct cc), osl⟩)
    (hcd : PySem.W.codeIn K (.ref cda) "InvalidTerm.__init__" = true) (T : SupC K C D cc f cda file) (hfile : ((P.main.file : Str) == file) = true) (htop : (P.main.scope.names.lookup ("super" : Str)).isSome = false) (hms : mg "super" = none) :
    FnOk P w K mg base CX 1 f (PySem.W.ksFn "__init__" "InvalidTerm.__init__" (defArgs si_InvalidTerm) (defBody si_InvalidTerm) (defScope si_InvalidTerm) .none kV doc pm an (.ref cda) ct cc) ["self", "path"] (spInit K C "path" (okPath K)) :=
  sup_fn (k := 0) lk hcd sci_InvalidTerm T rfl rfl hfile htop hms rfl (by decide) fun X hP hw hK hN hsc hL hr => by
    obtain ⟨L, hL⟩ := hL
    have v0 : ∀ p, PE X (.Name "self" p) (tVar 0) := fun p => pv 0 (hN := by rw [hN]; rfl) (hv := .inl (by rw [hsc]; rfl))
    have v1 : ∀ p, PE X (.Name "path" p) (tVar 1) := fun p => pv 1 (hN := by rw [hN]; rfl) (hv := .inl (by rw [hsc]; rfl))
    subst hK
    exact ⟨msg_path hr (by decide) (by decide) (v1 _), by rw [hL]; rfl, by rw [hL]; rfl, by rw [hL]; rfl, by rw [hL]; rfl, ⟨_, by rw [hL]; rfl⟩, by rw [hL]; rfl, v0 _, v1 _⟩
open PyProof.Rows in
theorem all_mk {P : Program} {w : World} {K : PySem.W.Frag} {h : Heap} {mg : Str → Option Value} {fa f0 f1 f2 f3 f4 f5 f6 f7 f8 f9 f10 f11 f12 f13 f14 f15 f16 f17 f18 f19 f20 f21 f22 f23 f24 f25 f26 f27 f28 f29 f30 f31 f32 f33 f34 f35 f36 f37 f38 f39 f40 f41 f42 f43 f44 f45 f46 f47 f48 f49 f50 f51 f52 f53 f54 f55 f56 f57 f58 f59 f60 f61 f62 f63 f64 f65 f66 f67 f68 f69 f70 f71 f72 f73 c_OutOfRange c_SizeMismatch c_InvalidAim c_InvalidContext c_TooLarge c_InvalidTerm c_ChoosersError c_Aim c_SHAPES c_RULES : Addr} (X : K.In h) (G : h.Ns mainGlobals mg) (hfa : mg "law" = some (.ref fa))
    {od0 an0 od1 an1 od2 an2 od3 an3 od4 an4 od5 an5 od6 an6 od7 an7 od8 an8 od9 an9 od10 an10 od11 an11 od12 an12 od13 an13 od14 an14 od15 an15 od16 an16 od17 an17 od18 an18 od19 an19 od20 an20 od21 an21 od22 an22 od23 an23 od24 an24 od25 an25 od26 an26 od27 an27 od28 an28 od29 an29 od30 an30 od31 an31 od32 an32 od33 an33 od34 an34 od35 an35 od36 an36 od37 an37 od38 an38 od39 an39 od40 an40 od41 an41 od42 an42 od43 an43 od44 an44 od45 an45 od46 an46 od47 an47 od48 an48 od49 an49 od50 an50 od51 an51 od52 an52 od53 an53 od54 an54 od55 an55 od56 an56 od57 an57 od58 an58 od59 an59 od60 an60 od61 an61 od62 an62 od63 an63 od64 an64 od65 an65 od66 an66 od67 an67 od68 an68 od69 an69 od70 an70 od71 an71 od72 an72 od73 an73 : Option Addr} {sl0 sl1 sl2 sl3 sl4 sl5 sl6 sl7 sl8 sl9 sl10 sl11 sl12 sl13 sl14 sl15 sl16 sl17 sl18 sl19 sl20 sl21 sl22 sl23 sl24 sl25 sl26 sl27 sl28 sl29 sl30 sl31 sl32 sl33 sl34 sl35 sl36 sl37 sl38 sl39 sl40 sl41 sl42 sl43 sl44 sl45 sl46 sl47 sl48 sl49 sl50 sl51 sl52 sl53 sl54 sl55 sl56 sl57 sl58 sl59 sl60 sl61 sl62 sl63 sl64 sl65 sl66 sl67 sl68 sl69 sl70 sl71 sl72 sl73 : Array (Option Value)} {oc0 kV0 dc0 pm0 cd0 ct0 oc1 kV1 dc1 pm1 cd1 ct1 oc2 kV2 dc2 pm2 cd2 ct2 oc3 kV3 dc3 pm3 cd3 ct3 oc4 kV4 dc4 pm4 cd4 ct4 oc5 kV5 dc5 pm5 cd5 ct5 oc6 kV6 dc6 pm6 cd6 ct6 oc7 kV7 dc7 pm7 cd7 ct7 oc8 kV8 dc8 pm8 cd8 ct8 oc9 kV9 dc9 pm9 cd9 ct9 oc10 kV10 dc10 pm10 cd10 ct10 oc11 kV11 dc11 pm11 cd11 ct11 oc12 kV12 dc12 pm12 cd12 ct12 oc13 kV13 dc13 pm13 cd13 ct13 oc14 kV14 dc14 pm14 cd14 ct14 oc15 kV15 dc15 pm15 cd15 ct15 oc16 kV16 dc16 pm16 cd16 ct16 oc17 kV17 dc17 pm17 cd17 ct17 oc18 kV18 dc18 pm18 cd18 ct18 oc19 kV19 dc19 pm19 cd19 ct19 oc20 kV20 dc20 pm20 cd20 ct20 oc21 kV21 dc21 pm21 cd21 ct21 oc22 kV22 dc22 pm22 cd22 ct22 oc23 kV23 dc23 pm23 cd23 ct23 oc24 kV24 dc24 pm24 cd24 ct24 oc25 kV25 dc25 pm25 cd25 ct25 oc26 kV26 dc26 pm26 cd26 ct26 oc27 kV27 dc27 pm27 cd27 ct27 oc28 kV28 dc28 pm28 cd28 ct28 oc29 kV29 dc29 pm29 cd29 ct29 oc30 kV30 dc30 pm30 cd30 ct30 oc31 kV31 dc31 pm31 cd31 ct31 oc32 kV32 dc32 pm32 cd32 ct32 oc33 kV33 dc33 pm33 cd33 ct33 oc34 kV34 dc34 pm34 cd34 ct34 oc35 kV35 dc35 pm35 cd35 ct35 oc36 kV36 dc36 pm36 cd36 ct36 oc37 kV37 dc37 pm37 cd37 ct37 oc38 kV38 dc38 pm38 cd38 ct38 oc39 kV39 dc39 pm39 cd39 ct39 oc40 kV40 dc40 pm40 cd40 ct40 oc41 kV41 dc41 pm41 cd41 ct41 oc42 kV42 dc42 pm42 cd42 ct42 oc43 kV43 dc43 pm43 cd43 ct43 oc44 kV44 dc44 pm44 cd44 ct44 oc45 kV45 dc45 pm45 cd45 ct45 oc46 kV46 dc46 pm46 cd46 ct46 oc47 kV47 dc47 pm47 cd47 ct47 oc48 kV48 dc48 pm48 cd48 ct48 oc49 kV49 dc49 pm49 cd49 ct49 oc50 kV50 dc50 pm50 cd50 ct50 oc51 kV51 dc51 pm51 cd51 ct51 oc52 kV52 dc52 pm52 cd52 ct52 oc53 kV53 dc53 pm53 cd53 ct53 oc54 kV54 dc54 pm54 cd54 ct54 oc55 kV55 dc55 pm55 cd55 ct55 oc56 kV56 dc56 pm56 cd56 ct56 oc57 kV57 dc57 pm57 cd57 ct57 oc58 kV58 dc58 pm58 cd58 ct58 oc59 kV59 dc59 pm59 cd59 ct59 oc60 kV60 dc60 pm60 cd60 ct60 oc61 kV61 dc61 pm61 cd61 ct61 oc62 kV62 dc62 pm62 cd62 ct62 oc63 kV63 dc63 pm63 cd63 ct63 oc64 kV64 dc64 pm64 cd64 ct64 oc65 kV65 dc65 pm65 cd65 ct65 oc66 kV66 dc66 pm66 cd66 ct66 oc67 kV67 dc67 pm67 cd67 ct67 oc68 kV68 dc68 pm68 cd68 ct68 oc69 kV69 dc69 pm69 cd69 ct69 oc70 kV70 dc70 pm70 cd70 ct70 oc71 kV71 dc71 pm71 cd71 ct71 oc72 kV72 dc72 pm72 cd72 ct72 oc73 kV73 dc73 pm73 cd73 ct73 : Value} {tk_LETTERS : Tok} {tk_DIGITS : Tok} {tk_LONGEST_WORD : Tok} {tk_LONGEST_NUMBER : Tok} {tk_NUMBERS_END : Tok} {tk_DEEPEST_TUPLE : Tok} {tk_MOST_OPTIONS : Tok} {tk_MOST_OUTCOMES : Tok} {tk_MOST_SMALL_OPTIONS : Tok} {tk_MOST_SMALL_CONTEXTS : Tok} {tk_DEEPEST_AIM : Tok} {tk_RANKS_END : Tok} {fi_InvalidAim cda_InvalidAim cc_InvalidAim ns_InvalidAim : Addr} {oci_InvalidAim kVi_InvalidAim dci_InvalidAim pmi_InvalidAim cti_InvalidAim clc_InvalidAim ccl_InvalidAim : Value} {odi_InvalidAim ani_InvalidAim cld_InvalidAim cdd_InvalidAim dd_InvalidAim : Option Addr} {sli_InvalidAim csl_InvalidAim ccs_InvalidAim : Array (Option Value)} {vs_InvalidAim : Array Value} {fl_InvalidAim nm_InvalidAim qn_InvalidAim : Str} {tf_InvalidAim : Tok} {bs_InvalidAim bm_InvalidAim sb2_InvalidAim : List Value} {sn_InvalidAim : List Str} {ab_InvalidAim : Bool} {col_InvalidAim : Option Bool} {k0_InvalidAim k1_InvalidAim k2_InvalidAim k3_InvalidAim k5_InvalidAim : Option Value} {es_SHAPES : Array DictEntry} {n_SHAPES : Nat} {t_SHAPES_0 : Addr} {its_SHAPES_0 : Array Value} {nn_SHAPES_0 : Nat} {sl_SHAPES_0 : Array (Option Value)} {t_SHAPES_1 : Addr} {its_SHAPES_1 : Array Value} {nn_SHAPES_1 : Nat} {sl_SHAPES_1 : Array (Option Value)} {t_SHAPES_2 : Addr} {its_SHAPES_2 : Array Value} {nn_SHAPES_2 : Nat} {sl_SHAPES_2 : Array (Option Value)} {t_SHAPES_3 : Addr} {its_SHAPES_3 : Array Value} {nn_SHAPES_3 : Nat} {sl_SHAPES_3 : Array (Option Value)} {t_SHAPES_4 : Addr} {its_SHAPES_4 : Array Value} {nn_SHAPES_4 : Nat} {sl_SHAPES_4 : Array (Option Value)} {t_SHAPES_5 : Addr} {its_SHAPES_5 : Array Value} {nn_SHAPES_5 : Nat} {sl_SHAPES_5 : Array (Option Value)} {t_SHAPES_6 : Addr} {its_SHAPES_6 : Array Value} {nn_SHAPES_6 : Nat} {sl_SHAPES_6 : Array (Option Value)} {t_SHAPES_7 : Addr} {its_SHAPES_7 : Array Value} {nn_SHAPES_7 : Nat} {sl_SHAPES_7 : Array (Option Value)} {t_SHAPES_8 : Addr} {its_SHAPES_8 : Array Value} {nn_SHAPES_8 : Nat} {sl_SHAPES_8 : Array (Option Value)} {t_SHAPES_9 : Addr} {its_SHAPES_9 : Array Value} {nn_SHAPES_9 : Nat} {sl_SHAPES_9 : Array (Option Value)} {t_SHAPES_10 : Addr} {its_SHAPES_10 : Array Value} {nn_SHAPES_10 : Nat} {sl_SHAPES_10 : Array (Option Value)} {t_SHAPES_11 : Addr} {its_SHAPES_11 : Array Value} {nn_SHAPES_11 : Nat} {sl_SHAPES_11 : Array (Option Value)} {t_SHAPES_12 : Addr} {its_SHAPES_12 : Array Value} {nn_SHAPES_12 : Nat} {sl_SHAPES_12 : Array (Option Value)} {t_SHAPES_13 : Addr} {its_SHAPES_13 : Array Value} {nn_SHAPES_13 : Nat} {sl_SHAPES_13 : Array (Option Value)} {t_SHAPES_14 : Addr} {its_SHAPES_14 : Array Value} {nn_SHAPES_14 : Nat} {sl_SHAPES_14 : Array (Option Value)} {t_SHAPES_15 : Addr} {its_SHAPES_15 : Array Value} {nn_SHAPES_15 : Nat} {sl_SHAPES_15 : Array (Option Value)} {t_SHAPES_16 : Addr} {its_SHAPES_16 : Array Value} {nn_SHAPES_16 : Nat} {sl_SHAPES_16 : Array (Option Value)} {t_SHAPES_17 : Addr} {its_SHAPES_17 : Array Value} {nn_SHAPES_17 : Nat} {sl_SHAPES_17 : Array (Option Value)} {es_RULES : Array DictEntry} {n_RULES : Nat}
    (g_Aim : PySem.W.nsIn K mainGlobals "Aim" = some (some (.ref c_Aim)))
    (a0 : PySem.W.nsIn K mainGlobals "is_number" = some (some (.ref f0)))
    (l0 : K.lookup f0 = some ⟨oc0, od0, .func (PySem.W.fnOf "is_number" "is_number" (defArgs s_is_number) (defBody s_is_number) (defScope s_is_number) .none kV0 dc0 pm0 an0 cd0 ct0), sl0⟩)
    (c0 : PySem.W.codeIn K cd0 "is_number" = true)
    (k0 : PySem.W.keepIn K (.ref f0) = true)
    (a1 : PySem.W.nsIn K mainGlobals "is_below" = some (some (.ref f1)))
    (l1 : K.lookup f1 = some ⟨oc1, od1, .func (PySem.W.fnOf "is_below" "is_below" (defArgs s_is_below) (defBody s_is_below) (defScope s_is_below) .none kV1 dc1 pm1 an1 cd1 ct1), sl1⟩)
    (c1 : PySem.W.codeIn K cd1 "is_below" = true)
    (k1 : PySem.W.keepIn K (.ref f1) = true)
    (a2 : PySem.W.nsIn K mainGlobals "count_choices" = some (some (.ref f2)))
    (l2 : K.lookup f2 = some ⟨oc2, od2, .func (PySem.W.fnOf "count_choices" "count_choices" (defArgs s_count_choices) (defBody s_count_choices) (defScope s_count_choices) .none kV2 dc2 pm2 an2 cd2 ct2), sl2⟩)
    (c2 : PySem.W.codeIn K cd2 "count_choices" = true)
    (k2 : PySem.W.keepIn K (.ref f2) = true)
    (a3 : PySem.W.nsIn K mainGlobals "choice_index" = some (some (.ref f3)))
    (l3 : K.lookup f3 = some ⟨oc3, od3, .func (PySem.W.fnOf "choice_index" "choice_index" (defArgs s_choice_index) (defBody s_choice_index) (defScope s_choice_index) .none kV3 dc3 pm3 an3 cd3 ct3), sl3⟩)
    (c3 : PySem.W.codeIn K cd3 "choice_index" = true)
    (k3 : PySem.W.keepIn K (.ref f3) = true)
    (a4 : PySem.W.nsIn K mainGlobals "has_outcomes" = some (some (.ref f4)))
    (l4 : K.lookup f4 = some ⟨oc4, od4, .func (PySem.W.fnOf "has_outcomes" "has_outcomes" (defArgs s_has_outcomes) (defBody s_has_outcomes) (defScope s_has_outcomes) .none kV4 dc4 pm4 an4 cd4 ct4), sl4⟩)
    (c4 : PySem.W.codeIn K cd4 "has_outcomes" = true)
    (k4 : PySem.W.keepIn K (.ref f4) = true)
    (a5 : PySem.W.nsIn K mainGlobals "is_size" = some (some (.ref f5)))
    (l5 : K.lookup f5 = some ⟨oc5, od5, .func (PySem.W.fnOf "is_size" "is_size" (defArgs s_is_size) (defBody s_is_size) (defScope s_is_size) .none kV5 dc5 pm5 an5 cd5 ct5), sl5⟩)
    (c5 : PySem.W.codeIn K cd5 "is_size" = true)
    (k5 : PySem.W.keepIn K (.ref f5) = true)
    (a6 : PySem.W.nsIn K mainGlobals "is_small" = some (some (.ref f6)))
    (l6 : K.lookup f6 = some ⟨oc6, od6, .func (PySem.W.fnOf "is_small" "is_small" (defArgs s_is_small) (defBody s_is_small) (defScope s_is_small) .none kV6 dc6 pm6 an6 cd6 ct6), sl6⟩)
    (c6 : PySem.W.codeIn K cd6 "is_small" = true)
    (k6 : PySem.W.keepIn K (.ref f6) = true)
    (a7 : PySem.W.nsIn K mainGlobals "require_same_size" = some (some (.ref f7)))
    (l7 : K.lookup f7 = some ⟨oc7, od7, .func (PySem.W.fnOf "require_same_size" "require_same_size" (defArgs s_require_same_size) (defBody s_require_same_size) (defScope s_require_same_size) .none kV7 dc7 pm7 an7 cd7 ct7), sl7⟩)
    (c7 : PySem.W.codeIn K cd7 "require_same_size" = true)
    (k7 : PySem.W.keepIn K (.ref f7) = true)
    (a8 : PySem.W.nsIn K mainGlobals "count_contexts" = some (some (.ref f8)))
    (l8 : K.lookup f8 = some ⟨oc8, od8, .func (PySem.W.fnOf "count_contexts" "count_contexts" (defArgs s_count_contexts) (defBody s_count_contexts) (defScope s_count_contexts) .none kV8 dc8 pm8 an8 cd8 ct8), sl8⟩)
    (c8 : PySem.W.codeIn K cd8 "count_contexts" = true)
    (k8 : PySem.W.keepIn K (.ref f8) = true)
    (a9 : PySem.W.nsIn K mainGlobals "rows_through" = some (some (.ref f9)))
    (l9 : K.lookup f9 = some ⟨oc9, od9, .func (PySem.W.fnOf "rows_through" "rows_through" (defArgs s_rows_through) (defBody s_rows_through) (defScope s_rows_through) .none kV9 dc9 pm9 an9 cd9 ct9), sl9⟩)
    (c9 : PySem.W.codeIn K cd9 "rows_through" = true)
    (k9 : PySem.W.keepIn K (.ref f9) = true)
    (a10 : PySem.W.nsIn K mainGlobals "all_contexts" = some (some (.ref f10)))
    (l10 : K.lookup f10 = some ⟨oc10, od10, .func (PySem.W.fnOf "all_contexts" "all_contexts" (defArgs s_all_contexts) (defBody s_all_contexts) (defScope s_all_contexts) .none kV10 dc10 pm10 an10 cd10 ct10), sl10⟩)
    (c10 : PySem.W.codeIn K cd10 "all_contexts" = true)
    (k10 : PySem.W.keepIn K (.ref f10) = true)
    (a11 : PySem.W.nsIn K mainGlobals "is_context" = some (some (.ref f11)))
    (l11 : K.lookup f11 = some ⟨oc11, od11, .func (PySem.W.fnOf "is_context" "is_context" (defArgs s_is_context) (defBody s_is_context) (defScope s_is_context) .none kV11 dc11 pm11 an11 cd11 ct11), sl11⟩)
    (c11 : PySem.W.codeIn K cd11 "is_context" = true)
    (k11 : PySem.W.keepIn K (.ref f11) = true)
    (a12 : PySem.W.nsIn K mainGlobals "context_index" = some (some (.ref f12)))
    (l12 : K.lookup f12 = some ⟨oc12, od12, .func (PySem.W.fnOf "context_index" "context_index" (defArgs s_context_index) (defBody s_context_index) (defScope s_context_index) .none kV12 dc12 pm12 an12 cd12 ct12), sl12⟩)
    (c12 : PySem.W.codeIn K cd12 "context_index" = true)
    (k12 : PySem.W.keepIn K (.ref f12) = true)
    (a13 : PySem.W.nsIn K mainGlobals "options_with" = some (some (.ref f13)))
    (l13 : K.lookup f13 = some ⟨oc13, od13, .func (PySem.W.fnOf "options_with" "options_with" (defArgs s_options_with) (defBody s_options_with) (defScope s_options_with) .none kV13 dc13 pm13 an13 cd13 ct13), sl13⟩)
    (c13 : PySem.W.codeIn K cd13 "options_with" = true)
    (k13 : PySem.W.keepIn K (.ref f13) = true)
    (a14 : PySem.W.nsIn K mainGlobals "has_shape" = some (some (.ref f14)))
    (l14 : K.lookup f14 = some ⟨oc14, od14, .func (PySem.W.fnOf "has_shape" "has_shape" (defArgs s_has_shape) (defBody s_has_shape) (defScope s_has_shape) .none kV14 dc14 pm14 an14 cd14 ct14), sl14⟩)
    (c14 : PySem.W.codeIn K cd14 "has_shape" = true)
    (k14 : PySem.W.keepIn K (.ref f14) = true)
    (a15 : PySem.W.nsIn K mainGlobals "any_flags" = some (some (.ref f15)))
    (l15 : K.lookup f15 = some ⟨oc15, od15, .func (PySem.W.fnOf "any_flags" "any_flags" (defArgs s_any_flags) (defBody s_any_flags) (defScope s_any_flags) .none kV15 dc15 pm15 an15 cd15 ct15), sl15⟩)
    (c15 : PySem.W.codeIn K cd15 "any_flags" = true)
    (k15 : PySem.W.keepIn K (.ref f15) = true)
    (a16 : PySem.W.nsIn K mainGlobals "best_flags" = some (some (.ref f16)))
    (l16 : K.lookup f16 = some ⟨oc16, od16, .func (PySem.W.fnOf "best_flags" "best_flags" (defArgs s_best_flags) (defBody s_best_flags) (defScope s_best_flags) .none kV16 dc16 pm16 an16 cd16 ct16), sl16⟩)
    (c16 : PySem.W.codeIn K cd16 "best_flags" = true)
    (k16 : PySem.W.keepIn K (.ref f16) = true)
    (a17 : PySem.W.nsIn K mainGlobals "second_flags" = some (some (.ref f17)))
    (l17 : K.lookup f17 = some ⟨oc17, od17, .func (PySem.W.fnOf "second_flags" "second_flags" (defArgs s_second_flags) (defBody s_second_flags) (defScope s_second_flags) .none kV17 dc17 pm17 an17 cd17 ct17), sl17⟩)
    (c17 : PySem.W.codeIn K cd17 "second_flags" = true)
    (k17 : PySem.W.keepIn K (.ref f17) = true)
    (a18 : PySem.W.nsIn K mainGlobals "most_flags" = some (some (.ref f18)))
    (l18 : K.lookup f18 = some ⟨oc18, od18, .func (PySem.W.fnOf "most_flags" "most_flags" (defArgs s_most_flags) (defBody s_most_flags) (defScope s_most_flags) .none kV18 dc18 pm18 an18 cd18 ct18), sl18⟩)
    (c18 : PySem.W.codeIn K cd18 "most_flags" = true)
    (k18 : PySem.W.keepIn K (.ref f18) = true)
    (a19 : PySem.W.nsIn K mainGlobals "fewest_flags" = some (some (.ref f19)))
    (l19 : K.lookup f19 = some ⟨oc19, od19, .func (PySem.W.fnOf "fewest_flags" "fewest_flags" (defArgs s_fewest_flags) (defBody s_fewest_flags) (defScope s_fewest_flags) .none kV19 dc19 pm19 an19 cd19 ct19), sl19⟩)
    (c19 : PySem.W.codeIn K cd19 "fewest_flags" = true)
    (k19 : PySem.W.keepIn K (.ref f19) = true)
    (a20 : PySem.W.nsIn K mainGlobals "fixed_flags" = some (some (.ref f20)))
    (l20 : K.lookup f20 = some ⟨oc20, od20, .func (PySem.W.fnOf "fixed_flags" "fixed_flags" (defArgs s_fixed_flags) (defBody s_fixed_flags) (defScope s_fixed_flags) .none kV20 dc20 pm20 an20 cd20 ct20), sl20⟩)
    (c20 : PySem.W.codeIn K cd20 "fixed_flags" = true)
    (k20 : PySem.W.keepIn K (.ref f20) = true)
    (a21 : PySem.W.nsIn K mainGlobals "like_flags" = some (some (.ref f21)))
    (l21 : K.lookup f21 = some ⟨oc21, od21, .func (PySem.W.fnOf "like_flags" "like_flags" (defArgs s_like_flags) (defBody s_like_flags) (defScope s_like_flags) .none kV21 dc21 pm21 an21 cd21 ct21), sl21⟩)
    (c21 : PySem.W.codeIn K cd21 "like_flags" = true)
    (k21 : PySem.W.keepIn K (.ref f21) = true)
    (a22 : PySem.W.nsIn K mainGlobals "unlike_flags" = some (some (.ref f22)))
    (l22 : K.lookup f22 = some ⟨oc22, od22, .func (PySem.W.fnOf "unlike_flags" "unlike_flags" (defArgs s_unlike_flags) (defBody s_unlike_flags) (defScope s_unlike_flags) .none kV22 dc22 pm22 an22 cd22 ct22), sl22⟩)
    (c22 : PySem.W.codeIn K cd22 "unlike_flags" = true)
    (k22 : PySem.W.keepIn K (.ref f22) = true)
    (a23 : PySem.W.nsIn K mainGlobals "among_flags" = some (some (.ref f23)))
    (l23 : K.lookup f23 = some ⟨oc23, od23, .func (PySem.W.fnOf "among_flags" "among_flags" (defArgs s_among_flags) (defBody s_among_flags) (defScope s_among_flags) .none kV23 dc23 pm23 an23 cd23 ct23), sl23⟩)
    (c23 : PySem.W.codeIn K cd23 "among_flags" = true)
    (k23 : PySem.W.keepIn K (.ref f23) = true)
    (a24 : PySem.W.nsIn K mainGlobals "only_flags" = some (some (.ref f24)))
    (l24 : K.lookup f24 = some ⟨oc24, od24, .func (PySem.W.fnOf "only_flags" "only_flags" (defArgs s_only_flags) (defBody s_only_flags) (defScope s_only_flags) .none kV24 dc24 pm24 an24 cd24 ct24), sl24⟩)
    (c24 : PySem.W.codeIn K cd24 "only_flags" = true)
    (k24 : PySem.W.keepIn K (.ref f24) = true)
    (a25 : PySem.W.nsIn K mainGlobals "table_flags" = some (some (.ref f25)))
    (l25 : K.lookup f25 = some ⟨oc25, od25, .func (PySem.W.fnOf "table_flags" "table_flags" (defArgs s_table_flags) (defBody s_table_flags) (defScope s_table_flags) .none kV25 dc25 pm25 an25 cd25 ct25), sl25⟩)
    (c25 : PySem.W.codeIn K cd25 "table_flags" = true)
    (k25 : PySem.W.keepIn K (.ref f25) = true)
    (a26 : PySem.W.nsIn K mainGlobals "either_flags" = some (some (.ref f26)))
    (l26 : K.lookup f26 = some ⟨oc26, od26, .func (PySem.W.fnOf "either_flags" "either_flags" (defArgs s_either_flags) (defBody s_either_flags) (defScope s_either_flags) .none kV26 dc26 pm26 an26 cd26 ct26), sl26⟩)
    (c26 : PySem.W.codeIn K cd26 "either_flags" = true)
    (k26 : PySem.W.keepIn K (.ref f26) = true)
    (a27 : PySem.W.nsIn K mainGlobals "both_flags" = some (some (.ref f27)))
    (l27 : K.lookup f27 = some ⟨oc27, od27, .func (PySem.W.fnOf "both_flags" "both_flags" (defArgs s_both_flags) (defBody s_both_flags) (defScope s_both_flags) .none kV27 dc27 pm27 an27 cd27 ct27), sl27⟩)
    (c27 : PySem.W.codeIn K cd27 "both_flags" = true)
    (k27 : PySem.W.keepIn K (.ref f27) = true)
    (a28 : PySem.W.nsIn K mainGlobals "else_flags" = some (some (.ref f28)))
    (l28 : K.lookup f28 = some ⟨oc28, od28, .func (PySem.W.fnOf "else_flags" "else_flags" (defArgs s_else_flags) (defBody s_else_flags) (defScope s_else_flags) .none kV28 dc28 pm28 an28 cd28 ct28), sl28⟩)
    (c28 : PySem.W.codeIn K cd28 "else_flags" = true)
    (k28 : PySem.W.keepIn K (.ref f28) = true)
    (a29 : PySem.W.nsIn K mainGlobals "not_flags" = some (some (.ref f29)))
    (l29 : K.lookup f29 = some ⟨oc29, od29, .func (PySem.W.fnOf "not_flags" "not_flags" (defArgs s_not_flags) (defBody s_not_flags) (defScope s_not_flags) .none kV29 dc29 pm29 an29 cd29 ct29), sl29⟩)
    (c29 : PySem.W.codeIn K cd29 "not_flags" = true)
    (k29 : PySem.W.keepIn K (.ref f29) = true)
    (a30 : PySem.W.nsIn K mainGlobals "first_flags" = some (some (.ref f30)))
    (l30 : K.lookup f30 = some ⟨oc30, od30, .func (PySem.W.fnOf "first_flags" "first_flags" (defArgs s_first_flags) (defBody s_first_flags) (defScope s_first_flags) .none kV30 dc30 pm30 an30 cd30 ct30), sl30⟩)
    (c30 : PySem.W.codeIn K cd30 "first_flags" = true)
    (k30 : PySem.W.keepIn K (.ref f30) = true)
    (a31 : PySem.W.nsIn K mainGlobals "recode_flags" = some (some (.ref f31)))
    (l31 : K.lookup f31 = some ⟨oc31, od31, .func (PySem.W.fnOf "recode_flags" "recode_flags" (defArgs s_recode_flags) (defBody s_recode_flags) (defScope s_recode_flags) .none kV31 dc31 pm31 an31 cd31 ct31), sl31⟩)
    (c31 : PySem.W.codeIn K cd31 "recode_flags" = true)
    (k31 : PySem.W.keepIn K (.ref f31) = true)
    (a32 : PySem.W.nsIn K mainGlobals "reorder_flags" = some (some (.ref f32)))
    (l32 : K.lookup f32 = some ⟨oc32, od32, .func (PySem.W.fnOf "reorder_flags" "reorder_flags" (defArgs s_reorder_flags) (defBody s_reorder_flags) (defScope s_reorder_flags) .none kV32 dc32 pm32 an32 cd32 ct32), sl32⟩)
    (c32 : PySem.W.codeIn K cd32 "reorder_flags" = true)
    (k32 : PySem.W.keepIn K (.ref f32) = true)
    (a33 : PySem.W.nsIn K mainGlobals "good_flags" = some (some (.ref f33)))
    (l33 : K.lookup f33 = some ⟨oc33, od33, .func (PySem.W.fnOf "good_flags" "good_flags" (defArgs s_good_flags) (defBody s_good_flags) (defScope s_good_flags) .none kV33 dc33 pm33 an33 cd33 ct33), sl33⟩)
    (c33 : PySem.W.codeIn K cd33 "good_flags" = true)
    (k33 : PySem.W.keepIn K (.ref f33) = true)
    (a34 : PySem.W.nsIn K mainGlobals "wrong_numbers" = some (some (.ref f34)))
    (l34 : K.lookup f34 = some ⟨oc34, od34, .func (PySem.W.fnOf "wrong_numbers" "wrong_numbers" (defArgs s_wrong_numbers) (defBody s_wrong_numbers) (defScope s_wrong_numbers) .none kV34 dc34 pm34 an34 cd34 ct34), sl34⟩)
    (c34 : PySem.W.codeIn K cd34 "wrong_numbers" = true)
    (k34 : PySem.W.keepIn K (.ref f34) = true)
    (a35 : PySem.W.nsIn K mainGlobals "wrong_places" = some (some (.ref f35)))
    (l35 : K.lookup f35 = some ⟨oc35, od35, .func (PySem.W.fnOf "wrong_places" "wrong_places" (defArgs s_wrong_places) (defBody s_wrong_places) (defScope s_wrong_places) .none kV35 dc35 pm35 an35 cd35 ct35), sl35⟩)
    (c35 : PySem.W.codeIn K cd35 "wrong_places" = true)
    (k35 : PySem.W.keepIn K (.ref f35) = true)
    (a36 : PySem.W.nsIn K mainGlobals "wrong_ascending" = some (some (.ref f36)))
    (l36 : K.lookup f36 = some ⟨oc36, od36, .func (PySem.W.fnOf "wrong_ascending" "wrong_ascending" (defArgs s_wrong_ascending) (defBody s_wrong_ascending) (defScope s_wrong_ascending) .none kV36 dc36 pm36 an36 cd36 ct36), sl36⟩)
    (c36 : PySem.W.codeIn K cd36 "wrong_ascending" = true)
    (k36 : PySem.W.keepIn K (.ref f36) = true)
    (a37 : PySem.W.nsIn K mainGlobals "wrong_rows" = some (some (.ref f37)))
    (l37 : K.lookup f37 = some ⟨oc37, od37, .func (PySem.W.fnOf "wrong_rows" "wrong_rows" (defArgs s_wrong_rows) (defBody s_wrong_rows) (defScope s_wrong_rows) .none kV37 dc37 pm37 an37 cd37 ct37), sl37⟩)
    (c37 : PySem.W.codeIn K cd37 "wrong_rows" = true)
    (k37 : PySem.W.keepIn K (.ref f37) = true)
    (a38 : PySem.W.nsIn K mainGlobals "wrong_item" = some (some (.ref f38)))
    (l38 : K.lookup f38 = some ⟨oc38, od38, .func (PySem.W.fnOf "wrong_item" "wrong_item" (defArgs s_wrong_item) (defBody s_wrong_item) (defScope s_wrong_item) .none kV38 dc38 pm38 an38 cd38 ct38), sl38⟩)
    (c38 : PySem.W.codeIn K cd38 "wrong_item" = true)
    (k38 : PySem.W.keepIn K (.ref f38) = true)
    (a39 : PySem.W.nsIn K mainGlobals "wrong_aim" = some (some (.ref f39)))
    (l39 : K.lookup f39 = some ⟨oc39, od39, .func (PySem.W.fnOf "wrong_aim" "wrong_aim" (defArgs s_wrong_aim) (defBody s_wrong_aim) (defScope s_wrong_aim) .none kV39 dc39 pm39 an39 cd39 ct39), sl39⟩)
    (c39 : PySem.W.codeIn K cd39 "wrong_aim" = true)
    (k39 : PySem.W.keepIn K (.ref f39) = true)
    (a40 : PySem.W.findIn K (.ref c_Aim) "__init__" = some (some (.ref f40)))
    (i40 : PySem.W.isFn K (.ref f40) = true)
    (l40 : K.lookup f40 = some ⟨oc40, od40, .func (PySem.W.fnOf "__init__" "Aim.__init__" (defArgs s_Aim___init__) (defBody s_Aim___init__) (defScope s_Aim___init__) .none kV40 dc40 pm40 an40 cd40 ct40), sl40⟩)
    (c40 : PySem.W.codeIn K cd40 "Aim.__init__" = true)
    (k40 : PySem.W.keepIn K (.ref f40) = true)
    (a41 : PySem.W.findIn K (.ref c_Aim) "good" = some (some (.ref f41)))
    (i41 : PySem.W.isFn K (.ref f41) = true)
    (l41 : K.lookup f41 = some ⟨oc41, od41, .func (PySem.W.fnOf "good" "Aim.good" (defArgs s_Aim_good) (defBody s_Aim_good) (defScope s_Aim_good) .none kV41 dc41 pm41 an41 cd41 ct41), sl41⟩)
    (c41 : PySem.W.codeIn K cd41 "Aim.good" = true)
    (k41 : PySem.W.keepIn K (.ref f41) = true)
    (a42 : PySem.W.findIn K (.ref c_Aim) "__or__" = some (some (.ref f42)))
    (i42 : PySem.W.isFn K (.ref f42) = true)
    (l42 : K.lookup f42 = some ⟨oc42, od42, .func (PySem.W.fnOf "__or__" "Aim.__or__" (defArgs s_Aim___or__) (defBody s_Aim___or__) (defScope s_Aim___or__) .none kV42 dc42 pm42 an42 cd42 ct42), sl42⟩)
    (c42 : PySem.W.codeIn K cd42 "Aim.__or__" = true)
    (k42 : PySem.W.keepIn K (.ref f42) = true)
    (a43 : PySem.W.findIn K (.ref c_Aim) "__and__" = some (some (.ref f43)))
    (i43 : PySem.W.isFn K (.ref f43) = true)
    (l43 : K.lookup f43 = some ⟨oc43, od43, .func (PySem.W.fnOf "__and__" "Aim.__and__" (defArgs s_Aim___and__) (defBody s_Aim___and__) (defScope s_Aim___and__) .none kV43 dc43 pm43 an43 cd43 ct43), sl43⟩)
    (c43 : PySem.W.codeIn K cd43 "Aim.__and__" = true)
    (k43 : PySem.W.keepIn K (.ref f43) = true)
    (a44 : PySem.W.findIn K (.ref c_Aim) "__invert__" = some (some (.ref f44)))
    (i44 : PySem.W.isFn K (.ref f44) = true)
    (l44 : K.lookup f44 = some ⟨oc44, od44, .func (PySem.W.fnOf "__invert__" "Aim.__invert__" (defArgs s_Aim___invert__) (defBody s_Aim___invert__) (defScope s_Aim___invert__) .none kV44 dc44 pm44 an44 cd44 ct44), sl44⟩)
    (c44 : PySem.W.codeIn K cd44 "Aim.__invert__" = true)
    (k44 : PySem.W.keepIn K (.ref f44) = true)
    (a45 : PySem.W.nsIn K mainGlobals "require_small" = some (some (.ref f45)))
    (l45 : K.lookup f45 = some ⟨oc45, od45, .func (PySem.W.fnOf "require_small" "require_small" (defArgs s_require_small) (defBody s_require_small) (defScope s_require_small) .none kV45 dc45 pm45 an45 cd45 ct45), sl45⟩)
    (c45 : PySem.W.codeIn K cd45 "require_small" = true)
    (k45 : PySem.W.keepIn K (.ref f45) = true)
    (a46 : PySem.W.nsIn K mainGlobals "good_in_contexts" = some (some (.ref f46)))
    (l46 : K.lookup f46 = some ⟨oc46, od46, .func (PySem.W.fnOf "good_in_contexts" "good_in_contexts" (defArgs s_good_in_contexts) (defBody s_good_in_contexts) (defScope s_good_in_contexts) .none kV46 dc46 pm46 an46 cd46 ct46), sl46⟩)
    (c46 : PySem.W.codeIn K cd46 "good_in_contexts" = true)
    (k46 : PySem.W.keepIn K (.ref f46) = true)
    (a47 : PySem.W.nsIn K mainGlobals "aim_table" = some (some (.ref f47)))
    (l47 : K.lookup f47 = some ⟨oc47, od47, .func (PySem.W.fnOf "aim_table" "aim_table" (defArgs s_aim_table) (defBody s_aim_table) (defScope s_aim_table) .none kV47 dc47 pm47 an47 cd47 ct47), sl47⟩)
    (c47 : PySem.W.codeIn K cd47 "aim_table" = true)
    (k47 : PySem.W.keepIn K (.ref f47) = true)
    (a48 : PySem.W.nsIn K mainGlobals "parting_context" = some (some (.ref f48)))
    (l48 : K.lookup f48 = some ⟨oc48, od48, .func (PySem.W.fnOf "parting_context" "parting_context" (defArgs s_parting_context) (defBody s_parting_context) (defScope s_parting_context) .none kV48 dc48 pm48 an48 cd48 ct48), sl48⟩)
    (c48 : PySem.W.codeIn K cd48 "parting_context" = true)
    (k48 : PySem.W.keepIn K (.ref f48) = true)
    (a49 : PySem.W.nsIn K mainGlobals "is_fair" = some (some (.ref f49)))
    (l49 : K.lookup f49 = some ⟨oc49, od49, .func (PySem.W.fnOf "is_fair" "is_fair" (defArgs s_is_fair) (defBody s_is_fair) (defScope s_is_fair) .none kV49 dc49 pm49 an49 cd49 ct49), sl49⟩)
    (c49 : PySem.W.codeIn K cd49 "is_fair" = true)
    (k49 : PySem.W.keepIn K (.ref f49) = true)
    (a50 : PySem.W.nsIn K mainGlobals "fair_hull" = some (some (.ref f50)))
    (l50 : K.lookup f50 = some ⟨oc50, od50, .func (PySem.W.fnOf "fair_hull" "fair_hull" (defArgs s_fair_hull) (defBody s_fair_hull) (defScope s_fair_hull) .none kV50 dc50 pm50 an50 cd50 ct50), sl50⟩)
    (c50 : PySem.W.codeIn K cd50 "fair_hull" = true)
    (k50 : PySem.W.keepIn K (.ref f50) = true)
    (a51 : PySem.W.nsIn K mainGlobals "fair_core" = some (some (.ref f51)))
    (l51 : K.lookup f51 = some ⟨oc51, od51, .func (PySem.W.fnOf "fair_core" "fair_core" (defArgs s_fair_core) (defBody s_fair_core) (defScope s_fair_core) .none kV51 dc51 pm51 an51 cd51 ct51), sl51⟩)
    (c51 : PySem.W.codeIn K cd51 "fair_core" = true)
    (k51 : PySem.W.keepIn K (.ref f51) = true)
    (a52 : PySem.W.nsIn K mainGlobals "_law_start" = some (some (.ref f52)))
    (l52 : K.lookup f52 = some ⟨oc52, od52, .func (PySem.W.fnOf "_law_start" "_law_start" (defArgs s__law_start) (defBody s__law_start) (defScope s__law_start) .none kV52 dc52 pm52 an52 cd52 ct52), sl52⟩)
    (c52 : PySem.W.codeIn K cd52 "_law_start" = true)
    (k52 : PySem.W.keepIn K (.ref f52) = true)
    (a53 : PySem.W.nsIn K mainGlobals "_law_pick" = some (some (.ref f53)))
    (l53 : K.lookup f53 = some ⟨oc53, od53, .func (PySem.W.fnOf "_law_pick" "_law_pick" (defArgs s__law_pick) (defBody s__law_pick) (defScope s__law_pick) .none kV53 dc53 pm53 an53 cd53 ct53), sl53⟩)
    (c53 : PySem.W.codeIn K cd53 "_law_pick" = true)
    (k53 : PySem.W.keepIn K (.ref f53) = true)
    (a54 : PySem.W.nsIn K mainGlobals "_law_same" = some (some (.ref f54)))
    (l54 : K.lookup f54 = some ⟨oc54, od54, .func (PySem.W.fnOf "_law_same" "_law_same" (defArgs s__law_same) (defBody s__law_same) (defScope s__law_same) .none kV54 dc54 pm54 an54 cd54 ct54), sl54⟩)
    (c54 : PySem.W.codeIn K cd54 "_law_same" = true)
    (k54 : PySem.W.keepIn K (.ref f54) = true)
    (a55 : PySem.W.nsIn K mainGlobals "_law_contexts" = some (some (.ref f55)))
    (l55 : K.lookup f55 = some ⟨oc55, od55, .func (PySem.W.fnOf "_law_contexts" "_law_contexts" (defArgs s__law_contexts) (defBody s__law_contexts) (defScope s__law_contexts) .none kV55 dc55 pm55 an55 cd55 ct55), sl55⟩)
    (c55 : PySem.W.codeIn K cd55 "_law_contexts" = true)
    (k55 : PySem.W.keepIn K (.ref f55) = true)
    (a56 : PySem.W.nsIn K mainGlobals "_law_context" = some (some (.ref f56)))
    (l56 : K.lookup f56 = some ⟨oc56, od56, .func (PySem.W.fnOf "_law_context" "_law_context" (defArgs s__law_context) (defBody s__law_context) (defScope s__law_context) .none kV56 dc56 pm56 an56 cd56 ct56), sl56⟩)
    (c56 : PySem.W.codeIn K cd56 "_law_context" = true)
    (k56 : PySem.W.keepIn K (.ref f56) = true)
    (a57 : PySem.W.nsIn K mainGlobals "_law_some" = some (some (.ref f57)))
    (l57 : K.lookup f57 = some ⟨oc57, od57, .func (PySem.W.fnOf "_law_some" "_law_some" (defArgs s__law_some) (defBody s__law_some) (defScope s__law_some) .none kV57 dc57 pm57 an57 cd57 ct57), sl57⟩)
    (c57 : PySem.W.codeIn K cd57 "_law_some" = true)
    (k57 : PySem.W.keepIn K (.ref f57) = true)
    (a58 : PySem.W.nsIn K mainGlobals "_law_places" = some (some (.ref f58)))
    (l58 : K.lookup f58 = some ⟨oc58, od58, .func (PySem.W.fnOf "_law_places" "_law_places" (defArgs s__law_places) (defBody s__law_places) (defScope s__law_places) .none kV58 dc58 pm58 an58 cd58 ct58), sl58⟩)
    (c58 : PySem.W.codeIn K cd58 "_law_places" = true)
    (k58 : PySem.W.keepIn K (.ref f58) = true)
    (a59 : PySem.W.nsIn K mainGlobals "_law_simple" = some (some (.ref f59)))
    (l59 : K.lookup f59 = some ⟨oc59, od59, .func (PySem.W.fnOf "_law_simple" "_law_simple" (defArgs s__law_simple) (defBody s__law_simple) (defScope s__law_simple) .none kV59 dc59 pm59 an59 cd59 ct59), sl59⟩)
    (c59 : PySem.W.codeIn K cd59 "_law_simple" = true)
    (k59 : PySem.W.keepIn K (.ref f59) = true)
    (a60 : PySem.W.nsIn K mainGlobals "_law_aim" = some (some (.ref f60)))
    (l60 : K.lookup f60 = some ⟨oc60, od60, .func (PySem.W.fnOf "_law_aim" "_law_aim" (defArgs s__law_aim) (defBody s__law_aim) (defScope s__law_aim) .none kV60 dc60 pm60 an60 cd60 ct60), sl60⟩)
    (c60 : PySem.W.codeIn K cd60 "_law_aim" = true)
    (k60 : PySem.W.keepIn K (.ref f60) = true)
    (a61 : PySem.W.nsIn K mainGlobals "_law_simple_good" = some (some (.ref f61)))
    (l61 : K.lookup f61 = some ⟨oc61, od61, .func (PySem.W.fnOf "_law_simple_good" "_law_simple_good" (defArgs s__law_simple_good) (defBody s__law_simple_good) (defScope s__law_simple_good) .none kV61 dc61 pm61 an61 cd61 ct61), sl61⟩)
    (c61 : PySem.W.codeIn K cd61 "_law_simple_good" = true)
    (k61 : PySem.W.keepIn K (.ref f61) = true)
    (a62 : PySem.W.nsIn K mainGlobals "_law_good" = some (some (.ref f62)))
    (l62 : K.lookup f62 = some ⟨oc62, od62, .func (PySem.W.fnOf "_law_good" "_law_good" (defArgs s__law_good) (defBody s__law_good) (defScope s__law_good) .none kV62 dc62 pm62 an62 cd62 ct62), sl62⟩)
    (c62 : PySem.W.codeIn K cd62 "_law_good" = true)
    (k62 : PySem.W.keepIn K (.ref f62) = true)
    (a63 : PySem.W.nsIn K mainGlobals "_law_shape" = some (some (.ref f63)))
    (l63 : K.lookup f63 = some ⟨oc63, od63, .func (PySem.W.fnOf "_law_shape" "_law_shape" (defArgs s__law_shape) (defBody s__law_shape) (defScope s__law_shape) .none kV63 dc63 pm63 an63 cd63 ct63), sl63⟩)
    (c63 : PySem.W.codeIn K cd63 "_law_shape" = true)
    (k63 : PySem.W.keepIn K (.ref f63) = true)
    (a64 : PySem.W.nsIn K mainGlobals "_law_fair_rows" = some (some (.ref f64)))
    (l64 : K.lookup f64 = some ⟨oc64, od64, .func (PySem.W.fnOf "_law_fair_rows" "_law_fair_rows" (defArgs s__law_fair_rows) (defBody s__law_fair_rows) (defScope s__law_fair_rows) .none kV64 dc64 pm64 an64 cd64 ct64), sl64⟩)
    (c64 : PySem.W.codeIn K cd64 "_law_fair_rows" = true)
    (k64 : PySem.W.keepIn K (.ref f64) = true)
    (a65 : PySem.W.nsIn K mainGlobals "_law_toggled" = some (some (.ref f65)))
    (l65 : K.lookup f65 = some ⟨oc65, od65, .func (PySem.W.fnOf "_law_toggled" "_law_toggled" (defArgs s__law_toggled) (defBody s__law_toggled) (defScope s__law_toggled) .none kV65 dc65 pm65 an65 cd65 ct65), sl65⟩)
    (c65 : PySem.W.codeIn K cd65 "_law_toggled" = true)
    (k65 : PySem.W.keepIn K (.ref f65) = true)
    (a66 : PySem.W.nsIn K mainGlobals "_law_any_aim" = some (some (.ref f66)))
    (l66 : K.lookup f66 = some ⟨oc66, od66, .func (PySem.W.fnOf "_law_any_aim" "_law_any_aim" (defArgs s__law_any_aim) (defBody s__law_any_aim) (defScope s__law_any_aim) .none kV66 dc66 pm66 an66 cd66 ct66), sl66⟩)
    (c66 : PySem.W.codeIn K cd66 "_law_any_aim" = true)
    (k66 : PySem.W.keepIn K (.ref f66) = true)
    (a67 : PySem.W.nsIn K mainGlobals "_law_hull" = some (some (.ref f67)))
    (l67 : K.lookup f67 = some ⟨oc67, od67, .func (PySem.W.fnOf "_law_hull" "_law_hull" (defArgs s__law_hull) (defBody s__law_hull) (defScope s__law_hull) .none kV67 dc67 pm67 an67 cd67 ct67), sl67⟩)
    (c67 : PySem.W.codeIn K cd67 "_law_hull" = true)
    (k67 : PySem.W.keepIn K (.ref f67) = true)
    (a68 : PySem.W.nsIn K mainGlobals "_law_core" = some (some (.ref f68)))
    (l68 : K.lookup f68 = some ⟨oc68, od68, .func (PySem.W.fnOf "_law_core" "_law_core" (defArgs s__law_core) (defBody s__law_core) (defScope s__law_core) .none kV68 dc68 pm68 an68 cd68 ct68), sl68⟩)
    (c68 : PySem.W.codeIn K cd68 "_law_core" = true)
    (k68 : PySem.W.keepIn K (.ref f68) = true)
    (a69 : PySem.W.nsIn K mainGlobals "_law_others" = some (some (.ref f69)))
    (l69 : K.lookup f69 = some ⟨oc69, od69, .func (PySem.W.fnOf "_law_others" "_law_others" (defArgs s__law_others) (defBody s__law_others) (defScope s__law_others) .none kV69 dc69 pm69 an69 cd69 ct69), sl69⟩)
    (c69 : PySem.W.codeIn K cd69 "_law_others" = true)
    (k69 : PySem.W.keepIn K (.ref f69) = true)
    (a70 : PySem.W.nsIn K mainGlobals "_law_do" = some (some (.ref f70)))
    (l70 : K.lookup f70 = some ⟨oc70, od70, .func (PySem.W.fnOf "_law_do" "_law_do" (defArgs s__law_do) (defBody s__law_do) (defScope s__law_do) .none kV70 dc70 pm70 an70 cd70 ct70), sl70⟩)
    (c70 : PySem.W.codeIn K cd70 "_law_do" = true)
    (k70 : PySem.W.keepIn K (.ref f70) = true)
    (a71 : PySem.W.nsIn K mainGlobals "_law_asked" = some (some (.ref f71)))
    (l71 : K.lookup f71 = some ⟨oc71, od71, .func (PySem.W.fnOf "_law_asked" "_law_asked" (defArgs s__law_asked) (defBody s__law_asked) (defScope s__law_asked) .none kV71 dc71 pm71 an71 cd71 ct71), sl71⟩)
    (c71 : PySem.W.codeIn K cd71 "_law_asked" = true)
    (k71 : PySem.W.keepIn K (.ref f71) = true)
    (a72 : PySem.W.nsIn K mainGlobals "_law_refused" = some (some (.ref f72)))
    (l72 : K.lookup f72 = some ⟨oc72, od72, .func (PySem.W.fnOf "_law_refused" "_law_refused" (defArgs s__law_refused) (defBody s__law_refused) (defScope s__law_refused) .none kV72 dc72 pm72 an72 cd72 ct72), sl72⟩)
    (c72 : PySem.W.codeIn K cd72 "_law_refused" = true)
    (k72 : PySem.W.keepIn K (.ref f72) = true)
    (a73 : PySem.W.nsIn K mainGlobals "law" = some (some (.ref f73)))
    (l73 : K.lookup f73 = some ⟨oc73, od73, .func (PySem.W.fnOf "law" "law" (defArgs s_law) (defBody s_law) (defScope s_law) .none kV73 dc73 pm73 an73 cd73 ct73), sl73⟩)
    (c73 : PySem.W.codeIn K cd73 "law" = true)
    (k73 : PySem.W.keepIn K (.ref f73) = true)
    (z_isinstance : PySem.W.nsIn K mainGlobals "isinstance" = some none)
    (z_int : PySem.W.nsIn K mainGlobals "int" = some none)
    (z_bool : PySem.W.nsIn K mainGlobals "bool" = some none)
    (z_all : PySem.W.nsIn K mainGlobals "all" = some none)
    (z_str : PySem.W.nsIn K mainGlobals "str" = some none)
    (z_len : PySem.W.nsIn K mainGlobals "len" = some none)
    (z_enumerate : PySem.W.nsIn K mainGlobals "enumerate" = some none)
    (z_tuple : PySem.W.nsIn K mainGlobals "tuple" = some none)
    (z_zip : PySem.W.nsIn K mainGlobals "zip" = some none)
    (z_range : PySem.W.nsIn K mainGlobals "range" = some none)
    (z_max : PySem.W.nsIn K mainGlobals "max" = some none)
    (z_sorted : PySem.W.nsIn K mainGlobals "sorted" = some none)
    (z_set : PySem.W.nsIn K mainGlobals "set" = some none)
    (z_min : PySem.W.nsIn K mainGlobals "min" = some none)
    (z_list : PySem.W.nsIn K mainGlobals "list" = some none)
    (z_ValueError : PySem.W.nsIn K mainGlobals "ValueError" = some none)
    (z_any : PySem.W.nsIn K mainGlobals "any" = some none)
    (gc_LETTERS : PySem.W.nsIn K mainGlobals "LETTERS" = some (some (.str "abcdefghijklmnopqrstuvwxyz" tk_LETTERS)))
    (gc_DIGITS : PySem.W.nsIn K mainGlobals "DIGITS" = some (some (.str "0123456789" tk_DIGITS)))
    (gc_LONGEST_WORD : PySem.W.nsIn K mainGlobals "LONGEST_WORD" = some (some (.int 12 tk_LONGEST_WORD)))
    (gc_LONGEST_NUMBER : PySem.W.nsIn K mainGlobals "LONGEST_NUMBER" = some (some (.int 9 tk_LONGEST_NUMBER)))
    (gc_NUMBERS_END : PySem.W.nsIn K mainGlobals "NUMBERS_END" = some (some (.int 1000000000 tk_NUMBERS_END)))
    (gc_DEEPEST_TUPLE : PySem.W.nsIn K mainGlobals "DEEPEST_TUPLE" = some (some (.int 30 tk_DEEPEST_TUPLE)))
    (gc_MOST_OPTIONS : PySem.W.nsIn K mainGlobals "MOST_OPTIONS" = some (some (.int 64 tk_MOST_OPTIONS)))
    (gc_MOST_OUTCOMES : PySem.W.nsIn K mainGlobals "MOST_OUTCOMES" = some (some (.int 4 tk_MOST_OUTCOMES)))
    (gc_MOST_SMALL_OPTIONS : PySem.W.nsIn K mainGlobals "MOST_SMALL_OPTIONS" = some (some (.int 8 tk_MOST_SMALL_OPTIONS)))
    (gc_MOST_SMALL_CONTEXTS : PySem.W.nsIn K mainGlobals "MOST_SMALL_CONTEXTS" = some (some (.int 256 tk_MOST_SMALL_CONTEXTS)))
    (gc_DEEPEST_AIM : PySem.W.nsIn K mainGlobals "DEEPEST_AIM" = some (some (.int 6 tk_DEEPEST_AIM)))
    (gc_RANKS_END : PySem.W.nsIn K mainGlobals "RANKS_END" = some (some (.int 10 tk_RANKS_END)))
    (g_OutOfRange : PySem.W.nsIn K mainGlobals "OutOfRange" = some (some (.ref c_OutOfRange)))
    (g_SizeMismatch : PySem.W.nsIn K mainGlobals "SizeMismatch" = some (some (.ref c_SizeMismatch)))
    (g_InvalidAim : PySem.W.nsIn K mainGlobals "InvalidAim" = some (some (.ref c_InvalidAim)))
    (g_InvalidContext : PySem.W.nsIn K mainGlobals "InvalidContext" = some (some (.ref c_InvalidContext)))
    (g_TooLarge : PySem.W.nsIn K mainGlobals "TooLarge" = some (some (.ref c_TooLarge)))
    (g_InvalidTerm : PySem.W.nsIn K mainGlobals "InvalidTerm" = some (some (.ref c_InvalidTerm)))
    (g_ChoosersError : PySem.W.nsIn K mainGlobals "ChoosersError" = some (some (.ref c_ChoosersError)))
    (x_OutOfRange : PySem.W.excIn K c_OutOfRange [.type "ValueError", .type "Exception", .type "BaseException", .type "object"] "ValueError.__new__" = true)
    (x_SizeMismatch : PySem.W.excIn K c_SizeMismatch [.type "ValueError", .type "Exception", .type "BaseException", .type "object"] "ValueError.__new__" = true)
    (x_InvalidContext : PySem.W.excIn K c_InvalidContext [.type "ValueError", .type "Exception", .type "BaseException", .type "object"] "ValueError.__new__" = true)
    (x_TooLarge : PySem.W.excIn K c_TooLarge [.type "ValueError", .type "Exception", .type "BaseException", .type "object"] "ValueError.__new__" = true)
    (z_super : PySem.W.nsIn K mainGlobals "super" = some none)
    (opq_ : PySem.W.nsIn K cStatics "thirdparty.any" = some none)
    (kc_OutOfRange : PySem.W.keepIn K (.ref c_OutOfRange) = true)
    (e_OutOfRange : PySem.W.subIn K (.ref c_OutOfRange) (.type "BaseException") = some true)
    (t_OutOfRange : PySem.W.typeIn K (.ref c_OutOfRange) = some (.type "type"))
    (hg_OutOfRange : PySem.W.findIn K (.ref c_OutOfRange) "__getattribute__" = some (some (.builtin "BaseException.__getattribute__")))
    (hk_OutOfRange : PySem.W.findIn K (.ref c_OutOfRange) "__getattr__" = some none)
    (hd_OutOfRange : PySem.W.hasDictIn K c_OutOfRange = true)
    (ha_OutOfRange : PySem.W.findIn K (.ref c_OutOfRange) "__class__" = some (some (.builtin "object.__class__")))
    (hm_OutOfRange : PySem.W.mroIn K c_OutOfRange (.type "object") = some true)
    (s_OutOfRange_OutOfRange : PySem.W.subIn K (.ref c_OutOfRange) (.ref c_OutOfRange) = some true)
    (s_OutOfRange_SizeMismatch : PySem.W.subIn K (.ref c_OutOfRange) (.ref c_SizeMismatch) = some false)
    (s_OutOfRange_InvalidTerm : PySem.W.subIn K (.ref c_OutOfRange) (.ref c_InvalidTerm) = some false)
    (s_OutOfRange_TooLarge : PySem.W.subIn K (.ref c_OutOfRange) (.ref c_TooLarge) = some false)
    (s_OutOfRange_ValueError : PySem.W.subIn K (.ref c_OutOfRange) (.type "ValueError") = some true)
    (s_OutOfRange_ChoosersError : PySem.W.subIn K (.ref c_OutOfRange) (.ref c_ChoosersError) = some true)
    (kc_SizeMismatch : PySem.W.keepIn K (.ref c_SizeMismatch) = true)
    (e_SizeMismatch : PySem.W.subIn K (.ref c_SizeMismatch) (.type "BaseException") = some true)
    (t_SizeMismatch : PySem.W.typeIn K (.ref c_SizeMismatch) = some (.type "type"))
    (hg_SizeMismatch : PySem.W.findIn K (.ref c_SizeMismatch) "__getattribute__" = some (some (.builtin "BaseException.__getattribute__")))
    (hk_SizeMismatch : PySem.W.findIn K (.ref c_SizeMismatch) "__getattr__" = some none)
    (hd_SizeMismatch : PySem.W.hasDictIn K c_SizeMismatch = true)
    (ha_SizeMismatch : PySem.W.findIn K (.ref c_SizeMismatch) "__class__" = some (some (.builtin "object.__class__")))
    (hm_SizeMismatch : PySem.W.mroIn K c_SizeMismatch (.type "object") = some true)
    (s_SizeMismatch_SizeMismatch : PySem.W.subIn K (.ref c_SizeMismatch) (.ref c_SizeMismatch) = some true)
    (s_SizeMismatch_OutOfRange : PySem.W.subIn K (.ref c_SizeMismatch) (.ref c_OutOfRange) = some false)
    (s_SizeMismatch_InvalidTerm : PySem.W.subIn K (.ref c_SizeMismatch) (.ref c_InvalidTerm) = some false)
    (s_SizeMismatch_TooLarge : PySem.W.subIn K (.ref c_SizeMismatch) (.ref c_TooLarge) = some false)
    (s_SizeMismatch_ValueError : PySem.W.subIn K (.ref c_SizeMismatch) (.type "ValueError") = some true)
    (s_SizeMismatch_ChoosersError : PySem.W.subIn K (.ref c_SizeMismatch) (.ref c_ChoosersError) = some true)
    (kc_InvalidAim : PySem.W.keepIn K (.ref c_InvalidAim) = true)
    (e_InvalidAim : PySem.W.subIn K (.ref c_InvalidAim) (.type "BaseException") = some true)
    (t_InvalidAim : PySem.W.typeIn K (.ref c_InvalidAim) = some (.type "type"))
    (hg_InvalidAim : PySem.W.findIn K (.ref c_InvalidAim) "__getattribute__" = some (some (.builtin "BaseException.__getattribute__")))
    (hk_InvalidAim : PySem.W.findIn K (.ref c_InvalidAim) "__getattr__" = some none)
    (hd_InvalidAim : PySem.W.hasDictIn K c_InvalidAim = true)
    (ha_InvalidAim : PySem.W.findIn K (.ref c_InvalidAim) "__class__" = some (some (.builtin "object.__class__")))
    (hm_InvalidAim : PySem.W.mroIn K c_InvalidAim (.type "object") = some true)
    (s_InvalidAim_InvalidAim : PySem.W.subIn K (.ref c_InvalidAim) (.ref c_InvalidAim) = some true)
    (s_InvalidAim_SizeMismatch : PySem.W.subIn K (.ref c_InvalidAim) (.ref c_SizeMismatch) = some false)
    (s_InvalidAim_OutOfRange : PySem.W.subIn K (.ref c_InvalidAim) (.ref c_OutOfRange) = some false)
    (s_InvalidAim_InvalidTerm : PySem.W.subIn K (.ref c_InvalidAim) (.ref c_InvalidTerm) = some true)
    (s_InvalidAim_TooLarge : PySem.W.subIn K (.ref c_InvalidAim) (.ref c_TooLarge) = some false)
    (s_InvalidAim_ValueError : PySem.W.subIn K (.ref c_InvalidAim) (.type "ValueError") = some true)
    (s_InvalidAim_ChoosersError : PySem.W.subIn K (.ref c_InvalidAim) (.ref c_ChoosersError) = some true)
    (kc_InvalidContext : PySem.W.keepIn K (.ref c_InvalidContext) = true)
    (e_InvalidContext : PySem.W.subIn K (.ref c_InvalidContext) (.type "BaseException") = some true)
    (t_InvalidContext : PySem.W.typeIn K (.ref c_InvalidContext) = some (.type "type"))
    (hg_InvalidContext : PySem.W.findIn K (.ref c_InvalidContext) "__getattribute__" = some (some (.builtin "BaseException.__getattribute__")))
    (hk_InvalidContext : PySem.W.findIn K (.ref c_InvalidContext) "__getattr__" = some none)
    (hd_InvalidContext : PySem.W.hasDictIn K c_InvalidContext = true)
    (ha_InvalidContext : PySem.W.findIn K (.ref c_InvalidContext) "__class__" = some (some (.builtin "object.__class__")))
    (hm_InvalidContext : PySem.W.mroIn K c_InvalidContext (.type "object") = some true)
    (s_InvalidContext_InvalidContext : PySem.W.subIn K (.ref c_InvalidContext) (.ref c_InvalidContext) = some true)
    (s_InvalidContext_SizeMismatch : PySem.W.subIn K (.ref c_InvalidContext) (.ref c_SizeMismatch) = some false)
    (s_InvalidContext_OutOfRange : PySem.W.subIn K (.ref c_InvalidContext) (.ref c_OutOfRange) = some false)
    (s_InvalidContext_InvalidTerm : PySem.W.subIn K (.ref c_InvalidContext) (.ref c_InvalidTerm) = some false)
    (s_InvalidContext_TooLarge : PySem.W.subIn K (.ref c_InvalidContext) (.ref c_TooLarge) = some false)
    (s_InvalidContext_ValueError : PySem.W.subIn K (.ref c_InvalidContext) (.type "ValueError") = some true)
    (s_InvalidContext_ChoosersError : PySem.W.subIn K (.ref c_InvalidContext) (.ref c_ChoosersError) = some true)
    (kc_TooLarge : PySem.W.keepIn K (.ref c_TooLarge) = true)
    (e_TooLarge : PySem.W.subIn K (.ref c_TooLarge) (.type "BaseException") = some true)
    (t_TooLarge : PySem.W.typeIn K (.ref c_TooLarge) = some (.type "type"))
    (hg_TooLarge : PySem.W.findIn K (.ref c_TooLarge) "__getattribute__" = some (some (.builtin "BaseException.__getattribute__")))
    (hk_TooLarge : PySem.W.findIn K (.ref c_TooLarge) "__getattr__" = some none)
    (hd_TooLarge : PySem.W.hasDictIn K c_TooLarge = true)
    (ha_TooLarge : PySem.W.findIn K (.ref c_TooLarge) "__class__" = some (some (.builtin "object.__class__")))
    (hm_TooLarge : PySem.W.mroIn K c_TooLarge (.type "object") = some true)
    (s_TooLarge_TooLarge : PySem.W.subIn K (.ref c_TooLarge) (.ref c_TooLarge) = some true)
    (s_TooLarge_SizeMismatch : PySem.W.subIn K (.ref c_TooLarge) (.ref c_SizeMismatch) = some false)
    (s_TooLarge_OutOfRange : PySem.W.subIn K (.ref c_TooLarge) (.ref c_OutOfRange) = some false)
    (s_TooLarge_InvalidTerm : PySem.W.subIn K (.ref c_TooLarge) (.ref c_InvalidTerm) = some false)
    (s_TooLarge_ValueError : PySem.W.subIn K (.ref c_TooLarge) (.type "ValueError") = some true)
    (s_TooLarge_ChoosersError : PySem.W.subIn K (.ref c_TooLarge) (.ref c_ChoosersError) = some true)
    (ic_InvalidAim : PySem.W.findIn K (.ref c_InvalidAim) "__init__" = some (some (.ref fi_InvalidAim)))
    (li_InvalidAim : K.lookup fi_InvalidAim = some ⟨oci_InvalidAim, odi_InvalidAim, .func (PySem.W.ksFn "__init__" "InvalidTerm.__init__" (defArgs si_InvalidTerm) (defBody si_InvalidTerm) (defScope si_InvalidTerm) .none kVi_InvalidAim dci_InvalidAim pmi_InvalidAim ani_InvalidAim (.ref cda_InvalidAim) cti_InvalidAim cc_InvalidAim), sli_InvalidAim⟩)
    (cdi_InvalidAim : PySem.W.codeIn K (.ref cda_InvalidAim) "InvalidTerm.__init__" = true)
    (ti_InvalidAim : PySem.W.typeIn K (.ref fi_InvalidAim) = some (.type "function"))
    (no_InvalidAim : PySem.W.findIn K (.ref c_InvalidAim) "path" = some none)
    (cell_InvalidAim : K.lookup cc_InvalidAim = some ⟨clc_InvalidAim, cld_InvalidAim, .cell (some (.ref c_InvalidTerm)), csl_InvalidAim⟩)
    (own_InvalidAim : PySem.W.isClsIn K c_InvalidTerm = true)
    (sb_InvalidAim : PySem.W.mroIn K c_InvalidAim (.ref c_InvalidTerm) = some true)
    (ve_InvalidAim : PySem.W.subIn K (.ref c_InvalidAim) (.type "ValueError") = some true)
    (sup_InvalidAim : PySem.W.ks_superIn K c_InvalidAim c_InvalidTerm "__init__" = some (some (.builtin "ValueError.__init__")))
    (code_InvalidAim : K.lookup cda_InvalidAim = some ⟨ccl_InvalidAim, cdd_InvalidAim, .fields vs_InvalidAim, ccs_InvalidAim⟩)
    (cfl_InvalidAim : vs_InvalidAim[2]? = some (.str fl_InvalidAim tf_InvalidAim))
    (hfl_InvalidAim : ((P.main.file : Str) == fl_InvalidAim) = true)
    (ob_InvalidAim : K.lookup c_InvalidAim = some (excClassObj nm_InvalidAim qn_InvalidAim c_InvalidAim ns_InvalidAim bs_InvalidAim bm_InvalidAim true sn_InvalidAim sb2_InvalidAim ab_InvalidAim col_InvalidAim dd_InvalidAim k0_InvalidAim k1_InvalidAim k2_InvalidAim k3_InvalidAim k5_InvalidAim "ValueError.__new__"))
    (rv_InvalidAim : PySem.HandSPX.refsVE bm_InvalidAim = true)
    (sa_InvalidAim : PySem.W.findIn K (.ref c_InvalidAim) "__setattr__" = some (some (.builtin "object.__setattr__")))
    (htop_ : (P.main.scope.names.lookup ("super" : Str)).isSome = false)
    (q_OutOfRange : PySem.W.isClsIn K c_OutOfRange = true)
    (q_SizeMismatch : PySem.W.isClsIn K c_SizeMismatch = true)
    (q_InvalidAim : PySem.W.isClsIn K c_InvalidAim = true)
    (q_InvalidContext : PySem.W.isClsIn K c_InvalidContext = true)
    (q_TooLarge : PySem.W.isClsIn K c_TooLarge = true)
    (q_InvalidTerm : PySem.W.isClsIn K c_InvalidTerm = true)
    (t_InvalidTerm : PySem.W.typeIn K (.ref c_InvalidTerm) = some (.type "type"))
    (q_ChoosersError : PySem.W.isClsIn K c_ChoosersError = true)
    (t_ChoosersError : PySem.W.typeIn K (.ref c_ChoosersError) = some (.type "type"))
    (e_ChoosersError : PySem.W.subIn K (.ref c_ChoosersError) (.type "BaseException") = some true)
    (hd_ChoosersError : PySem.W.hasDictIn K c_ChoosersError = true)
    (hn_ : PySem.W.specialIn K (.builtin "object.__class__") "__get__" = some (some (.builtin "getset_descriptor.__get__")))
    (ht_ : PySem.W.takesIn K (.builtin "object.__class__") = some true)
    (pg_Aim : PySem.W.plainGet K c_Aim Str.empty = true)
    (hdc_Aim : PySem.W.hasDictIn K c_Aim = true)
    (po_Aim : PySem.W.plainOver K c_Aim = true)
    (sac_Aim : PySem.W.findIn K (.ref c_Aim) "__setattr__" = some (some (.builtin "object.__setattr__")))
    (mk_Aim : PySem.W.makesIn K c_Aim = true)
    (kcc_Aim : PySem.W.keepIn K (.ref c_Aim) = true)
    (sf_Aim : PySem.W.selfFirst K c_Aim = true)
    (na_Aim_term : PySem.W.findIn K (.ref c_Aim) "term" = some none)
    (na_Aim_options : PySem.W.findIn K (.ref c_Aim) "options" = some none)
    (na_Aim_outcomes : PySem.W.findIn K (.ref c_Aim) "outcomes" = some none)
    (g_SHAPES : PySem.W.nsIn K mainGlobals "SHAPES" = some (some (.ref c_SHAPES)))
    (ld_SHAPES : K.lookup c_SHAPES = some ⟨.type "dict", none, .dict es_SHAPES n_SHAPES, #[]⟩)
    (kl_SHAPES : PySem.W.KeysLit w.params es_SHAPES.toList)
    (kn_SHAPES : es_SHAPES.toList.map keyS = [("any" : Str), ("best" : Str), ("second" : Str), ("most" : Str), ("fewest" : Str), ("fixed" : Str), ("like" : Str), ("unlike" : Str), ("among" : Str), ("only" : Str), ("table" : Str), ("either" : Str), ("both" : Str), ("else" : Str), ("not" : Str), ("first" : Str), ("recode" : Str), ("reorder" : Str)].map some)
    (lo_SHAPES : (c_SHAPES == sysModules) = false)
    (v_SHAPES_0 : PySem.W.nsIn K c_SHAPES "any" = some (some (.ref t_SHAPES_0)))
    (lt_SHAPES_0 : K.lookup t_SHAPES_0 = some ⟨.type "tuple", none, .seq its_SHAPES_0 nn_SHAPES_0, sl_SHAPES_0⟩)
    (vs_SHAPES_0 : Vals (([] : List Str).map V.str) its_SHAPES_0.toList)
    (sz_SHAPES_0 : its_SHAPES_0.size ≤ sizeLine)
    (v_SHAPES_1 : PySem.W.nsIn K c_SHAPES "best" = some (some (.ref t_SHAPES_1)))
    (lt_SHAPES_1 : K.lookup t_SHAPES_1 = some ⟨.type "tuple", none, .seq its_SHAPES_1 nn_SHAPES_1, sl_SHAPES_1⟩)
    (vs_SHAPES_1 : Vals ((["ranks"] : List Str).map V.str) its_SHAPES_1.toList)
    (sz_SHAPES_1 : its_SHAPES_1.size ≤ sizeLine)
    (v_SHAPES_2 : PySem.W.nsIn K c_SHAPES "second" = some (some (.ref t_SHAPES_2)))
    (lt_SHAPES_2 : K.lookup t_SHAPES_2 = some ⟨.type "tuple", none, .seq its_SHAPES_2 nn_SHAPES_2, sl_SHAPES_2⟩)
    (vs_SHAPES_2 : Vals ((["ranks"] : List Str).map V.str) its_SHAPES_2.toList)
    (sz_SHAPES_2 : its_SHAPES_2.size ≤ sizeLine)
    (v_SHAPES_3 : PySem.W.nsIn K c_SHAPES "most" = some (some (.ref t_SHAPES_3)))
    (lt_SHAPES_3 : K.lookup t_SHAPES_3 = some ⟨.type "tuple", none, .seq its_SHAPES_3 nn_SHAPES_3, sl_SHAPES_3⟩)
    (vs_SHAPES_3 : Vals (([] : List Str).map V.str) its_SHAPES_3.toList)
    (sz_SHAPES_3 : its_SHAPES_3.size ≤ sizeLine)
    (v_SHAPES_4 : PySem.W.nsIn K c_SHAPES "fewest" = some (some (.ref t_SHAPES_4)))
    (lt_SHAPES_4 : K.lookup t_SHAPES_4 = some ⟨.type "tuple", none, .seq its_SHAPES_4 nn_SHAPES_4, sl_SHAPES_4⟩)
    (vs_SHAPES_4 : Vals (([] : List Str).map V.str) its_SHAPES_4.toList)
    (sz_SHAPES_4 : its_SHAPES_4.size ≤ sizeLine)
    (v_SHAPES_5 : PySem.W.nsIn K c_SHAPES "fixed" = some (some (.ref t_SHAPES_5)))
    (lt_SHAPES_5 : K.lookup t_SHAPES_5 = some ⟨.type "tuple", none, .seq its_SHAPES_5 nn_SHAPES_5, sl_SHAPES_5⟩)
    (vs_SHAPES_5 : Vals (([] : List Str).map V.str) its_SHAPES_5.toList)
    (sz_SHAPES_5 : its_SHAPES_5.size ≤ sizeLine)
    (v_SHAPES_6 : PySem.W.nsIn K c_SHAPES "like" = some (some (.ref t_SHAPES_6)))
    (lt_SHAPES_6 : K.lookup t_SHAPES_6 = some ⟨.type "tuple", none, .seq its_SHAPES_6 nn_SHAPES_6, sl_SHAPES_6⟩)
    (vs_SHAPES_6 : Vals ((["option"] : List Str).map V.str) its_SHAPES_6.toList)
    (sz_SHAPES_6 : its_SHAPES_6.size ≤ sizeLine)
    (v_SHAPES_7 : PySem.W.nsIn K c_SHAPES "unlike" = some (some (.ref t_SHAPES_7)))
    (lt_SHAPES_7 : K.lookup t_SHAPES_7 = some ⟨.type "tuple", none, .seq its_SHAPES_7 nn_SHAPES_7, sl_SHAPES_7⟩)
    (vs_SHAPES_7 : Vals ((["option"] : List Str).map V.str) its_SHAPES_7.toList)
    (sz_SHAPES_7 : its_SHAPES_7.size ≤ sizeLine)
    (v_SHAPES_8 : PySem.W.nsIn K c_SHAPES "among" = some (some (.ref t_SHAPES_8)))
    (lt_SHAPES_8 : K.lookup t_SHAPES_8 = some ⟨.type "tuple", none, .seq its_SHAPES_8 nn_SHAPES_8, sl_SHAPES_8⟩)
    (vs_SHAPES_8 : Vals ((["outcomes"] : List Str).map V.str) its_SHAPES_8.toList)
    (sz_SHAPES_8 : its_SHAPES_8.size ≤ sizeLine)
    (v_SHAPES_9 : PySem.W.nsIn K c_SHAPES "only" = some (some (.ref t_SHAPES_9)))
    (lt_SHAPES_9 : K.lookup t_SHAPES_9 = some ⟨.type "tuple", none, .seq its_SHAPES_9 nn_SHAPES_9, sl_SHAPES_9⟩)
    (vs_SHAPES_9 : Vals ((["options"] : List Str).map V.str) its_SHAPES_9.toList)
    (sz_SHAPES_9 : its_SHAPES_9.size ≤ sizeLine)
    (v_SHAPES_10 : PySem.W.nsIn K c_SHAPES "table" = some (some (.ref t_SHAPES_10)))
    (lt_SHAPES_10 : K.lookup t_SHAPES_10 = some ⟨.type "tuple", none, .seq its_SHAPES_10 nn_SHAPES_10, sl_SHAPES_10⟩)
    (vs_SHAPES_10 : Vals ((["rows"] : List Str).map V.str) its_SHAPES_10.toList)
    (sz_SHAPES_10 : its_SHAPES_10.size ≤ sizeLine)
    (v_SHAPES_11 : PySem.W.nsIn K c_SHAPES "either" = some (some (.ref t_SHAPES_11)))
    (lt_SHAPES_11 : K.lookup t_SHAPES_11 = some ⟨.type "tuple", none, .seq its_SHAPES_11 nn_SHAPES_11, sl_SHAPES_11⟩)
    (vs_SHAPES_11 : Vals ((["aim", "aim"] : List Str).map V.str) its_SHAPES_11.toList)
    (sz_SHAPES_11 : its_SHAPES_11.size ≤ sizeLine)
    (v_SHAPES_12 : PySem.W.nsIn K c_SHAPES "both" = some (some (.ref t_SHAPES_12)))
    (lt_SHAPES_12 : K.lookup t_SHAPES_12 = some ⟨.type "tuple", none, .seq its_SHAPES_12 nn_SHAPES_12, sl_SHAPES_12⟩)
    (vs_SHAPES_12 : Vals ((["aim", "aim"] : List Str).map V.str) its_SHAPES_12.toList)
    (sz_SHAPES_12 : its_SHAPES_12.size ≤ sizeLine)
    (v_SHAPES_13 : PySem.W.nsIn K c_SHAPES "else" = some (some (.ref t_SHAPES_13)))
    (lt_SHAPES_13 : K.lookup t_SHAPES_13 = some ⟨.type "tuple", none, .seq its_SHAPES_13 nn_SHAPES_13, sl_SHAPES_13⟩)
    (vs_SHAPES_13 : Vals ((["aim", "aim"] : List Str).map V.str) its_SHAPES_13.toList)
    (sz_SHAPES_13 : its_SHAPES_13.size ≤ sizeLine)
    (v_SHAPES_14 : PySem.W.nsIn K c_SHAPES "not" = some (some (.ref t_SHAPES_14)))
    (lt_SHAPES_14 : K.lookup t_SHAPES_14 = some ⟨.type "tuple", none, .seq its_SHAPES_14 nn_SHAPES_14, sl_SHAPES_14⟩)
    (vs_SHAPES_14 : Vals ((["aim"] : List Str).map V.str) its_SHAPES_14.toList)
    (sz_SHAPES_14 : its_SHAPES_14.size ≤ sizeLine)
    (v_SHAPES_15 : PySem.W.nsIn K c_SHAPES "first" = some (some (.ref t_SHAPES_15)))
    (lt_SHAPES_15 : K.lookup t_SHAPES_15 = some ⟨.type "tuple", none, .seq its_SHAPES_15 nn_SHAPES_15, sl_SHAPES_15⟩)
    (vs_SHAPES_15 : Vals ((["aim"] : List Str).map V.str) its_SHAPES_15.toList)
    (sz_SHAPES_15 : its_SHAPES_15.size ≤ sizeLine)
    (v_SHAPES_16 : PySem.W.nsIn K c_SHAPES "recode" = some (some (.ref t_SHAPES_16)))
    (lt_SHAPES_16 : K.lookup t_SHAPES_16 = some ⟨.type "tuple", none, .seq its_SHAPES_16 nn_SHAPES_16, sl_SHAPES_16⟩)
    (vs_SHAPES_16 : Vals ((["codes", "aim"] : List Str).map V.str) its_SHAPES_16.toList)
    (sz_SHAPES_16 : its_SHAPES_16.size ≤ sizeLine)
    (v_SHAPES_17 : PySem.W.nsIn K c_SHAPES "reorder" = some (some (.ref t_SHAPES_17)))
    (lt_SHAPES_17 : K.lookup t_SHAPES_17 = some ⟨.type "tuple", none, .seq its_SHAPES_17 nn_SHAPES_17, sl_SHAPES_17⟩)
    (vs_SHAPES_17 : Vals ((["places", "aim"] : List Str).map V.str) its_SHAPES_17.toList)
    (sz_SHAPES_17 : its_SHAPES_17.size ≤ sizeLine)
    (g_RULES : PySem.W.nsIn K mainGlobals "RULES" = some (some (.ref c_RULES)))
    (ld_RULES : K.lookup c_RULES = some ⟨.type "dict", none, .dict es_RULES n_RULES, #[]⟩)
    (kl_RULES : PySem.W.KeysLit w.params es_RULES.toList)
    (kn_RULES : es_RULES.toList.map keyS = [("any" : Str), ("best" : Str), ("second" : Str), ("most" : Str), ("fewest" : Str), ("fixed" : Str), ("like" : Str), ("unlike" : Str), ("among" : Str), ("only" : Str), ("table" : Str), ("either" : Str), ("both" : Str), ("else" : Str), ("not" : Str), ("first" : Str), ("recode" : Str), ("reorder" : Str)].map some)
    (lo_RULES : (c_RULES == sysModules) = false)
    (v_RULES_0 : PySem.W.nsIn K c_RULES "any" = some (some (.ref f15)))
    (v_RULES_1 : PySem.W.nsIn K c_RULES "best" = some (some (.ref f16)))
    (v_RULES_2 : PySem.W.nsIn K c_RULES "second" = some (some (.ref f17)))
    (v_RULES_3 : PySem.W.nsIn K c_RULES "most" = some (some (.ref f18)))
    (v_RULES_4 : PySem.W.nsIn K c_RULES "fewest" = some (some (.ref f19)))
    (v_RULES_5 : PySem.W.nsIn K c_RULES "fixed" = some (some (.ref f20)))
    (v_RULES_6 : PySem.W.nsIn K c_RULES "like" = some (some (.ref f21)))
    (v_RULES_7 : PySem.W.nsIn K c_RULES "unlike" = some (some (.ref f22)))
    (v_RULES_8 : PySem.W.nsIn K c_RULES "among" = some (some (.ref f23)))
    (v_RULES_9 : PySem.W.nsIn K c_RULES "only" = some (some (.ref f24)))
    (v_RULES_10 : PySem.W.nsIn K c_RULES "table" = some (some (.ref f25)))
    (v_RULES_11 : PySem.W.nsIn K c_RULES "either" = some (some (.ref f26)))
    (v_RULES_12 : PySem.W.nsIn K c_RULES "both" = some (some (.ref f27)))
    (v_RULES_13 : PySem.W.nsIn K c_RULES "else" = some (some (.ref f28)))
    (v_RULES_14 : PySem.W.nsIn K c_RULES "not" = some (some (.ref f29)))
    (v_RULES_15 : PySem.W.nsIn K c_RULES "first" = some (some (.ref f30)))
    (v_RULES_16 : PySem.W.nsIn K c_RULES "recode" = some (some (.ref f31)))
    (v_RULES_17 : PySem.W.nsIn K c_RULES "reorder" = some (some (.ref f32)))
    : ∃ fd : FuncData, (∀ (s : Shared) (v : Value), BindsTo s fd ⟨[v], []⟩ [("_law_script", v)]) ∧ ∀ base : Heap, K.In base → base.Ns mainGlobals mg → FnOk P w K mg base (L2N.CX P w) 40 fa fd ["_law_script"] (spOf K c_law) := by
  have e := hfa.symm.trans (PySem.W.mg_of X G a73)
  cases e
  have F0 := fun_mk (st := s_is_number) l0 c0 k0
  have b0 := F0.binds (ps := ["value"]) fun _ _ _ _ _ _ us hl => match us, hl with | [_], _ => rfl
  have F1 := fun_mk (st := s_is_below) l1 c1 k1
  have b1 := F1.binds (ps := ["value", "limit"]) fun _ _ _ _ _ _ us hl => match us, hl with | [_, _], _ => rfl
  have F2 := fun_mk (st := s_count_choices) l2 c2 k2
  have b2 := F2.binds (ps := ["widths"]) fun _ _ _ _ _ _ us hl => match us, hl with | [_], _ => rfl
  have F3 := fun_mk (st := s_choice_index) l3 c3 k3
  have b3 := F3.binds (ps := ["widths", "choice"]) fun _ _ _ _ _ _ us hl => match us, hl with | [_, _], _ => rfl
  have F4 := fun_mk (st := s_has_outcomes) l4 c4 k4
  have b4 := F4.binds (ps := ["outcomes"]) fun _ _ _ _ _ _ us hl => match us, hl with | [_], _ => rfl
  have F5 := fun_mk (st := s_is_size) l5 c5 k5
  have b5 := F5.binds (ps := ["options", "outcomes"]) fun _ _ _ _ _ _ us hl => match us, hl with | [_, _], _ => rfl
  have F6 := fun_mk (st := s_is_small) l6 c6 k6
  have b6 := F6.binds (ps := ["options", "outcomes"]) fun _ _ _ _ _ _ us hl => match us, hl with | [_, _], _ => rfl
  have F7 := fun_mk (st := s_require_same_size) l7 c7 k7
  have b7 := F7.binds (ps := ["first", "second"]) fun _ _ _ _ _ _ us hl => match us, hl with | [_, _], _ => rfl
  have F8 := fun_mk (st := s_count_contexts) l8 c8 k8
  have b8 := F8.binds (ps := ["options", "outcomes"]) fun _ _ _ _ _ _ us hl => match us, hl with | [_, _], _ => rfl
  have F9 := fun_mk (st := s_rows_through) l9 c9 k9
  have b9 := F9.binds (ps := ["columns"]) fun _ _ _ _ _ _ us hl => match us, hl with | [_], _ => rfl
  have F10 := fun_mk (st := s_all_contexts) l10 c10 k10
  have b10 := F10.binds (ps := ["options", "outcomes"]) fun _ _ _ _ _ _ us hl => match us, hl with | [_, _], _ => rfl
  have F11 := fun_mk (st := s_is_context) l11 c11 k11
  have b11 := F11.binds (ps := ["context", "options", "outcomes"]) fun _ _ _ _ _ _ us hl => match us, hl with | [_, _, _], _ => rfl
  have F12 := fun_mk (st := s_context_index) l12 c12 k12
  have b12 := F12.binds (ps := ["context", "outcomes"]) fun _ _ _ _ _ _ us hl => match us, hl with | [_, _], _ => rfl
  have F13 := fun_mk (st := s_options_with) l13 c13 k13
  have b13 := F13.binds (ps := ["context", "outcomes"]) fun _ _ _ _ _ _ us hl => match us, hl with | [_, _], _ => rfl
  have F14 := fun_mk (st := s_has_shape) l14 c14 k14
  have b14 := F14.binds (ps := ["term"]) fun _ _ _ _ _ _ us hl => match us, hl with | [_], _ => rfl
  have F15 := fun_mk (st := s_any_flags) l15 c15 k15
  have b15 := F15.binds (ps := ["term", "context", "outcomes"]) fun _ _ _ _ _ _ us hl => match us, hl with | [_, _, _], _ => rfl
  have F16 := fun_mk (st := s_best_flags) l16 c16 k16
  have b16 := F16.binds (ps := ["term", "context", "outcomes"]) fun _ _ _ _ _ _ us hl => match us, hl with | [_, _, _], _ => rfl
  have F17 := fun_mk (st := s_second_flags) l17 c17 k17
  have b17 := F17.binds (ps := ["term", "context", "outcomes"]) fun _ _ _ _ _ _ us hl => match us, hl with | [_, _, _], _ => rfl
  have F18 := fun_mk (st := s_most_flags) l18 c18 k18
  have b18 := F18.binds (ps := ["term", "context", "outcomes"]) fun _ _ _ _ _ _ us hl => match us, hl with | [_, _, _], _ => rfl
  have F19 := fun_mk (st := s_fewest_flags) l19 c19 k19
  have b19 := F19.binds (ps := ["term", "context", "outcomes"]) fun _ _ _ _ _ _ us hl => match us, hl with | [_, _, _], _ => rfl
  have F20 := fun_mk (st := s_fixed_flags) l20 c20 k20
  have b20 := F20.binds (ps := ["term", "context", "outcomes"]) fun _ _ _ _ _ _ us hl => match us, hl with | [_, _, _], _ => rfl
  have F21 := fun_mk (st := s_like_flags) l21 c21 k21
  have b21 := F21.binds (ps := ["term", "context", "outcomes"]) fun _ _ _ _ _ _ us hl => match us, hl with | [_, _, _], _ => rfl
  have F22 := fun_mk (st := s_unlike_flags) l22 c22 k22
  have b22 := F22.binds (ps := ["term", "context", "outcomes"]) fun _ _ _ _ _ _ us hl => match us, hl with | [_, _, _], _ => rfl
  have F23 := fun_mk (st := s_among_flags) l23 c23 k23
  have b23 := F23.binds (ps := ["term", "context", "outcomes"]) fun _ _ _ _ _ _ us hl => match us, hl with | [_, _, _], _ => rfl
  have F24 := fun_mk (st := s_only_flags) l24 c24 k24
  have b24 := F24.binds (ps := ["term", "context", "outcomes"]) fun _ _ _ _ _ _ us hl => match us, hl with | [_, _, _], _ => rfl
  have F25 := fun_mk (st := s_table_flags) l25 c25 k25
  have b25 := F25.binds (ps := ["term", "context", "outcomes"]) fun _ _ _ _ _ _ us hl => match us, hl with | [_, _, _], _ => rfl
  have F26 := fun_mk (st := s_either_flags) l26 c26 k26
  have b26 := F26.binds (ps := ["term", "context", "outcomes"]) fun _ _ _ _ _ _ us hl => match us, hl with | [_, _, _], _ => rfl
  have F27 := fun_mk (st := s_both_flags) l27 c27 k27
  have b27 := F27.binds (ps := ["term", "context", "outcomes"]) fun _ _ _ _ _ _ us hl => match us, hl with | [_, _, _], _ => rfl
  have F28 := fun_mk (st := s_else_flags) l28 c28 k28
  have b28 := F28.binds (ps := ["term", "context", "outcomes"]) fun _ _ _ _ _ _ us hl => match us, hl with | [_, _, _], _ => rfl
  have F29 := fun_mk (st := s_not_flags) l29 c29 k29
  have b29 := F29.binds (ps := ["term", "context", "outcomes"]) fun _ _ _ _ _ _ us hl => match us, hl with | [_, _, _], _ => rfl
  have F30 := fun_mk (st := s_first_flags) l30 c30 k30
  have b30 := F30.binds (ps := ["term", "context", "outcomes"]) fun _ _ _ _ _ _ us hl => match us, hl with | [_, _, _], _ => rfl
  have F31 := fun_mk (st := s_recode_flags) l31 c31 k31
  have b31 := F31.binds (ps := ["term", "context", "outcomes"]) fun _ _ _ _ _ _ us hl => match us, hl with | [_, _, _], _ => rfl
  have F32 := fun_mk (st := s_reorder_flags) l32 c32 k32
  have b32 := F32.binds (ps := ["term", "context", "outcomes"]) fun _ _ _ _ _ _ us hl => match us, hl with | [_, _, _], _ => rfl
  have F33 := fun_mk (st := s_good_flags) l33 c33 k33
  have b33 := F33.binds (ps := ["term", "context", "outcomes"]) fun _ _ _ _ _ _ us hl => match us, hl with | [_, _, _], _ => rfl
  have F34 := fun_mk (st := s_wrong_numbers) l34 c34 k34
  have b34 := F34.binds (ps := ["item", "length", "limit"]) fun _ _ _ _ _ _ us hl => match us, hl with | [_, _, _], _ => rfl
  have F35 := fun_mk (st := s_wrong_places) l35 c35 k35
  have b35 := F35.binds (ps := ["item", "options"]) fun _ _ _ _ _ _ us hl => match us, hl with | [_, _], _ => rfl
  have F36 := fun_mk (st := s_wrong_ascending) l36 c36 k36
  have b36 := F36.binds (ps := ["item", "limit"]) fun _ _ _ _ _ _ us hl => match us, hl with | [_, _], _ => rfl
  have F37 := fun_mk (st := s_wrong_rows) l37 c37 k37
  have b37 := F37.binds (ps := ["item", "options", "outcomes"]) fun _ _ _ _ _ _ us hl => match us, hl with | [_, _, _], _ => rfl
  have F38 := fun_mk (st := s_wrong_item) l38 c38 k38
  have b38 := F38.binds (ps := ["kind", "item", "options", "outcomes", "depth"]) fun _ _ _ _ _ _ us hl => match us, hl with | [_, _, _, _, _], _ => rfl
  have F39 := fun_mk (st := s_wrong_aim) l39 c39 k39
  have b39 := F39.binds (ps := ["term", "options", "outcomes", "depth"]) fun _ _ _ _ _ _ us hl => match us, hl with | [_, _, _, _], _ => rfl
  have F40 := fun_mk (st := s_Aim___init__) l40 c40 k40
  have b40 := F40.binds (ps := ["self", "term", "options", "outcomes"]) fun _ _ _ _ _ _ us hl => match us, hl with | [_, _, _, _], _ => rfl
  have F41 := fun_mk (st := s_Aim_good) l41 c41 k41
  have b41 := F41.binds (ps := ["self", "context"]) fun _ _ _ _ _ _ us hl => match us, hl with | [_, _], _ => rfl
  have F42 := fun_mk (st := s_Aim___or__) l42 c42 k42
  have b42 := F42.binds (ps := ["self", "other"]) fun _ _ _ _ _ _ us hl => match us, hl with | [_, _], _ => rfl
  have F43 := fun_mk (st := s_Aim___and__) l43 c43 k43
  have b43 := F43.binds (ps := ["self", "other"]) fun _ _ _ _ _ _ us hl => match us, hl with | [_, _], _ => rfl
  have F44 := fun_mk (st := s_Aim___invert__) l44 c44 k44
  have b44 := F44.binds (ps := ["self"]) fun _ _ _ _ _ _ us hl => match us, hl with | [_], _ => rfl
  have F45 := fun_mk (st := s_require_small) l45 c45 k45
  have b45 := F45.binds (ps := ["options", "outcomes"]) fun _ _ _ _ _ _ us hl => match us, hl with | [_, _], _ => rfl
  have F46 := fun_mk (st := s_good_in_contexts) l46 c46 k46
  have b46 := F46.binds (ps := ["aim"]) fun _ _ _ _ _ _ us hl => match us, hl with | [_], _ => rfl
  have F47 := fun_mk (st := s_aim_table) l47 c47 k47
  have b47 := F47.binds (ps := ["aim"]) fun _ _ _ _ _ _ us hl => match us, hl with | [_], _ => rfl
  have F48 := fun_mk (st := s_parting_context) l48 c48 k48
  have b48 := F48.binds (ps := ["first", "second"]) fun _ _ _ _ _ _ us hl => match us, hl with | [_, _], _ => rfl
  have F49 := fun_mk (st := s_is_fair) l49 c49 k49
  have b49 := F49.binds (ps := ["aim"]) fun _ _ _ _ _ _ us hl => match us, hl with | [_], _ => rfl
  have F50 := fun_mk (st := s_fair_hull) l50 c50 k50
  have b50 := F50.binds (ps := ["aim"]) fun _ _ _ _ _ _ us hl => match us, hl with | [_], _ => rfl
  have F51 := fun_mk (st := s_fair_core) l51 c51 k51
  have b51 := F51.binds (ps := ["aim"]) fun _ _ _ _ _ _ us hl => match us, hl with | [_], _ => rfl
  have F52 := fun_mk (st := s__law_start) l52 c52 k52
  have b52 := F52.binds (ps := ["_law_script"]) fun _ _ _ _ _ _ us hl => match us, hl with | [_], _ => rfl
  have F53 := fun_mk (st := s__law_pick) l53 c53 k53
  have b53 := F53.binds (ps := ["_law_state", "_law_limit"]) fun _ _ _ _ _ _ us hl => match us, hl with | [_, _], _ => rfl
  have F54 := fun_mk (st := s__law_same) l54 c54 k54
  have b54 := F54.binds (ps := ["_law_actual", "_law_due"]) fun _ _ _ _ _ _ us hl => match us, hl with | [_, _], _ => rfl
  have F55 := fun_mk (st := s__law_contexts) l55 c55 k55
  have b55 := F55.binds (ps := ["_law_n", "_law_k"]) fun _ _ _ _ _ _ us hl => match us, hl with | [_, _], _ => rfl
  have F56 := fun_mk (st := s__law_context) l56 c56 k56
  have b56 := F56.binds (ps := ["_law_number", "_law_n", "_law_k"]) fun _ _ _ _ _ _ us hl => match us, hl with | [_, _, _], _ => rfl
  have F57 := fun_mk (st := s__law_some) l57 c57 k57
  have b57 := F57.binds (ps := ["_law_state", "_law_limit"]) fun _ _ _ _ _ _ us hl => match us, hl with | [_, _], _ => rfl
  have F58 := fun_mk (st := s__law_places) l58 c58 k58
  have b58 := F58.binds (ps := ["_law_state", "_law_many"]) fun _ _ _ _ _ _ us hl => match us, hl with | [_, _], _ => rfl
  have F59 := fun_mk (st := s__law_simple) l59 c59 k59
  have b59 := F59.binds (ps := ["_law_state", "_law_n", "_law_k"]) fun _ _ _ _ _ _ us hl => match us, hl with | [_, _, _], _ => rfl
  have F60 := fun_mk (st := s__law_aim) l60 c60 k60
  have b60 := F60.binds (ps := ["_law_state", "_law_n", "_law_k", "_law_levels"]) fun _ _ _ _ _ _ us hl => match us, hl with | [_, _, _, _], _ => rfl
  have F61 := fun_mk (st := s__law_simple_good) l61 c61 k61
  have b61 := F61.binds (ps := ["_law_term", "_law_context_here", "_law_mine", "_law_x"]) fun _ _ _ _ _ _ us hl => match us, hl with | [_, _, _, _], _ => rfl
  have F62 := fun_mk (st := s__law_good) l62 c62 k62
  have b62 := F62.binds (ps := ["_law_term", "_law_context_here", "_law_k"]) fun _ _ _ _ _ _ us hl => match us, hl with | [_, _, _], _ => rfl
  have F63 := fun_mk (st := s__law_shape) l63 c63 k63
  have b63 := F63.binds (ps := ["_law_state"]) fun _ _ _ _ _ _ us hl => match us, hl with | [_], _ => rfl
  have F64 := fun_mk (st := s__law_fair_rows) l64 c64 k64
  have b64 := F64.binds (ps := ["_law_state", "_law_contexts_here", "_law_k"]) fun _ _ _ _ _ _ us hl => match us, hl with | [_, _, _], _ => rfl
  have F65 := fun_mk (st := s__law_toggled) l65 c65 k65
  have b65 := F65.binds (ps := ["_law_state", "_law_rows", "_law_n"]) fun _ _ _ _ _ _ us hl => match us, hl with | [_, _, _], _ => rfl
  have F66 := fun_mk (st := s__law_any_aim) l66 c66 k66
  have b66 := F66.binds (ps := ["_law_state", "_law_contexts_here", "_law_n", "_law_k"]) fun _ _ _ _ _ _ us hl => match us, hl with | [_, _, _, _], _ => rfl
  have F67 := fun_mk (st := s__law_hull) l67 c67 k67
  have b67 := F67.binds (ps := ["_law_context_here", "_law_good_here"]) fun _ _ _ _ _ _ us hl => match us, hl with | [_, _], _ => rfl
  have F68 := fun_mk (st := s__law_core) l68 c68 k68
  have b68 := F68.binds (ps := ["_law_context_here", "_law_good_here"]) fun _ _ _ _ _ _ us hl => match us, hl with | [_, _], _ => rfl
  have F69 := fun_mk (st := s__law_others) l69 c69 k69
  have b69 := F69.binds (ps := ["_law_rows", "_law_n"]) fun _ _ _ _ _ _ us hl => match us, hl with | [_, _], _ => rfl
  have F70 := fun_mk (st := s__law_do) l70 c70 k70
  have b70 := F70.binds (ps := ["_law_door", "_law_aim_here"]) fun _ _ _ _ _ _ us hl => match us, hl with | [_, _], _ => rfl
  have F71 := fun_mk (st := s__law_asked) l71 c71 k71
  have b71 := F71.binds (ps := ["_law_aim_here", "_law_size", "_law_hull_here", "_law_core_here", "_law_fair"]) fun _ _ _ _ _ _ us hl => match us, hl with | [_, _, _, _, _], _ => rfl
  have F72 := fun_mk (st := s__law_refused) l72 c72 k72
  have b72 := F72.binds (ps := ["_law_state"]) fun _ _ _ _ _ _ us hl => match us, hl with | [_], _ => rfl
  have F73 := fun_mk (st := s_law) l73 c73 k73
  have b73 := F73.binds (ps := ["_law_script"]) fun _ _ _ _ _ _ us hl => match us, hl with | [_], _ => rfl
  have ox_InvalidAim : OexC K c_InvalidAim := ⟨⟨_, _, _, _, _, _, _, _, _, _, _, _, _, _, _, ob_InvalidAim, rv_InvalidAim⟩, sa_InvalidAim, e_InvalidAim, t_InvalidAim, kc_InvalidAim⟩
  have su_InvalidAim : SupC K c_InvalidAim c_InvalidTerm cc_InvalidAim fi_InvalidAim cda_InvalidAim fl_InvalidAim := ⟨ox_InvalidAim, ⟨_, _, _, cell_InvalidAim⟩, own_InvalidAim, sb_InvalidAim, ve_InvalidAim, opq_, sup_InvalidAim, ⟨_, _, _, _, _, code_InvalidAim, cfl_InvalidAim⟩⟩
  have e_SHAPES_0 := ent_tup (ss := []) v_SHAPES_0 lt_SHAPES_0 vs_SHAPES_0 sz_SHAPES_0
  have e_SHAPES_1 := ent_tup (ss := ["ranks"]) v_SHAPES_1 lt_SHAPES_1 vs_SHAPES_1 sz_SHAPES_1
  have e_SHAPES_2 := ent_tup (ss := ["ranks"]) v_SHAPES_2 lt_SHAPES_2 vs_SHAPES_2 sz_SHAPES_2
  have e_SHAPES_3 := ent_tup (ss := []) v_SHAPES_3 lt_SHAPES_3 vs_SHAPES_3 sz_SHAPES_3
  have e_SHAPES_4 := ent_tup (ss := []) v_SHAPES_4 lt_SHAPES_4 vs_SHAPES_4 sz_SHAPES_4
  have e_SHAPES_5 := ent_tup (ss := []) v_SHAPES_5 lt_SHAPES_5 vs_SHAPES_5 sz_SHAPES_5
  have e_SHAPES_6 := ent_tup (ss := ["option"]) v_SHAPES_6 lt_SHAPES_6 vs_SHAPES_6 sz_SHAPES_6
  have e_SHAPES_7 := ent_tup (ss := ["option"]) v_SHAPES_7 lt_SHAPES_7 vs_SHAPES_7 sz_SHAPES_7
  have e_SHAPES_8 := ent_tup (ss := ["outcomes"]) v_SHAPES_8 lt_SHAPES_8 vs_SHAPES_8 sz_SHAPES_8
  have e_SHAPES_9 := ent_tup (ss := ["options"]) v_SHAPES_9 lt_SHAPES_9 vs_SHAPES_9 sz_SHAPES_9
  have e_SHAPES_10 := ent_tup (ss := ["rows"]) v_SHAPES_10 lt_SHAPES_10 vs_SHAPES_10 sz_SHAPES_10
  have e_SHAPES_11 := ent_tup (ss := ["aim", "aim"]) v_SHAPES_11 lt_SHAPES_11 vs_SHAPES_11 sz_SHAPES_11
  have e_SHAPES_12 := ent_tup (ss := ["aim", "aim"]) v_SHAPES_12 lt_SHAPES_12 vs_SHAPES_12 sz_SHAPES_12
  have e_SHAPES_13 := ent_tup (ss := ["aim", "aim"]) v_SHAPES_13 lt_SHAPES_13 vs_SHAPES_13 sz_SHAPES_13
  have e_SHAPES_14 := ent_tup (ss := ["aim"]) v_SHAPES_14 lt_SHAPES_14 vs_SHAPES_14 sz_SHAPES_14
  have e_SHAPES_15 := ent_tup (ss := ["aim"]) v_SHAPES_15 lt_SHAPES_15 vs_SHAPES_15 sz_SHAPES_15
  have e_SHAPES_16 := ent_tup (ss := ["codes", "aim"]) v_SHAPES_16 lt_SHAPES_16 vs_SHAPES_16 sz_SHAPES_16
  have e_SHAPES_17 := ent_tup (ss := ["places", "aim"]) v_SHAPES_17 lt_SHAPES_17 vs_SHAPES_17 sz_SHAPES_17
  have D_SHAPES : DictOk K w c_SHAPES [("any", .tup []), ("best", .tup [.str "ranks"]), ("second", .tup [.str "ranks"]), ("most", .tup []), ("fewest", .tup []), ("fixed", .tup []), ("like", .tup [.str "option"]), ("unlike", .tup [.str "option"]), ("among", .tup [.str "outcomes"]), ("only", .tup [.str "options"]), ("table", .tup [.str "rows"]), ("either", .tup [.str "aim", .str "aim"]), ("both", .tup [.str "aim", .str "aim"]), ("else", .tup [.str "aim", .str "aim"]), ("not", .tup [.str "aim"]), ("first", .tup [.str "aim"]), ("recode", .tup [.str "codes", .str "aim"]), ("reorder", .tup [.str "places", .str "aim"])] := dictOk_by ld_SHAPES kl_SHAPES (kn_SHAPES.trans rfl) lo_SHAPES (List.forall_mem_cons.mpr ⟨e_SHAPES_0, List.forall_mem_cons.mpr ⟨e_SHAPES_1, List.forall_mem_cons.mpr ⟨e_SHAPES_2, List.forall_mem_cons.mpr ⟨e_SHAPES_3, List.forall_mem_cons.mpr ⟨e_SHAPES_4, List.forall_mem_cons.mpr ⟨e_SHAPES_5, List.forall_mem_cons.mpr ⟨e_SHAPES_6, List.forall_mem_cons.mpr ⟨e_SHAPES_7, List.forall_mem_cons.mpr ⟨e_SHAPES_8, List.forall_mem_cons.mpr ⟨e_SHAPES_9, List.forall_mem_cons.mpr ⟨e_SHAPES_10, List.forall_mem_cons.mpr ⟨e_SHAPES_11, List.forall_mem_cons.mpr ⟨e_SHAPES_12, List.forall_mem_cons.mpr ⟨e_SHAPES_13, List.forall_mem_cons.mpr ⟨e_SHAPES_14, List.forall_mem_cons.mpr ⟨e_SHAPES_15, List.forall_mem_cons.mpr ⟨e_SHAPES_16, List.forall_mem_cons.mpr ⟨e_SHAPES_17, fun p hp => by cases hp⟩⟩⟩⟩⟩⟩⟩⟩⟩⟩⟩⟩⟩⟩⟩⟩⟩⟩)
  have e_RULES_0 := ent_def v_RULES_0
  have e_RULES_1 := ent_def v_RULES_1
  have e_RULES_2 := ent_def v_RULES_2
  have e_RULES_3 := ent_def v_RULES_3
  have e_RULES_4 := ent_def v_RULES_4
  have e_RULES_5 := ent_def v_RULES_5
  have e_RULES_6 := ent_def v_RULES_6
  have e_RULES_7 := ent_def v_RULES_7
  have e_RULES_8 := ent_def v_RULES_8
  have e_RULES_9 := ent_def v_RULES_9
  have e_RULES_10 := ent_def v_RULES_10
  have e_RULES_11 := ent_def v_RULES_11
  have e_RULES_12 := ent_def v_RULES_12
  have e_RULES_13 := ent_def v_RULES_13
  have e_RULES_14 := ent_def v_RULES_14
  have e_RULES_15 := ent_def v_RULES_15
  have e_RULES_16 := ent_def v_RULES_16
  have e_RULES_17 := ent_def v_RULES_17
  have D_RULES : DictOk K w c_RULES [("any", .hd (.ref f15)), ("best", .hd (.ref f16)), ("second", .hd (.ref f17)), ("most", .hd (.ref f18)), ("fewest", .hd (.ref f19)), ("fixed", .hd (.ref f20)), ("like", .hd (.ref f21)), ("unlike", .hd (.ref f22)), ("among", .hd (.ref f23)), ("only", .hd (.ref f24)), ("table", .hd (.ref f25)), ("either", .hd (.ref f26)), ("both", .hd (.ref f27)), ("else", .hd (.ref f28)), ("not", .hd (.ref f29)), ("first", .hd (.ref f30)), ("recode", .hd (.ref f31)), ("reorder", .hd (.ref f32))] := dictOk_by ld_RULES kl_RULES (kn_RULES.trans rfl) lo_RULES (List.forall_mem_cons.mpr ⟨e_RULES_0, List.forall_mem_cons.mpr ⟨e_RULES_1, List.forall_mem_cons.mpr ⟨e_RULES_2, List.forall_mem_cons.mpr ⟨e_RULES_3, List.forall_mem_cons.mpr ⟨e_RULES_4, List.forall_mem_cons.mpr ⟨e_RULES_5, List.forall_mem_cons.mpr ⟨e_RULES_6, List.forall_mem_cons.mpr ⟨e_RULES_7, List.forall_mem_cons.mpr ⟨e_RULES_8, List.forall_mem_cons.mpr ⟨e_RULES_9, List.forall_mem_cons.mpr ⟨e_RULES_10, List.forall_mem_cons.mpr ⟨e_RULES_11, List.forall_mem_cons.mpr ⟨e_RULES_12, List.forall_mem_cons.mpr ⟨e_RULES_13, List.forall_mem_cons.mpr ⟨e_RULES_14, List.forall_mem_cons.mpr ⟨e_RULES_15, List.forall_mem_cons.mpr ⟨e_RULES_16, List.forall_mem_cons.mpr ⟨e_RULES_17, fun p hp => by cases hp⟩⟩⟩⟩⟩⟩⟩⟩⟩⟩⟩⟩⟩⟩⟩⟩⟩⟩)
  exact ⟨_, fun s v => .of_eq rfl, fun base _ _ => ok_law (⟨f0, _, F0, PySem.W.mg_of X G a0, b0,
    f1, _, F1, PySem.W.mg_of X G a1, b1,
    f2, _, F2, PySem.W.mg_of X G a2, b2,
    f3, _, F3, PySem.W.mg_of X G a3, b3,
    f4, _, F4, PySem.W.mg_of X G a4, b4,
    f5, _, F5, PySem.W.mg_of X G a5, b5,
    f6, _, F6, PySem.W.mg_of X G a6, b6,
    f7, _, F7, PySem.W.mg_of X G a7, b7,
    f8, _, F8, PySem.W.mg_of X G a8, b8,
    f9, _, F9, PySem.W.mg_of X G a9, b9,
    f10, _, F10, PySem.W.mg_of X G a10, b10,
    f11, _, F11, PySem.W.mg_of X G a11, b11,
    f12, _, F12, PySem.W.mg_of X G a12, b12,
    f13, _, F13, PySem.W.mg_of X G a13, b13,
    f14, _, F14, PySem.W.mg_of X G a14, b14,
    f15, _, F15, PySem.W.mg_of X G a15, b15,
    f16, _, F16, PySem.W.mg_of X G a16, b16,
    f17, _, F17, PySem.W.mg_of X G a17, b17,
    f18, _, F18, PySem.W.mg_of X G a18, b18,
    f19, _, F19, PySem.W.mg_of X G a19, b19,
    f20, _, F20, PySem.W.mg_of X G a20, b20,
    f21, _, F21, PySem.W.mg_of X G a21, b21,
    f22, _, F22, PySem.W.mg_of X G a22, b22,
    f23, _, F23, PySem.W.mg_of X G a23, b23,
    f24, _, F24, PySem.W.mg_of X G a24, b24,
    f25, _, F25, PySem.W.mg_of X G a25, b25,
    f26, _, F26, PySem.W.mg_of X G a26, b26,
    f27, _, F27, PySem.W.mg_of X G a27, b27,
    f28, _, F28, PySem.W.mg_of X G a28, b28,
    f29, _, F29, PySem.W.mg_of X G a29, b29,
    f30, _, F30, PySem.W.mg_of X G a30, b30,
    f31, _, F31, PySem.W.mg_of X G a31, b31,
    f32, _, F32, PySem.W.mg_of X G a32, b32,
    f33, _, F33, PySem.W.mg_of X G a33, b33,
    f34, _, F34, PySem.W.mg_of X G a34, b34,
    f35, _, F35, PySem.W.mg_of X G a35, b35,
    f36, _, F36, PySem.W.mg_of X G a36, b36,
    f37, _, F37, PySem.W.mg_of X G a37, b37,
    f38, _, F38, PySem.W.mg_of X G a38, b38,
    f39, _, F39, PySem.W.mg_of X G a39, b39,
    f40, _, F40, b40,
    f41, _, F41, b41,
    f42, _, F42, b42,
    f43, _, F43, b43,
    f44, _, F44, b44,
    f45, _, F45, PySem.W.mg_of X G a45, b45,
    f46, _, F46, PySem.W.mg_of X G a46, b46,
    f47, _, F47, PySem.W.mg_of X G a47, b47,
    f48, _, F48, PySem.W.mg_of X G a48, b48,
    f49, _, F49, PySem.W.mg_of X G a49, b49,
    f50, _, F50, PySem.W.mg_of X G a50, b50,
    f51, _, F51, PySem.W.mg_of X G a51, b51,
    f52, _, F52, PySem.W.mg_of X G a52, b52,
    f53, _, F53, PySem.W.mg_of X G a53, b53,
    f54, _, F54, PySem.W.mg_of X G a54, b54,
    f55, _, F55, PySem.W.mg_of X G a55, b55,
    f56, _, F56, PySem.W.mg_of X G a56, b56,
    f57, _, F57, PySem.W.mg_of X G a57, b57,
    f58, _, F58, PySem.W.mg_of X G a58, b58,
    f59, _, F59, PySem.W.mg_of X G a59, b59,
    f60, _, F60, PySem.W.mg_of X G a60, b60,
    f61, _, F61, PySem.W.mg_of X G a61, b61,
    f62, _, F62, PySem.W.mg_of X G a62, b62,
    f63, _, F63, PySem.W.mg_of X G a63, b63,
    f64, _, F64, PySem.W.mg_of X G a64, b64,
    f65, _, F65, PySem.W.mg_of X G a65, b65,
    f66, _, F66, PySem.W.mg_of X G a66, b66,
    f67, _, F67, PySem.W.mg_of X G a67, b67,
    f68, _, F68, PySem.W.mg_of X G a68, b68,
    f69, _, F69, PySem.W.mg_of X G a69, b69,
    f70, _, F70, PySem.W.mg_of X G a70, b70,
    f71, _, F71, PySem.W.mg_of X G a71, b71,
    f72, _, F72, PySem.W.mg_of X G a72, b72,
    fa, _, F73, PySem.W.mg_of X G a73, b73,
    PySem.W.mg_none_of X G z_isinstance,
    PySem.W.mg_none_of X G z_int,
    PySem.W.mg_none_of X G z_bool,
    PySem.W.mg_none_of X G z_all,
    PySem.W.mg_none_of X G z_str,
    PySem.W.mg_none_of X G z_len,
    PySem.W.mg_none_of X G z_enumerate,
    PySem.W.mg_none_of X G z_tuple,
    PySem.W.mg_none_of X G z_zip,
    PySem.W.mg_none_of X G z_range,
    PySem.W.mg_none_of X G z_max,
    PySem.W.mg_none_of X G z_sorted,
    PySem.W.mg_none_of X G z_set,
    PySem.W.mg_none_of X G z_min,
    PySem.W.mg_none_of X G z_list,
    PySem.W.mg_none_of X G z_ValueError,
    PySem.W.mg_none_of X G z_any,
    ⟨_, PySem.W.mg_of X G gc_LETTERS⟩,
    ⟨_, PySem.W.mg_of X G gc_DIGITS⟩,
    ⟨_, PySem.W.mg_of X G gc_LONGEST_WORD⟩,
    ⟨_, PySem.W.mg_of X G gc_LONGEST_NUMBER⟩,
    ⟨_, PySem.W.mg_of X G gc_NUMBERS_END⟩,
    ⟨_, PySem.W.mg_of X G gc_DEEPEST_TUPLE⟩,
    ⟨_, PySem.W.mg_of X G gc_MOST_OPTIONS⟩,
    ⟨_, PySem.W.mg_of X G gc_MOST_OUTCOMES⟩,
    ⟨_, PySem.W.mg_of X G gc_MOST_SMALL_OPTIONS⟩,
    ⟨_, PySem.W.mg_of X G gc_MOST_SMALL_CONTEXTS⟩,
    ⟨_, PySem.W.mg_of X G gc_DEEPEST_AIM⟩,
    ⟨_, PySem.W.mg_of X G gc_RANKS_END⟩,
    c_OutOfRange, PySem.W.mg_of X G g_OutOfRange,
    c_SizeMismatch, PySem.W.mg_of X G g_SizeMismatch,
    c_InvalidAim, PySem.W.mg_of X G g_InvalidAim,
    c_InvalidContext, PySem.W.mg_of X G g_InvalidContext,
    c_TooLarge, PySem.W.mg_of X G g_TooLarge,
    c_InvalidTerm, PySem.W.mg_of X G g_InvalidTerm,
    c_ChoosersError, PySem.W.mg_of X G g_ChoosersError,
    fi_InvalidAim, _, ox_InvalidAim, ic_InvalidAim, ti_InvalidAim, no_InvalidAim, ⟨hg_InvalidAim, hk_InvalidAim, e_InvalidAim, hd_InvalidAim⟩, ⟨hg_InvalidAim, hk_InvalidAim, e_InvalidAim, hd_InvalidAim, ha_InvalidAim, hn_, ht_, hm_InvalidAim⟩, okinit_InvalidTerm li_InvalidAim cdi_InvalidAim su_InvalidAim hfl_InvalidAim htop_ (PySem.W.mg_none_of X G z_super), Binds.all fun us hl => match us, hl with | [_, _], _ => rfl,
    kit_refS s_InvalidAim_InvalidAim q_SizeMismatch t_SizeMismatch s_InvalidAim_SizeMismatch,
    kit_refS s_InvalidAim_InvalidAim q_OutOfRange t_OutOfRange s_InvalidAim_OutOfRange,
    kit_refS s_InvalidAim_InvalidAim q_InvalidTerm t_InvalidTerm s_InvalidAim_InvalidTerm,
    kit_refS s_InvalidAim_InvalidAim q_TooLarge t_TooLarge s_InvalidAim_TooLarge,
    kit_tyS rfl s_InvalidAim_ValueError,
    PySem.W.exm_ref e_ChoosersError hd_ChoosersError t_ChoosersError s_InvalidAim_ChoosersError,
    x_OutOfRange, kc_OutOfRange, e_OutOfRange, t_OutOfRange, ⟨hg_OutOfRange, hk_OutOfRange, e_OutOfRange, hd_OutOfRange, ha_OutOfRange, hn_, ht_, hm_OutOfRange⟩,
    kit_refS s_OutOfRange_OutOfRange q_SizeMismatch t_SizeMismatch s_OutOfRange_SizeMismatch,
    kit_refS s_OutOfRange_OutOfRange q_OutOfRange t_OutOfRange s_OutOfRange_OutOfRange,
    kit_refS s_OutOfRange_OutOfRange q_InvalidTerm t_InvalidTerm s_OutOfRange_InvalidTerm,
    kit_refS s_OutOfRange_OutOfRange q_TooLarge t_TooLarge s_OutOfRange_TooLarge,
    kit_tyS rfl s_OutOfRange_ValueError,
    PySem.W.exm_ref e_ChoosersError hd_ChoosersError t_ChoosersError s_OutOfRange_ChoosersError,
    x_SizeMismatch, kc_SizeMismatch, e_SizeMismatch, t_SizeMismatch, ⟨hg_SizeMismatch, hk_SizeMismatch, e_SizeMismatch, hd_SizeMismatch, ha_SizeMismatch, hn_, ht_, hm_SizeMismatch⟩,
    kit_refS s_SizeMismatch_SizeMismatch q_SizeMismatch t_SizeMismatch s_SizeMismatch_SizeMismatch,
    kit_refS s_SizeMismatch_SizeMismatch q_OutOfRange t_OutOfRange s_SizeMismatch_OutOfRange,
    kit_refS s_SizeMismatch_SizeMismatch q_InvalidTerm t_InvalidTerm s_SizeMismatch_InvalidTerm,
    kit_refS s_SizeMismatch_SizeMismatch q_TooLarge t_TooLarge s_SizeMismatch_TooLarge,
    kit_tyS rfl s_SizeMismatch_ValueError,
    PySem.W.exm_ref e_ChoosersError hd_ChoosersError t_ChoosersError s_SizeMismatch_ChoosersError,
    x_InvalidContext, kc_InvalidContext, e_InvalidContext, t_InvalidContext, ⟨hg_InvalidContext, hk_InvalidContext, e_InvalidContext, hd_InvalidContext, ha_InvalidContext, hn_, ht_, hm_InvalidContext⟩,
    kit_refS s_InvalidContext_InvalidContext q_SizeMismatch t_SizeMismatch s_InvalidContext_SizeMismatch,
    kit_refS s_InvalidContext_InvalidContext q_OutOfRange t_OutOfRange s_InvalidContext_OutOfRange,
    kit_refS s_InvalidContext_InvalidContext q_InvalidTerm t_InvalidTerm s_InvalidContext_InvalidTerm,
    kit_refS s_InvalidContext_InvalidContext q_TooLarge t_TooLarge s_InvalidContext_TooLarge,
    kit_tyS rfl s_InvalidContext_ValueError,
    PySem.W.exm_ref e_ChoosersError hd_ChoosersError t_ChoosersError s_InvalidContext_ChoosersError,
    x_TooLarge, kc_TooLarge, e_TooLarge, t_TooLarge, ⟨hg_TooLarge, hk_TooLarge, e_TooLarge, hd_TooLarge, ha_TooLarge, hn_, ht_, hm_TooLarge⟩,
    kit_refS s_TooLarge_TooLarge q_SizeMismatch t_SizeMismatch s_TooLarge_SizeMismatch,
    kit_refS s_TooLarge_TooLarge q_OutOfRange t_OutOfRange s_TooLarge_OutOfRange,
    kit_refS s_TooLarge_TooLarge q_InvalidTerm t_InvalidTerm s_TooLarge_InvalidTerm,
    kit_refS s_TooLarge_TooLarge q_TooLarge t_TooLarge s_TooLarge_TooLarge,
    kit_tyS rfl s_TooLarge_ValueError,
    PySem.W.exm_ref e_ChoosersError hd_ChoosersError t_ChoosersError s_TooLarge_ChoosersError,
    c_SHAPES, PySem.W.mg_of X G g_SHAPES, D_SHAPES,
    c_RULES, PySem.W.mg_of X G g_RULES, D_RULES,
    c_Aim, PySem.W.mg_of X G g_Aim, ⟨mk_Aim, a40, i40, kcc_Aim⟩, ⟨pg_Aim, hdc_Aim, po_Aim, sac_Aim⟩,
    sf_Aim,
    na_Aim_term,
    na_Aim_options,
    na_Aim_outcomes,
    ⟨a41, i41, k41⟩,
    ⟨a42, i42, k42⟩,
    ⟨a43, i43, k43⟩,
    ⟨a44, i44, k44⟩⟩ : Txt P w K mg)⟩
theorem sp_law_of {K : Fg} {H : Hp} {a : Addr} {ns : List Int} (hl : ns.length ≤ 63) (hS : SqL K H a (ns.map V.int)) : spOf K c_law [.ref a] H (fun v _ => v = .bl true) fun _ _ _ => False :=
  ⟨fun _ => none, [.scr ns], fun d _ => d = .bl true, fun _ _ => False, (fun _ _ z => nomatch z), .scr (hS.elim (fun q => .inl ⟨q, .of rfl⟩) fun q => .inr q) .nil, ⟨ns, rfl, hl, rfl⟩, fun v H' d μ' _ _ r e => by subst e; exact Rep.bl_inv r, fun _ _ _ _ _ _ _ _ z => z⟩
open PyProof.Rows in
theorem walk {l : PySem.W.OpenLaw} {q : Program} {loose : List Str} {XP : (Str → Option Value) → Heap → Prop} {YP : World → Heap → Prop} {d : DefRec} {K : Params → PySem.W.Frag} (hn : l.most = some 63) (hdf : d.params.defaults = [])
    (hY : ∀ (w : World) (h : Heap), YP w h → (K w.params).In h)
    (F : ∀ (w : World) (mg : Str → Option Value) (fa : Addr) (h : Heap), (K w.params).In h → h.Ns mainGlobals mg → mg d.name = some (.ref fa) →
      ∃ fd : FuncData, (∀ (s : Shared) (u : Value), BindsTo s fd ⟨[u], []⟩ [("_law_script", u)]) ∧ ∀ base : Heap, (K w.params).In base → base.Ns mainGlobals mg → FnOk l.prog w (K w.params) mg base (L2N.CX l.prog w) 40 fa fd ["_law_script"] (spOf (K w.params) c_law)) :
    PySem.W.WalkO q loose XP YP l.row.toRowW d [] (fun f vs => PySem.call f vs) :=
  L2.walk_of (n := 63) (k := 40) (x := "_law_script") (CX := fun w => L2N.CX l.prog w) (sp := fun w => spOf (K w.params) c_law) hn (by decide) hdf ⟨rfl, by decide, by decide⟩ hY F (fun _ _ a ns hl _ hS => sp_law_of hl hS) fun _ _ _ _ _ h => by
    obtain ⟨_, _, _, _, _, _, _, _, _, _, _, _, z⟩ := h
    exact z
end LW
set_option Elab.async false
set_option linter.all false
open PySem PySem.W PyProof.Rows in
set_option maxRecDepth 100000 in
set_option maxHeartbeats 0 in
theorem PySem.Challenge.cw_choosersrow_k09_fair_hulls_and_cores_holds : PySem.Challenge.rw_choosersrow_k09_fair_hulls_and_cores.Holds := by
  w_on; o_law; k_head; (case hw => w_witness2)
  k_fill
  refine LW.walk (l := PySem.Challenge.rw_choosersrow_k09_fair_hulls_and_cores) rfl rfl (fun w h Y => PySem.W.kIn_of Y) ?F
  case F =>
    intro w mg fa h KX G hmg
    refine' LW.all_mk KX G hmg ?g_Aim ?a0 ?l0 ?c0 ?k0 ?a1 ?l1 ?c1 ?k1 ?a2 ?l2 ?c2 ?k2 ?a3 ?l3 ?c3 ?k3 ?a4 ?l4 ?c4 ?k4 ?a5 ?l5 ?c5 ?k5 ?a6 ?l6 ?c6 ?k6 ?a7 ?l7 ?c7 ?k7 ?a8 ?l8 ?c8 ?k8 ?a9 ?l9 ?c9 ?k9 ?a10 ?l10 ?c10 ?k10 ?a11 ?l11 ?c11 ?k11 ?a12 ?l12 ?c12 ?k12 ?a13 ?l13 ?c13 ?k13 ?a14 ?l14 ?c14 ?k14 ?a15 ?l15 ?c15 ?k15 ?a16 ?l16 ?c16 ?k16 ?a17 ?l17 ?c17 ?k17 ?a18 ?l18 ?c18 ?k18 ?a19 ?l19 ?c19 ?k19 ?a20 ?l20 ?c20 ?k20 ?a21 ?l21 ?c21 ?k21 ?a22 ?l22 ?c22 ?k22 ?a23 ?l23 ?c23 ?k23 ?a24 ?l24 ?c24 ?k24 ?a25 ?l25 ?c25 ?k25 ?a26 ?l26 ?c26 ?k26 ?a27 ?l27 ?c27 ?k27 ?a28 ?l28 ?c28 ?k28 ?a29 ?l29 ?c29 ?k29 ?a30 ?l30 ?c30 ?k30 ?a31 ?l31 ?c31 ?k31 ?a32 ?l32 ?c32 ?k32 ?a33 ?l33 ?c33 ?k33 ?a34 ?l34 ?c34 ?k34 ?a35 ?l35 ?c35 ?k35 ?a36 ?l36 ?c36 ?k36 ?a37 ?l37 ?c37 ?k37 ?a38 ?l38 ?c38 ?k38 ?a39 ?l39 ?c39 ?k39 ?a40 ?i40 ?l40 ?c40 ?k40 ?a41 ?i41 ?l41 ?c41 ?k41 ?a42 ?i42 ?l42 ?c42 ?k42 ?a43 ?i43 ?l43 ?c43 ?k43 ?a44 ?i44 ?l44 ?c44 ?k44 ?a45 ?l45 ?c45 ?k45 ?a46 ?l46 ?c46 ?k46 ?a47 ?l47 ?c47 ?k47 ?a48 ?l48 ?c48 ?k48 ?a49 ?l49 ?c49 ?k49 ?a50 ?l50 ?c50 ?k50 ?a51 ?l51 ?c51 ?k51 ?a52 ?l52 ?c52 ?k52 ?a53 ?l53 ?c53 ?k53 ?a54 ?l54 ?c54 ?k54 ?a55 ?l55 ?c55 ?k55 ?a56 ?l56 ?c56 ?k56 ?a57 ?l57 ?c57 ?k57 ?a58 ?l58 ?c58 ?k58 ?a59 ?l59 ?c59 ?k59 ?a60 ?l60 ?c60 ?k60 ?a61 ?l61 ?c61 ?k61 ?a62 ?l62 ?c62 ?k62 ?a63 ?l63 ?c63 ?k63 ?a64 ?l64 ?c64 ?k64 ?a65 ?l65 ?c65 ?k65 ?a66 ?l66 ?c66 ?k66 ?a67 ?l67 ?c67 ?k67 ?a68 ?l68 ?c68 ?k68 ?a69 ?l69 ?c69 ?k69 ?a70 ?l70 ?c70 ?k70 ?a71 ?l71 ?c71 ?k71 ?a72 ?l72 ?c72 ?k72 ?a73 ?l73 ?c73 ?k73 ?z_isinstance ?z_int ?z_bool ?z_all ?z_str ?z_len ?z_enumerate ?z_tuple ?z_zip ?z_range ?z_max ?z_sorted ?z_set ?z_min ?z_list ?z_ValueError ?z_any ?gc_LETTERS ?gc_DIGITS ?gc_LONGEST_WORD ?gc_LONGEST_NUMBER ?gc_NUMBERS_END ?gc_DEEPEST_TUPLE ?gc_MOST_OPTIONS ?gc_MOST_OUTCOMES ?gc_MOST_SMALL_OPTIONS ?gc_MOST_SMALL_CONTEXTS ?gc_DEEPEST_AIM ?gc_RANKS_END ?g_OutOfRange ?g_SizeMismatch ?g_InvalidAim ?g_InvalidContext ?g_TooLarge ?g_InvalidTerm ?g_ChoosersError ?x_OutOfRange ?x_SizeMismatch ?x_InvalidContext ?x_TooLarge ?z_super ?opq_ ?kc_OutOfRange ?e_OutOfRange ?t_OutOfRange ?hg_OutOfRange ?hk_OutOfRange ?hd_OutOfRange ?ha_OutOfRange ?hm_OutOfRange ?s_OutOfRange_OutOfRange ?s_OutOfRange_SizeMismatch ?s_OutOfRange_InvalidTerm ?s_OutOfRange_TooLarge ?s_OutOfRange_ValueError ?s_OutOfRange_ChoosersError ?kc_SizeMismatch ?e_SizeMismatch ?t_SizeMismatch ?hg_SizeMismatch ?hk_SizeMismatch ?hd_SizeMismatch ?ha_SizeMismatch ?hm_SizeMismatch ?s_SizeMismatch_SizeMismatch ?s_SizeMismatch_OutOfRange ?s_SizeMismatch_InvalidTerm ?s_SizeMismatch_TooLarge ?s_SizeMismatch_ValueError ?s_SizeMismatch_ChoosersError ?kc_InvalidAim ?e_InvalidAim ?t_InvalidAim ?hg_InvalidAim ?hk_InvalidAim ?hd_InvalidAim ?ha_InvalidAim ?hm_InvalidAim ?s_InvalidAim_InvalidAim ?s_InvalidAim_SizeMismatch ?s_InvalidAim_OutOfRange ?s_InvalidAim_InvalidTerm ?s_InvalidAim_TooLarge ?s_InvalidAim_ValueError ?s_InvalidAim_ChoosersError ?kc_InvalidContext ?e_InvalidContext ?t_InvalidContext ?hg_InvalidContext ?hk_InvalidContext ?hd_InvalidContext ?ha_InvalidContext ?hm_InvalidContext ?s_InvalidContext_InvalidContext ?s_InvalidContext_SizeMismatch ?s_InvalidContext_OutOfRange ?s_InvalidContext_InvalidTerm ?s_InvalidContext_TooLarge ?s_InvalidContext_ValueError ?s_InvalidContext_ChoosersError ?kc_TooLarge ?e_TooLarge ?t_TooLarge ?hg_TooLarge ?hk_TooLarge ?hd_TooLarge ?ha_TooLarge ?hm_TooLarge ?s_TooLarge_TooLarge ?s_TooLarge_SizeMismatch ?s_TooLarge_OutOfRange ?s_TooLarge_InvalidTerm ?s_TooLarge_ValueError ?s_TooLarge_ChoosersError ?ic_InvalidAim ?li_InvalidAim ?cdi_InvalidAim ?ti_InvalidAim ?no_InvalidAim ?cell_InvalidAim ?own_InvalidAim ?sb_InvalidAim ?ve_InvalidAim ?sup_InvalidAim ?code_InvalidAim ?cfl_InvalidAim ?hfl_InvalidAim ?ob_InvalidAim ?rv_InvalidAim ?sa_InvalidAim ?htop_ ?q_OutOfRange ?q_SizeMismatch ?q_InvalidAim ?q_InvalidContext ?q_TooLarge ?q_InvalidTerm ?t_InvalidTerm ?q_ChoosersError ?t_ChoosersError ?e_ChoosersError ?hd_ChoosersError ?hn_ ?ht_ ?pg_Aim ?hdc_Aim ?po_Aim ?sac_Aim ?mk_Aim ?kcc_Aim ?sf_Aim ?na_Aim_term ?na_Aim_options ?na_Aim_outcomes ?g_SHAPES ?ld_SHAPES ?kl_SHAPES ?kn_SHAPES ?lo_SHAPES ?v_SHAPES_0 ?lt_SHAPES_0 ?vs_SHAPES_0 ?sz_SHAPES_0 ?v_SHAPES_1 ?lt_SHAPES_1 ?vs_SHAPES_1 ?sz_SHAPES_1 ?v_SHAPES_2 ?lt_SHAPES_2 ?vs_SHAPES_2 ?sz_SHAPES_2 ?v_SHAPES_3 ?lt_SHAPES_3 ?vs_SHAPES_3 ?sz_SHAPES_3 ?v_SHAPES_4 ?lt_SHAPES_4 ?vs_SHAPES_4 ?sz_SHAPES_4 ?v_SHAPES_5 ?lt_SHAPES_5 ?vs_SHAPES_5 ?sz_SHAPES_5 ?v_SHAPES_6 ?lt_SHAPES_6 ?vs_SHAPES_6 ?sz_SHAPES_6 ?v_SHAPES_7 ?lt_SHAPES_7 ?vs_SHAPES_7 ?sz_SHAPES_7 ?v_SHAPES_8 ?lt_SHAPES_8 ?vs_SHAPES_8 ?sz_SHAPES_8 ?v_SHAPES_9 ?lt_SHAPES_9 ?vs_SHAPES_9 ?sz_SHAPES_9 ?v_SHAPES_10 ?lt_SHAPES_10 ?vs_SHAPES_10 ?sz_SHAPES_10 ?v_SHAPES_11 ?lt_SHAPES_11 ?vs_SHAPES_11 ?sz_SHAPES_11 ?v_SHAPES_12 ?lt_SHAPES_12 ?vs_SHAPES_12 ?sz_SHAPES_12 ?v_SHAPES_13 ?lt_SHAPES_13 ?vs_SHAPES_13 ?sz_SHAPES_13 ?v_SHAPES_14 ?lt_SHAPES_14 ?vs_SHAPES_14 ?sz_SHAPES_14 ?v_SHAPES_15 ?lt_SHAPES_15 ?vs_SHAPES_15 ?sz_SHAPES_15 ?v_SHAPES_16 ?lt_SHAPES_16 ?vs_SHAPES_16 ?sz_SHAPES_16 ?v_SHAPES_17 ?lt_SHAPES_17 ?vs_SHAPES_17 ?sz_SHAPES_17 ?g_RULES ?ld_RULES ?kl_RULES ?kn_RULES ?lo_RULES ?v_RULES_0 ?v_RULES_1 ?v_RULES_2 ?v_RULES_3 ?v_RULES_4 ?v_RULES_5 ?v_RULES_6 ?v_RULES_7 ?v_RULES_8 ?v_RULES_9 ?v_RULES_10 ?v_RULES_11 ?v_RULES_12 ?v_RULES_13 ?v_RULES_14 ?v_RULES_15 ?v_RULES_16 ?v_RULES_17
    (case g_Aim => k_is)
    (case a0 => k_is)
    (case l0 => k_is)
    (case c0 => k_is)
    (case k0 => k_is)
    (case a1 => k_is)
    (case l1 => k_is)
    (case c1 => k_is)
    (case k1 => k_is)
    (case a2 => k_is)
    (case l2 => k_is)
    (case c2 => k_is)
    (case k2 => k_is)
    (case a3 => k_is)
    (case l3 => k_is)
    (case c3 => k_is)
    (case k3 => k_is)
    (case a4 => k_is)
    (case l4 => k_is)
    (case c4 => k_is)
    (case k4 => k_is)
    (case a5 => k_is)
    (case l5 => k_is)
    (case c5 => k_is)
    (case k5 => k_is)
    (case a6 => k_is)
    (case l6 => k_is)
    (case c6 => k_is)
    (case k6 => k_is)
    (case a7 => k_is)
    (case l7 => k_is)
    (case c7 => k_is)
    (case k7 => k_is)
    (case a8 => k_is)
    (case l8 => k_is)
    (case c8 => k_is)
    (case k8 => k_is)
    (case a9 => k_is)
    (case l9 => k_is)
    (case c9 => k_is)
    (case k9 => k_is)
    (case a10 => k_is)
    (case l10 => k_is)
    (case c10 => k_is)
    (case k10 => k_is)
    (case a11 => k_is)
    (case l11 => k_is)
    (case c11 => k_is)
    (case k11 => k_is)
    (case a12 => k_is)
    (case l12 => k_is)
    (case c12 => k_is)
    (case k12 => k_is)
    (case a13 => k_is)
    (case l13 => k_is)
    (case c13 => k_is)
    (case k13 => k_is)
    (case a14 => k_is)
    (case l14 => k_is)
    (case c14 => k_is)
    (case k14 => k_is)
    (case a15 => k_is)
    (case l15 => k_is)
    (case c15 => k_is)
    (case k15 => k_is)
    (case a16 => k_is)
    (case l16 => k_is)
    (case c16 => k_is)
    (case k16 => k_is)
    (case a17 => k_is)
    (case l17 => k_is)
    (case c17 => k_is)
    (case k17 => k_is)
    (case a18 => k_is)
    (case l18 => k_is)
    (case c18 => k_is)
    (case k18 => k_is)
    (case a19 => k_is)
    (case l19 => k_is)
    (case c19 => k_is)
    (case k19 => k_is)
    (case a20 => k_is)
    (case l20 => k_is)
    (case c20 => k_is)
    (case k20 => k_is)
    (case a21 => k_is)
    (case l21 => k_is)
    (case c21 => k_is)
    (case k21 => k_is)
    (case a22 => k_is)
    (case l22 => k_is)
    (case c22 => k_is)
    (case k22 => k_is)
    (case a23 => k_is)
    (case l23 => k_is)
    (case c23 => k_is)
    (case k23 => k_is)
    (case a24 => k_is)
    (case l24 => k_is)
    (case c24 => k_is)
    (case k24 => k_is)
    (case a25 => k_is)
    (case l25 => k_is)
    (case c25 => k_is)
    (case k25 => k_is)
    (case a26 => k_is)
    (case l26 => k_is)
    (case c26 => k_is)
    (case k26 => k_is)
    (case a27 => k_is)
    (case l27 => k_is)
    (case c27 => k_is)
    (case k27 => k_is)
    (case a28 => k_is)
    (case l28 => k_is)
    (case c28 => k_is)
    (case k28 => k_is)
    (case a29 => k_is)
    (case l29 => k_is)
    (case c29 => k_is)
    (case k29 => k_is)
    (case a30 => k_is)
    (case l30 => k_is)
    (case c30 => k_is)
    (case k30 => k_is)
    (case a31 => k_is)
    (case l31 => k_is)
    (case c31 => k_is)
    (case k31 => k_is)
    (case a32 => k_is)
    (case l32 => k_is)
    (case c32 => k_is)
    (case k32 => k_is)
    (case a33 => k_is)
    (case l33 => k_is)
    (case c33 => k_is)
    (case k33 => k_is)
    (case a34 => k_is)
    (case l34 => k_is)
    (case c34 => k_is)
    (case k34 => k_is)
    (case a35 => k_is)
    (case l35 => k_is)
    (case c35 => k_is)
    (case k35 => k_is)
    (case a36 => k_is)
    (case l36 => k_is)
    (case c36 => k_is)
    (case k36 => k_is)
    (case a37 => k_is)
    (case l37 => k_is)
    (case c37 => k_is)
    (case k37 => k_is)
    (case a38 => k_is)
    (case l38 => k_is)
    (case c38 => k_is)
    (case k38 => k_is)
    (case a39 => k_is)
    (case l39 => k_is)
    (case c39 => k_is)
    (case k39 => k_is)
    (case a40 => k_is)
    (case i40 => k_is)
    (case l40 => k_is)
    (case c40 => k_is)
    (case k40 => k_is)
    (case a41 => k_is)
    (case i41 => k_is)
    (case l41 => k_is)
    (case c41 => k_is)
    (case k41 => k_is)
    (case a42 => k_is)
    (case i42 => k_is)
    (case l42 => k_is)
    (case c42 => k_is)
    (case k42 => k_is)
    (case a43 => k_is)
    (case i43 => k_is)
    (case l43 => k_is)
    (case c43 => k_is)
    (case k43 => k_is)
    (case a44 => k_is)
    (case i44 => k_is)
    (case l44 => k_is)
    (case c44 => k_is)
    (case k44 => k_is)
    (case a45 => k_is)
    (case l45 => k_is)
    (case c45 => k_is)
    (case k45 => k_is)
    (case a46 => k_is)
    (case l46 => k_is)
    (case c46 => k_is)
    (case k46 => k_is)
    (case a47 => k_is)
    (case l47 => k_is)
    (case c47 => k_is)
    (case k47 => k_is)
    (case a48 => k_is)
    (case l48 => k_is)
    (case c48 => k_is)
    (case k48 => k_is)
    (case a49 => k_is)
    (case l49 => k_is)
    (case c49 => k_is)
    (case k49 => k_is)
    (case a50 => k_is)
    (case l50 => k_is)
    (case c50 => k_is)
    (case k50 => k_is)
    (case a51 => k_is)
    (case l51 => k_is)
    (case c51 => k_is)
    (case k51 => k_is)
    (case a52 => k_is)
    (case l52 => k_is)
    (case c52 => k_is)
    (case k52 => k_is)
    (case a53 => k_is)
    (case l53 => k_is)
    (case c53 => k_is)
    (case k53 => k_is)
    (case a54 => k_is)
    (case l54 => k_is)
    (case c54 => k_is)
    (case k54 => k_is)
    (case a55 => k_is)
    (case l55 => k_is)
    (case c55 => k_is)
    (case k55 => k_is)
    (case a56 => k_is)
    (case l56 => k_is)
    (case c56 => k_is)
    (case k56 => k_is)
    (case a57 => k_is)
    (case l57 => k_is)
    (case c57 => k_is)
    (case k57 => k_is)
    (case a58 => k_is)
    (case l58 => k_is)
    (case c58 => k_is)
    (case k58 => k_is)
    (case a59 => k_is)
    (case l59 => k_is)
    (case c59 => k_is)
    (case k59 => k_is)
    (case a60 => k_is)
    (case l60 => k_is)
    (case c60 => k_is)
    (case k60 => k_is)
    (case a61 => k_is)
    (case l61 => k_is)
    (case c61 => k_is)
    (case k61 => k_is)
    (case a62 => k_is)
    (case l62 => k_is)
    (case c62 => k_is)
    (case k62 => k_is)
    (case a63 => k_is)
    (case l63 => k_is)
    (case c63 => k_is)
    (case k63 => k_is)
    (case a64 => k_is)
    (case l64 => k_is)
    (case c64 => k_is)
    (case k64 => k_is)
    (case a65 => k_is)
    (case l65 => k_is)
    (case c65 => k_is)
    (case k65 => k_is)
    (case a66 => k_is)
    (case l66 => k_is)
    (case c66 => k_is)
    (case k66 => k_is)
    (case a67 => k_is)
    (case l67 => k_is)
    (case c67 => k_is)
    (case k67 => k_is)
    (case a68 => k_is)
    (case l68 => k_is)
    (case c68 => k_is)
    (case k68 => k_is)
    (case a69 => k_is)
    (case l69 => k_is)
    (case c69 => k_is)
    (case k69 => k_is)
    (case a70 => k_is)
    (case l70 => k_is)
    (case c70 => k_is)
    (case k70 => k_is)
    (case a71 => k_is)
    (case l71 => k_is)
    (case c71 => k_is)
    (case k71 => k_is)
    (case a72 => k_is)
    (case l72 => k_is)
    (case c72 => k_is)
    (case k72 => k_is)
    (case a73 => k_is)
    (case l73 => k_is)
    (case c73 => k_is)
    (case k73 => k_is)
    (case z_isinstance => k_is)
    (case z_int => k_is)
    (case z_bool => k_is)
    (case z_all => k_is)
    (case z_str => k_is)
    (case z_len => k_is)
    (case z_enumerate => k_is)
    (case z_tuple => k_is)
    (case z_zip => k_is)
    (case z_range => k_is)
    (case z_max => k_is)
    (case z_sorted => k_is)
    (case z_set => k_is)
    (case z_min => k_is)
    (case z_list => k_is)
    (case z_ValueError => k_is)
    (case z_any => k_is)
    (case gc_LETTERS => k_is)
    (case gc_DIGITS => k_is)
    (case gc_LONGEST_WORD => k_is)
    (case gc_LONGEST_NUMBER => k_is)
    (case gc_NUMBERS_END => k_is)
    (case gc_DEEPEST_TUPLE => k_is)
    (case gc_MOST_OPTIONS => k_is)
    (case gc_MOST_OUTCOMES => k_is)
    (case gc_MOST_SMALL_OPTIONS => k_is)
    (case gc_MOST_SMALL_CONTEXTS => k_is)
    (case gc_DEEPEST_AIM => k_is)
    (case gc_RANKS_END => k_is)
    (case g_OutOfRange => k_is)
    (case g_SizeMismatch => k_is)
    (case g_InvalidAim => k_is)
    (case g_InvalidContext => k_is)
    (case g_TooLarge => k_is)
    (case g_InvalidTerm => k_is)
    (case g_ChoosersError => k_is)
    (case x_OutOfRange => k_exc)
    (case x_SizeMismatch => k_exc)
    (case x_InvalidContext => k_exc)
    (case x_TooLarge => k_exc)
    (case z_super => k_is)
    (case opq_ => k_is)
    (case kc_OutOfRange => k_is)
    (case e_OutOfRange => k_is)
    (case t_OutOfRange => k_is)
    (case hg_OutOfRange => k_is)
    (case hk_OutOfRange => k_is)
    (case hd_OutOfRange => k_is)
    (case ha_OutOfRange => k_is)
    (case hm_OutOfRange => k_is)
    (case s_OutOfRange_OutOfRange => first | rfl | k_is)
    (case s_OutOfRange_SizeMismatch => k_is)
    (case s_OutOfRange_InvalidTerm => k_is)
    (case s_OutOfRange_TooLarge => k_is)
    (case s_OutOfRange_ValueError => k_is)
    (case s_OutOfRange_ChoosersError => k_is)
    (case kc_SizeMismatch => k_is)
    (case e_SizeMismatch => k_is)
    (case t_SizeMismatch => k_is)
    (case hg_SizeMismatch => k_is)
    (case hk_SizeMismatch => k_is)
    (case hd_SizeMismatch => k_is)
    (case ha_SizeMismatch => k_is)
    (case hm_SizeMismatch => k_is)
    (case s_SizeMismatch_SizeMismatch => first | rfl | k_is)
    (case s_SizeMismatch_OutOfRange => k_is)
    (case s_SizeMismatch_InvalidTerm => k_is)
    (case s_SizeMismatch_TooLarge => k_is)
    (case s_SizeMismatch_ValueError => k_is)
    (case s_SizeMismatch_ChoosersError => k_is)
    (case kc_InvalidAim => k_is)
    (case e_InvalidAim => k_is)
    (case t_InvalidAim => k_is)
    (case hg_InvalidAim => k_is)
    (case hk_InvalidAim => k_is)
    (case hd_InvalidAim => k_is)
    (case ha_InvalidAim => k_is)
    (case hm_InvalidAim => k_is)
    (case s_InvalidAim_InvalidAim => first | rfl | k_is)
    (case s_InvalidAim_SizeMismatch => k_is)
    (case s_InvalidAim_OutOfRange => k_is)
    (case s_InvalidAim_InvalidTerm => k_is)
    (case s_InvalidAim_TooLarge => k_is)
    (case s_InvalidAim_ValueError => k_is)
    (case s_InvalidAim_ChoosersError => k_is)
    (case kc_InvalidContext => k_is)
    (case e_InvalidContext => k_is)
    (case t_InvalidContext => k_is)
    (case hg_InvalidContext => k_is)
    (case hk_InvalidContext => k_is)
    (case hd_InvalidContext => k_is)
    (case ha_InvalidContext => k_is)
    (case hm_InvalidContext => k_is)
    (case s_InvalidContext_InvalidContext => first | rfl | k_is)
    (case s_InvalidContext_SizeMismatch => k_is)
    (case s_InvalidContext_OutOfRange => k_is)
    (case s_InvalidContext_InvalidTerm => k_is)
    (case s_InvalidContext_TooLarge => k_is)
    (case s_InvalidContext_ValueError => k_is)
    (case s_InvalidContext_ChoosersError => k_is)
    (case kc_TooLarge => k_is)
    (case e_TooLarge => k_is)
    (case t_TooLarge => k_is)
    (case hg_TooLarge => k_is)
    (case hk_TooLarge => k_is)
    (case hd_TooLarge => k_is)
    (case ha_TooLarge => k_is)
    (case hm_TooLarge => k_is)
    (case s_TooLarge_TooLarge => first | rfl | k_is)
    (case s_TooLarge_SizeMismatch => k_is)
    (case s_TooLarge_OutOfRange => k_is)
    (case s_TooLarge_InvalidTerm => k_is)
    (case s_TooLarge_ValueError => k_is)
    (case s_TooLarge_ChoosersError => k_is)
    (case ic_InvalidAim => k_is)
    (case li_InvalidAim => k_is)
    (case cdi_InvalidAim => k_is)
    (case ti_InvalidAim => k_is)
    (case no_InvalidAim => k_is)
    (case cell_InvalidAim => k_is)
    (case own_InvalidAim => k_is)
    (case sb_InvalidAim => k_is)
    (case ve_InvalidAim => k_is)
    (case sup_InvalidAim => ks_is)
    (case code_InvalidAim => k_is)
    (case cfl_InvalidAim => rfl)
    (case hfl_InvalidAim => first | rfl | decide +kernel)
    (case ob_InvalidAim => k_is)
    (case rv_InvalidAim => first | rfl | decide +kernel)
    (case sa_InvalidAim => k_is)
    (case htop_ => first | rfl | decide +kernel)
    (case q_OutOfRange => k_is)
    (case q_SizeMismatch => k_is)
    (case q_InvalidAim => k_is)
    (case q_InvalidContext => k_is)
    (case q_TooLarge => k_is)
    (case q_InvalidTerm => k_is)
    (case t_InvalidTerm => k_is)
    (case q_ChoosersError => k_is)
    (case t_ChoosersError => k_is)
    (case e_ChoosersError => k_is)
    (case hd_ChoosersError => k_is)
    (case hn_ => k_is)
    (case ht_ => k_is)
    (case pg_Aim => k_is)
    (case hdc_Aim => k_is)
    (case po_Aim => k_is)
    (case sac_Aim => k_is)
    (case mk_Aim => k_is)
    (case kcc_Aim => k_is)
    (case sf_Aim => k_is)
    (case na_Aim_term => k_is)
    (case na_Aim_options => k_is)
    (case na_Aim_outcomes => k_is)
    (case g_SHAPES => k_is)
    (case ld_SHAPES => k_is)
    (case kl_SHAPES => k_keys)
    (case kn_SHAPES => rfl)
    (case lo_SHAPES => first | rfl | decide +kernel)
    (case v_SHAPES_0 => k_is)
    (case lt_SHAPES_0 => k_is)
    (case vs_SHAPES_0 => exact .nil)
    (case sz_SHAPES_0 => decide)
    (case v_SHAPES_1 => k_is)
    (case lt_SHAPES_1 => k_is)
    (case vs_SHAPES_1 => exact (.cons ⟨_, rfl⟩ .nil))
    (case sz_SHAPES_1 => decide)
    (case v_SHAPES_2 => k_is)
    (case lt_SHAPES_2 => k_is)
    (case vs_SHAPES_2 => exact (.cons ⟨_, rfl⟩ .nil))
    (case sz_SHAPES_2 => decide)
    (case v_SHAPES_3 => k_is)
    (case lt_SHAPES_3 => k_is)
    (case vs_SHAPES_3 => exact .nil)
    (case sz_SHAPES_3 => decide)
    (case v_SHAPES_4 => k_is)
    (case lt_SHAPES_4 => k_is)
    (case vs_SHAPES_4 => exact .nil)
    (case sz_SHAPES_4 => decide)
    (case v_SHAPES_5 => k_is)
    (case lt_SHAPES_5 => k_is)
    (case vs_SHAPES_5 => exact .nil)
    (case sz_SHAPES_5 => decide)
    (case v_SHAPES_6 => k_is)
    (case lt_SHAPES_6 => k_is)
    (case vs_SHAPES_6 => exact (.cons ⟨_, rfl⟩ .nil))
    (case sz_SHAPES_6 => decide)
    (case v_SHAPES_7 => k_is)
    (case lt_SHAPES_7 => k_is)
    (case vs_SHAPES_7 => exact (.cons ⟨_, rfl⟩ .nil))
    (case sz_SHAPES_7 => decide)
    (case v_SHAPES_8 => k_is)
    (case lt_SHAPES_8 => k_is)
    (case vs_SHAPES_8 => exact (.cons ⟨_, rfl⟩ .nil))
    (case sz_SHAPES_8 => decide)
    (case v_SHAPES_9 => k_is)
    (case lt_SHAPES_9 => k_is)
    (case vs_SHAPES_9 => exact (.cons ⟨_, rfl⟩ .nil))
    (case sz_SHAPES_9 => decide)
    (case v_SHAPES_10 => k_is)
    (case lt_SHAPES_10 => k_is)
    (case vs_SHAPES_10 => exact (.cons ⟨_, rfl⟩ .nil))
    (case sz_SHAPES_10 => decide)
    (case v_SHAPES_11 => k_is)
    (case lt_SHAPES_11 => k_is)
    (case vs_SHAPES_11 => exact (.cons ⟨_, rfl⟩ (.cons ⟨_, rfl⟩ .nil)))
    (case sz_SHAPES_11 => decide)
    (case v_SHAPES_12 => k_is)
    (case lt_SHAPES_12 => k_is)
    (case vs_SHAPES_12 => exact (.cons ⟨_, rfl⟩ (.cons ⟨_, rfl⟩ .nil)))
    (case sz_SHAPES_12 => decide)
    (case v_SHAPES_13 => k_is)
    (case lt_SHAPES_13 => k_is)
    (case vs_SHAPES_13 => exact (.cons ⟨_, rfl⟩ (.cons ⟨_, rfl⟩ .nil)))
    (case sz_SHAPES_13 => decide)
    (case v_SHAPES_14 => k_is)
    (case lt_SHAPES_14 => k_is)
    (case vs_SHAPES_14 => exact (.cons ⟨_, rfl⟩ .nil))
    (case sz_SHAPES_14 => decide)
    (case v_SHAPES_15 => k_is)
    (case lt_SHAPES_15 => k_is)
    (case vs_SHAPES_15 => exact (.cons ⟨_, rfl⟩ .nil))
    (case sz_SHAPES_15 => decide)
    (case v_SHAPES_16 => k_is)
    (case lt_SHAPES_16 => k_is)
    (case vs_SHAPES_16 => exact (.cons ⟨_, rfl⟩ (.cons ⟨_, rfl⟩ .nil)))
    (case sz_SHAPES_16 => decide)
    (case v_SHAPES_17 => k_is)
    (case lt_SHAPES_17 => k_is)
    (case vs_SHAPES_17 => exact (.cons ⟨_, rfl⟩ (.cons ⟨_, rfl⟩ .nil)))
    (case sz_SHAPES_17 => decide)
    (case g_RULES => k_is)
    (case ld_RULES => k_is)
    (case kl_RULES => k_keys)
    (case kn_RULES => rfl)
    (case lo_RULES => first | rfl | decide +kernel)
    (case v_RULES_0 => k_is)
    (case v_RULES_1 => k_is)
    (case v_RULES_2 => k_is)
    (case v_RULES_3 => k_is)
    (case v_RULES_4 => k_is)
    (case v_RULES_5 => k_is)
    (case v_RULES_6 => k_is)
    (case v_RULES_7 => k_is)
    (case v_RULES_8 => k_is)
    (case v_RULES_9 => k_is)
    (case v_RULES_10 => k_is)
    (case v_RULES_11 => k_is)
    (case v_RULES_12 => k_is)
    (case v_RULES_13 => k_is)
    (case v_RULES_14 => k_is)
    (case v_RULES_15 => k_is)
    (case v_RULES_16 => k_is)
    (case v_RULES_17 => k_is)
